import PyProof.Rows.All
import Wide.All
import OpenK.AllK
import Wide.FinOn
import Lean
import PyProof.EqAt
import PyProof.EqKinds
import PyProof.TupleCall
import PySem.Challenge.RW_spanrow_k21_counts_far
set_option Elab.async false
set_option linter.all false
set_option maxRecDepth 100000
namespace PySem.W.Fast
def tw8396740206889705731:=0
def tw3205039977448304110:=0
def tw8724646039056255614:=0
def tw9920842918572275779:=0
def tw4535123152067163657:=0
def tw10015953804411668642:=0
def tw16347419014960337740:=0
def tw823281985374499721:=0
def tw13873534534635555304:=0
def tw5453145833702175538:=0
def tw3865672150783681609:=0
def tw15291692377087842207:=0
def tw11589218824811992907:=0
def tw16142023334671199566:=0
def tw8553432347396836492:=0
def tw5073513882780923269:=0
def tw9399410272651693660:=0
def tw14589897353546286541:=0
def tw13918217923930156863:=0
def tw15768536860410924113:=0
def tw5964551278625317779:=0
def tw7835351612865845939:=0
def tw2871582234973368547:=0
def tw11373721551291318414:=0
def tw1743689593002652359:=0
def tw11839557172935846040:=0
def tw13541244449786089137:=0
def tw4542571601244023752:=0
def tw1935202278552324389:=0
def tw1705293505770870061:=0
def tw8027140307714689152:=0
def tw14670149155325175780:=0
def tw1788843053847665941:=0
def tw11738798116731662481:=0
def tw564614106300026774:=0
def tw9131948413172285344:=0
def tw12749214599925115671:=0
def tw16394026527773689395:=0
def tw1619848551809510891:=0
def tw17096513809338828890:=0
def tw7345197134522304572:=0
def tw16667519940500718517:=0
def tw16550691431587442796:=0
def tw14116844923457919147:=0
def tw9139613123256252384:=0
def tw13594058260544040998:=0
def tw18383219181701090632:=0
def tw2767299951187153248:=0
def tw13470451677985078759:=0
def tw13901795654224723397:=0
def tw12162386365221247386:=0
def tw9780770742352225503:=0
def tw4809416420976868082:=0
def tw7521829705736655763:=0
def tw16464491758580104528:=0
def tw10941647534983903610:=0
def tw17233310275898134309:=0
def tw11431845561997971569:=0
def tw16373751025458147792:=0
def tw12886870595938321078:=0
def tw15923822909332815023:=0
def tw9577270072542864329:=0
def tw11563597522507455062:=0
def tw13436386554012323105:=0
def tw867938836406013683:=0
def tw14915006023122859471:=0
def tw15994261014794342266:=0
def tw16900449354029856061:=0
def tw458050439009843918:=0
def tw376229852429812027:=0
def tw16584335906649166852:=0
def tw10851879140687787133:=0
def tw3509665855161941899:=0
def tw14095562751956413494:=0
def tw17447007544288127173:=0
def tw2000238240318508435:=0
def tw13980991914225641755:=0
def tw8958881889429137518:=0
def tw13138827185209453270:=0
def tw9201956793201411923:=0
def tw4837482864849931311:=0
def tw2894818141649447531:=0
def tw11123741497966909725:=0
def tw9146246151659886112:=0
def tw2467545521327325920:=0
def tw16695941787513822167:=0
def tw5684107315109956548:=0
def tw13516245550606543420:=0
def tw10365921075662527283:=0
def tw1429619706207761474:=0
def tw755231515932906674:=0
def tw6634899795555853591:=0
def tw12748061362353563338:=0
def tw1071249944018480670:=0
def tw14106715055959958064:=0
def tw16437457622264704576:=0
def tw10641225318728916655:=0
def tw3718943722920710682:=0
def tw57671898765410495:=0
def tw4835719991400815298:=0
def tw18437629366247867872:=0
def tw13887323846878229616:=0
def tw6535480226598361050:=0
def tw5216053975406319666:=0
def tw7732106222078771097:=0
def tw12334534450485141647:=0
def tw7860968440368860177:=0
def tw2642798035540595299:=0
def tw1913495121534314387:=0
def tw17008224685939643065:=0
def tw3959977286959002230:=0
def tw16124762575340118976:=0
def tw12531504007684325396:=0
def tw10846105032713594666:=0
def tw7809911311110600940:=0
def tw5877263704714759817:=0
def tw1953820062933476315:=0
def tw14944705233894107996:=0
def tw1270356992534959756:=0
def tw305828209882590276:=0
def tw14939613811599223592:=0
def tw8232700425875744823:=0
def tw1159441443010429353:=0
def tw9013919758887375636:=0
def tw17829027776486974745:=0
def tw1381335360739745591:=0
def tw15527447833768193916:=0
def tw12341978449476033404:=0
def tw2729207165979232268:=0
def tw9667247420861636722:=0
def tw16091166426812442022:=0
def tw11194462576046242138:=0
def tw13108016627046581019:=0
def tw2412053694214232087:=0
def tw3561551366468940302:=0
def tw6473812607196754245:=0
def tw8457269430097705883:=0
def tw11360014462119958416:=0
def tw17249249409992821336:=0
def tw16534840040600610259:=0
def tw11114554261500764752:=0
def tw11436404354171935251:=0
def tw2206619731217160422:=0
def tw14806272860568264037:=0
def tw16014417989387879616:=0
def tw10214778318134364611:=0
def tw5646128433873093254:=0
def tw5555236127356292289:=0
def tw5435134294075397960:=0
def tw17112918947792739030:=0
def tw16211885789916764078:=0
def tw12902524667841937653:=0
def tw27956736775640439:=0
def tw437157524006475135:=0
def tw4273042095695999672:=0
def tw17323917168917262691:=0
def tw5645354837224981251:=0
def tw16026208635052166905:=0
def tw18197353637673538245:=0
def tw466300934536277428:=0
def tw16177396118022940124:=0
def tw3477520535464314453:=0
def tw2945294813086917639:=0
def tw17285720760263280798:=0
def tw12648320107850693711:=0
def tw12327794694199982765:=0
def tw11987420224947113101:=0
def tw7806557735114576873:=0
def tw7583293512274560334:=0
def tw7541980048502395267:=0
def tw7101643982857902927:=0
def tw3338590132315790921:=0
def tw17441308473972809995:=0
def tw6419723831280221776:=0
def tw4437085589102689487:=0
def tw13160871643442681350:=0
def tw9676395662555722069:=0
def tw7297209623081848097:=0
def tw18103478024619305959:=0
def tw13157620962940432293:=0
def tw11414559358268108674:=0
def tw9995085453871516604:=0
def tw9668393483375352355:=0
def tw926067588633184206:=0
def tw9210315566575048660:=0
def tw8446791455895932305:=0
def tw8021515007753499195:=0
def tw7952697111641611578:=0
def tw7571970900690336202:=0
def tw7374079723515915969:=0
def tw6821684864172031246:=0
def tw5789420617026540320:=0
def tw5717095171400115566:=0
def tw5417177613402949454:=0
def tw5018253727879025119:=0
def tw4970541728193190606:=0
def tw4154707136614451855:=0
def tw3719999588080926730:=0
def tw3615390207065173020:=0
def tw3526213391382008266:=0
def tw3468412769858595159:=0
def tw3431107606625632743:=0
def tw3278773442436616407:=0
def tw3181374674821043465:=0
def tw2599415539116631372:=0
def tw2149495971711160761:=0
def tw1788483350702379033:=0
def tw17730882543731054044:=0
def tw17717894125102595624:=0
def tw17207624070689480024:=0
def tw17167650381545918918:=0
def tw17119355857089186151:=0
def tw16865428426524405558:=0
def tw16833571630497763409:=0
def tw16744610142250738156:=0
def tw16085986142705790343:=0
def tw1580708150669788291:=0
def tw15712072718334086879:=0
def tw15650813483523581521:=0
def tw15240179646124753163:=0
def tw15068383431959546729:=0
def tw1490492435193531454:=0
def tw14612330776371927853:=0
def tw14097708089676392773:=0
def tw13572859415881377478:=0
def tw13268246098450672230:=0
def tw13103896368915989229:=0
def tw12593332047823936840:=0
def tw12143165750937291665:=0
def tw1182255359702582286:=0
def tw11759860431323485729:=0
def tw11650974117859866295:=0
def tw1163266610498638688:=0
def tw11284590494450602920:=0
def tw11131115831689442972:=0
def tw1080875790825015790:=0
def tw10436779580262589246:=0
end PySem.W.Fast
/-! THE HAND LAYER, for ints, bools, texts, own classes, LISTS and tuples (index, slices, in, append, pop ..), calls, loops. Paste it whole ahead of your own text; what your proof does not reach may be deleted. -/
namespace L2
open PySem PySem.Spec PyProof.Rows

/-- a key: an int or a str -/
abbrev Key := Sum Int Str
def keyIs : Key → Value → Bool
  | .inl k, v => Value.isInt k v
  | .inr x, v => Value.isStrOf x v
def keyH (w : World) : Key → Int
  | .inl k => hashInt k
  | .inr x => hashStr w x
theorem keyIs_shape : ∀ {k : Key} {v : Value}, keyIs k v = true → (∃ i t, k = Sum.inl i ∧ v = Value.int i t) ∨ (∃ x t, k = Sum.inr x ∧ v = Value.str x t)
  | .inl i, v, h => by
    obtain ⟨t, e⟩ := Value.isInt_shape (k := i) (v := v) h
    exact .inl ⟨i, t, rfl, e⟩
  | .inr x, v, h => by
    obtain ⟨t, e⟩ := Value.isStrOf_shape (x := x) (v := v) h
    exact .inr ⟨x, t, rfl, e⟩
theorem key_ll (a b : Int) : decide ((Sum.inl a : Key) = Sum.inl b) = (a == b) := by
  by_cases e : a = b
  · subst e; simp
  · have h : ¬ (Sum.inl a : Key) = Sum.inl b := fun q => e (Sum.inl.inj q)
    rw [decide_eq_false h]
    exact (beq_eq_false_iff_ne.mpr e).symm
theorem key_rr (a b : Str) : decide ((Sum.inr a : Key) = Sum.inr b) = decide (a = b) := by
  by_cases e : a = b
  · subst e; simp
  · have h : ¬ (Sum.inr a : Key) = Sum.inr b := fun q => e (Sum.inr.inj q)
    rw [decide_eq_false h, decide_eq_false e]
theorem key_lr (a : Int) (b : Str) : decide ((Sum.inl a : Key) = Sum.inr b) = false := decide_eq_false (fun q => nomatch q)
theorem key_rl (a : Str) (b : Int) : decide ((Sum.inr a : Key) = Sum.inl b) = false := decide_eq_false (fun q => nomatch q)

def mixKind (prog : Program) (w : World) : PySem.KeyKind prog w Key where
  is := keyIs
  hash := keyH w
  inj := fun v a b ha hb => by
    rcases keyIs_shape ha with ⟨i, t, rfl, rfl⟩ | ⟨x, t, rfl, rfl⟩
    · rcases keyIs_shape hb with ⟨j, u, rfl, e⟩ | ⟨y, u, rfl, e⟩
      · injection e with e1 _; rw [e1]
      · exact nomatch e
    · rcases keyIs_shape hb with ⟨j, u, rfl, e⟩ | ⟨y, u, rfl, e⟩
      · exact nomatch e
      · injection e with e1 _; rw [e1]
  byValue := fun k v h => by
    rcases keyIs_shape h with ⟨i, t, rfl, rfl⟩ | ⟨x, t, rfl, rfl⟩ <;> rfl
  pyHash := fun hv h => by
    rcases keyIs_shape hv with ⟨i, t, rfl, rfl⟩ | ⟨x, t, rfl, rfl⟩
    · exact wpAny_pyHash_int h
    · exact wpAny_pyHash_str h
  eqBool := fun hu hv h => by
    rcases keyIs_shape hu with ⟨i, t, rfl, rfl⟩ | ⟨x, t, rfl, rfl⟩
    · rcases keyIs_shape hv with ⟨j, u, rfl, rfl⟩ | ⟨y, u, rfl, rfl⟩
      · rw [key_ll] at h; exact wpAny_eqBool_int h
      · rw [key_lr] at h; exact SeqAt.EqAt.int_str i t y u _ _ _ _ h
    · rcases keyIs_shape hv with ⟨j, u, rfl, rfl⟩ | ⟨y, u, rfl, rfl⟩
      · rw [key_rl] at h; exact SeqAt.EqAt.str_int x t j u _ _ _ _ h
      · rw [key_rr] at h; exact wpAny_eqBool_str h
  «strs» := fun k x t v h => by
    rcases keyIs_shape h with ⟨i, u, rfl, e⟩ | ⟨y, u, rfl, e⟩
    · exact nomatch e
    · injection e with e1 _
      subst e1
      cases v <;> rfl

end L2

namespace L2
open PySem PySem.Spec PyProof.Rows

/-- a value, without the heap -/
inductive V where
  | non | bl (b : Bool) | int (i : Int) | str (x : Str) | byt (b : Array UInt8) | flt (b : UInt64) | ref (a : Addr) | ty (n : String)
  deriving DecidableEq

def RelV : V → Value → Prop
  | .non, u => u = Value.none
  | .bl b, u => u = Value.bool b
  | .int i, u => ∃ t, u = Value.int i t
  | .str x, u => ∃ t, u = Value.str x t
  | .byt b, u => ∃ t, u = Value.bytes b t
  | .flt b, u => ∃ t, u = Value.float b t
  | .ref a, u => u = Value.ref a
  | .ty n, u => u = Value.type n

abbrev Vals : List V → List Value → Prop := Paired RelV
theorem Vals.length {xs : List V} {us : List Value} (r : Vals xs us) : xs.length = us.length := Paired.length r
theorem Vals.get : ∀ {xs : List V} {us : List Value} {i : Nat} {x : V}, Vals xs us → xs[i]? = some x → ∃ u, us[i]? = some u ∧ RelV x u
  | _, _, _, _, .nil, e => by simp at e
  | _, _, 0, _, .cons r _, e => by simp at e; subst e; exact ⟨_, rfl, r⟩
  | _, _, i + 1, x, .cons _ t, e => by
    obtain ⟨u, h1, h2⟩ := Vals.get (i := i) (x := x) t (by simpa using e)
    exact ⟨u, by simpa using h1, h2⟩
theorem Vals.set {x : V} {u : Value} (r : RelV x u) : ∀ {xs : List V} {us : List Value} (i : Nat), Vals xs us → Vals (xs.set i x) (us.set i u)
  | _, _, _, .nil => .nil
  | _, _, 0, .cons _ t => .cons r t
  | _, _, i + 1, .cons q t => .cons q (Vals.set r i t)
theorem Vals.append : ∀ {xs ys : List V} {us ws : List Value}, Vals xs us → Vals ys ws → Vals (xs ++ ys) (us ++ ws)
  | _, _, _, _, .nil, s => s
  | _, _, _, _, .cons r t, s => .cons r (Vals.append t s)
theorem Vals.take : ∀ {xs : List V} {us : List Value} (n : Nat), Vals xs us → Vals (xs.take n) (us.take n)
  | _, _, 0, _ => .nil
  | _, _, _ + 1, .nil => .nil
  | _, _, n + 1, .cons r t => .cons r (Vals.take n t)
theorem Vals.drop : ∀ {xs : List V} {us : List Value} (n : Nat), Vals xs us → Vals (xs.drop n) (us.drop n)
  | _, _, 0, r => r
  | _, _, _ + 1, .nil => .nil
  | _, _, n + 1, .cons _ t => Vals.drop n t
def RelO : Option V → Option Value → Prop
  | some v, some u => RelV v u
  | none, none => True
  | _, _ => False
def KV {κ : Type} : List (κ × V) → List (κ × Value) → Prop := Paired fun (p : κ × V) (q : κ × Value) => p.1 = q.1 ∧ RelV p.2 q.2

/-- a key of a dict (00_mix): an int or a text -/
def kV : Key → V
  | .inl i => .int i
  | .inr x => .str x

/-- what stands at a tracked address -/
inductive HO where
  /-- a list -/
  | lst (xs : List V)
  /-- a tuple (never changes) -/
  | tup (xs : List V)
  /-- a dict whose keys are ints and texts; one whose keys are tuples of ints and texts (the empty one is both) -/
  | dK (kvs : List (Key × V)) | dT (kvs : List (List Key × V))
  /-- a set of ints: its members, its size -/
  | set (S : Int → Bool) (n : Nat)
  /-- an instance of the class at C, its dict at dx, its attributes -/
  | ins (C dx : Addr) (fs : List (Str × V))
  /-- the dict of the instance at x -/
  | own (x : Addr)
  /-- the dict of an exception -/
  | xd (fs : List (Str × V))
  /-- a bound method, f of x -/
  | met (f x : Addr)
  /-- a range object lo, lo + 1, .. below hi -/
  | rng (lo hi : Int)
  /-- a thing that is known to the object (the script; a dict while a loop walks it): read, never written while it is so -/
  | frz (o : Obj) (u : HO)
  /-- a code object's table -/
  | tbl (ps : Array Value)
  /-- any other thing, by what is true of its one object (a def of one's own: SetO a S n := HO.ext fun h => ..) -/
  | ext (φ : Heap → Prop)

abbrev Hp := Addr → Option HO
def upd (H : Hp) (a : Addr) (o : HO) : Hp := fun b => if b = a then some o else H b
theorem upd_same {H : Hp} {a : Addr} {o : HO} : upd H a o a = some o := by unfold upd; rw [if_pos rfl]
theorem upd_ne {H : Hp} {a b : Addr} {o : HO} (h : b ≠ a) : upd H a o b = H b := by unfold upd; rw [if_neg h]
/-- two objects of different content stand apart -/
theorem ne_of {H : Hp} {a b : Addr} {o u : HO} (h : H a = some o) (h' : H b = some u) (d : o ≠ u) : a ≠ b := by
  intro e; subst e; rw [h] at h'; exact d (Option.some.inj h')
theorem ne_of_none {H : Hp} {a b : Addr} {o : HO} (h : H a = some o) (h' : H b = none) : a ≠ b := by
  intro e; subst e; rw [h] at h'; cases h'

section
variable (P : Program) (w : World)
def ObjOk (H : Hp) (h : Heap) (a : Addr) : HO → Prop
  | .lst xs => xs.length ≤ sizeLine ∧ ∃ (its : List Value) (n : Nat), Vals xs its ∧ h.get? a = some { cls := .type "list", data := .seq its.toArray n }
  | .tup xs => xs.length ≤ sizeLine ∧ ∃ its : List Value, Vals xs its ∧ IsTup h a its.toArray
  | .dK kvs => kvs.length ≤ sizeLine ∧ (a == sysModules) = false ∧ ∃ vs, KV kvs vs ∧ h.DictOf (mixKind P w) a vs
  | .dT kvs => kvs.length ≤ sizeLine ∧ (a == sysModules) = false ∧ ∃ xs : List (List Key × Addr × Value),
      Paired (fun (p : List Key × V) (q : List Key × Addr × Value) => p.1 = q.1 ∧ H q.2.1 = some (.tup (p.1.map kV)) ∧ RelV p.2 q.2.2) kvs xs ∧
      ∃ o es ep, h.get? a = some o ∧ o.ExactDict ∧ o.data = .dict es ep ∧ es.toList = xs.map (entryOfKey (tupleKind (mixKind P w))) ∧ (xs.map (·.1)).Nodup
  | .set S n => h.SetOf (intKind P w) a S n
  | .ins C dx fs => H dx = some (.own a) ∧ fs.length ≤ 1000 ∧ dx ≠ a ∧ h.get? a = some (PySem.W.instObj C dx) ∧
      ∃ mA, h.Ns1 dx mA ∧ (∀ f, RelO (fs.lookup f) (mA f)) ∧ PySem.Within mA (fs.map (·.1))
  | .own _ => ∃ o, h.get? a = some o
  | .xd fs => ∃ mA, h.Ns1 a mA ∧ ∀ f, RelO (fs.lookup f) (mA f)
  | .rng lo hi => ∃ t u v, h.get? a = some { cls := .type "range", data := .fields #[.int lo t, .int hi u, .int 1 v] }
  | .frz o u => h.get? a = some o ∧ ObjOk H h a u
  | .tbl ps => h.get? a = some { cls := .none, data := .fields ps }
  | .met f x => h.get? a = some (PySem.W.methodObj (.ref f) (.ref x))
  | .ext φ => φ h ∧ (∃ o, h.get? a = some o) ∧ ∀ h1 h2 : Heap, φ h1 → (∀ o, h1.get? a = some o → h2.get? a = some o) → φ h2
/-- the abstract heap is held -/
def HOk (H : Hp) (h : Heap) : Prop := ∀ a o, H a = some o → ObjOk P w H h a o
end

section
variable {P : Program} {w : World} {H H' : Hp} {h h' : Heap} {a : Addr} {o : HO}
theorem ObjOk.lt (x : ObjOk P w H h a o) : a < h.objs.size := by
  cases o with
  | lst xs => obtain ⟨_, _, _, _, e⟩ := x; exact Heap.lt_size e
  | tup xs => obtain ⟨_, _, _, p⟩ := x; exact p.lt
  | dK kvs => obtain ⟨_, _, _, _, o, _, _, e, _⟩ := x; exact Heap.lt_size e
  | dT kvs => obtain ⟨_, _, _, _, o, _, _, e, _⟩ := x; exact Heap.lt_size e
  | set S n => obtain ⟨o, _, _, _, e, _⟩ := x; exact Heap.lt_size e
  | ins C dx fs => obtain ⟨_, _, _, e, _⟩ := x; exact Heap.lt_size e
  | own y => obtain ⟨_, e⟩ := x; exact Heap.lt_size e
  | xd fs => obtain ⟨_, ⟨_, _, _, e, _⟩, _⟩ := x; exact Heap.lt_size e
  | rng lo hi => obtain ⟨_, _, _, e⟩ := x; exact Heap.lt_size e
  | frz ob u => obtain ⟨e, _⟩ := x; exact Heap.lt_size e
  | tbl ps => exact Heap.lt_size (show h.get? a = some _ from x)
  | met f y => exact Heap.lt_size (show h.get? a = some _ from x)
  | ext φ => obtain ⟨_, ⟨_, e⟩, _⟩ := x; exact Heap.lt_size e
theorem Paired.mapP {α β : Type} {F G : α → β → Prop} : ∀ {l₁ : List α} {l₂ : List β}, Paired F l₁ l₂ → (∀ a b, F a b → G a b) → Paired G l₁ l₂
  | _, _, .nil, _ => .nil
  | _, _, .cons r t, f => .cons (f _ _ r) (Paired.mapP t f)
/-- what an object's description leans on: its own object, its own dict, the tuples -/
theorem ObjOk.stay (x : ObjOk P w H h a o) (k : ∀ b u, (b = a ∨ H b = some (.own a)) → h.get? b = some u → h'.get? b = some u)
    (ho : ∀ b, H b = some (.own a) → H' b = some (.own a)) (ht : ∀ b xs, H b = some (.tup xs) → H' b = some (.tup xs)) : ObjOk P w H' h' a o := by
  induction o with
  | lst xs => obtain ⟨z, its, n, r, e⟩ := x; exact ⟨z, its, n, r, k _ _ (.inl rfl) e⟩
  | tup xs => obtain ⟨z, its, r, ob, e, c⟩ := x; exact ⟨z, its, r, ob, k _ _ (.inl rfl) e, c⟩
  | dK kvs => obtain ⟨z, y, vs, r, ob, es, ep, e, c⟩ := x; exact ⟨z, y, vs, r, ob, es, ep, k _ _ (.inl rfl) e, c⟩
  | dT kvs =>
    obtain ⟨z, y, xs, r, ob, es, ep, e, c⟩ := x
    exact ⟨z, y, xs, Paired.mapP r fun p q z => ⟨z.1, ht _ _ z.2.1, z.2.2⟩, ob, es, ep, k _ _ (.inl rfl) e, c⟩
  | set S n => obtain ⟨ob, es, ep, t, e, c⟩ := x; exact ⟨ob, es, ep, t, k _ _ (.inl rfl) e, c⟩
  | ins C dx fs =>
    obtain ⟨d, z, ne, e, mA, ⟨od, es, ep, e2, c⟩, r⟩ := x
    exact ⟨ho _ d, z, ne, k _ _ (.inl rfl) e, mA, ⟨od, es, ep, k _ _ (.inr d) e2, c⟩, r⟩
  | own y => obtain ⟨ob, e⟩ := x; exact ⟨ob, k _ _ (.inl rfl) e⟩
  | xd fs => obtain ⟨mA, ⟨od, es, ep, e, c⟩, r⟩ := x; exact ⟨mA, ⟨od, es, ep, k _ _ (.inl rfl) e, c⟩, r⟩
  | rng lo hi => obtain ⟨t, u, v, e⟩ := x; exact ⟨t, u, v, k _ _ (.inl rfl) e⟩
  | frz ob u ih => obtain ⟨e, q⟩ := x; exact ⟨k _ _ (.inl rfl) e, ih q⟩
  | tbl ps =>
    have e : h.get? a = some { cls := .none, data := .fields ps } := x
    show h'.get? a = some { cls := .none, data := .fields ps }
    exact k a _ (.inl rfl) e
  | met f y =>
    have e : h.get? a = some (PySem.W.methodObj (.ref f) (.ref y)) := x
    show h'.get? a = some (PySem.W.methodObj (.ref f) (.ref y))
    exact k a _ (.inl rfl) e
  | ext φ => obtain ⟨p, ⟨o, e⟩, st⟩ := x; exact ⟨st _ _ p fun o q => k _ _ (.inl rfl) q, ⟨o, k _ _ (.inl rfl) e⟩, st⟩
theorem HOk.lt (x : HOk P w H h) (e : H a = some o) : a < h.objs.size := (x a o e).lt
theorem HOk.fresh (x : HOk P w H h) (e : h.objs.size ≤ a) : H a = none := by
  cases q : H a with
  | none => rfl
  | some u => exact absurd (Nat.lt_of_lt_of_le (x.lt q) e) (Nat.lt_irrefl _)
/-- every object of the heap is kept -/
theorem HOk.kept (x : HOk P w H h) (k : ∀ b u, h.get? b = some u → h'.get? b = some u) : HOk P w H h' := fun a o e =>
  (x a o e).stay (fun b u _ q => k b u q) (fun _ q => q) fun _ _ q => q
/-- a new object is laid and tracked -/
theorem HOk.laid (x : HOk P w H h) (k : ∀ b u, h.get? b = some u → h'.get? b = some u) (hp : h.objs.size ≤ a) (new : ObjOk P w (upd H a o) h' a o) : HOk P w (upd H a o) h' := fun b u e => by
  have hn := x.fresh hp
  by_cases hb : b = a
  · subst hb; rw [upd_same] at e; cases e; exact new
  · rw [upd_ne hb] at e
    exact (x b u e).stay (fun c v _ q => k c v q) (fun c q => by rw [upd_ne (ne_of_none q hn)]; exact q) fun c xs q => by rw [upd_ne (ne_of_none q hn)]; exact q
end

/-- what may be read as u: it is u, or a known u -/
def Rd (H : Hp) (a : Addr) (u : HO) : Prop := H a = some u ∨ ∃ o, H a = some (.frz o u)
theorem Rd.ok {P : Program} {w : World} {H : Hp} {h : Heap} {a : Addr} {u : HO} (r : Rd H a u) (x : HOk P w H h) : ObjOk P w H h a u := by
  rcases r with r | ⟨o, r⟩
  · exact x a u r
  · obtain ⟨_, q⟩ := x a _ r
    exact q
/-- what may be written -/
def Mut : Option HO → Prop
  | some (.lst _) => True
  | some (.dK _) => True
  | some (.dT _) => True
  | some (.set _ _) => True
  | some (.ins _ _ _) => True
  | some (.ext _) => True
  | _ => False
section
variable {P : Program} {w : World} {H : Hp} {h h' : Heap} {x e : Addr} {o' : HO}
/-- the object at e is changed: x itself, or the dict of the instance x -/
theorem HOk.write (ok : HOk P w H h) (mu : Mut (H x)) (he : e = x ∨ H e = some (.own x)) (k : ∀ b u, b ≠ e → h.get? b = some u → h'.get? b = some u) (heo : ∃ u, h'.get? e = some u)
    (new : ObjOk P w (upd H x o') h' x o') : HOk P w (upd H x o') h' := fun b u q => by
  have nown : ∀ c y, H c = some (.own y) → c ≠ x := fun c y r z => by subst z; rw [r] at mu; exact mu
  have ntup : ∀ c xs, H c = some (.tup xs) → c ≠ x := fun c xs r z => by subst z; rw [r] at mu; exact mu
  by_cases hb : b = x
  · subst hb; rw [upd_same] at q; cases q; exact new
  · rw [upd_ne hb] at q
    by_cases hbe : b = e
    · have q' : H b = some (.own x) := by
        rcases he with z | z
        · exact absurd (hbe.trans z) hb
        · rw [hbe]; exact z
      rw [q] at q'; cases q'
      obtain ⟨v, hv⟩ := heo
      exact ⟨v, by rw [hbe]; exact hv⟩
    · refine (ok b u q).stay (fun c v hc r => k c v ?_ r) (fun c r => by rw [upd_ne (nown c b r)]; exact r) fun c xs r => by rw [upd_ne (ntup c xs r)]; exact r
      rcases hc with rfl | hc
      · exact hbe
      · rintro rfl
        rcases he with z | z
        · exact nown c b hc z
        · rw [hc] at z; cases z; exact hb rfl
end

/-! ### kept unless tracked; of the frames at fs (the callers') the slots may change (an exception that passes writes there); of the records at ex (iterators) nothing is said -/
structure Un (fs ex : List Addr) (H H' : Hp) (h h' : Heap) : Prop where
  keep : ∀ b o, h.get? b = some o → H b = none → b ∉ fs → b ∉ ex → h'.get? b = some o
  slot : ∀ b o, h.get? b = some o → H b = none → b ∈ fs → b ∉ ex → ∃ sl, h'.get? b = some { o with slots := sl }
  free : ∀ b o, h.get? b = some o → H b = none → b ∉ ex → H' b = none
  there : ∀ b o, h.get? b = some o → b ∉ ex → ∃ o', h'.get? b = some o'
  tups : ∀ b xs, H b = some (.tup xs) → H' b = some (.tup xs)
  frzs : ∀ b o u, H b = some (.frz o u) → H' b = some (.frz o u)
  tbls : ∀ b ps, H b = some (.tbl ps) → ∃ more, H' b = some (.tbl (ps ++ more))
section
variable {fs fs' ex ex' : List Addr} {H H1 H2 : Hp} {h h1 h2 h' : Heap} {a x e : Addr} {o : HO}
theorem Un.any (u : Un fs ex H H1 h h1) {b : Addr} {ob : Obj} (q : h.get? b = some ob) (n : H b = none) (hx : b ∉ ex) : ∃ sl, h1.get? b = some { ob with slots := sl } := by
  by_cases hb : b ∈ fs
  · exact u.slot b ob q n hb hx
  · exact ⟨ob.slots, u.keep b ob q n hb hx⟩
theorem Un.trans (a : Un fs ex H H1 h h1) (b : Un fs ex H1 H2 h1 h2) : Un fs ex H H2 h h2 where
  keep := fun c ob q n hc hx => b.keep c ob (a.keep c ob q n hc hx) (a.free c ob q n hx) hc hx
  slot := fun c ob q n hc hx => by
    obtain ⟨sl, e1⟩ := a.slot c ob q n hc hx
    obtain ⟨sl', e2⟩ := b.slot c _ e1 (a.free c ob q n hx) hc hx
    exact ⟨sl', e2⟩
  free := fun c ob q n hx => by
    obtain ⟨o', e1⟩ := a.there c ob q hx
    exact b.free c o' e1 (a.free c ob q n hx) hx
  there := fun c ob q hx => by
    obtain ⟨o', e1⟩ := a.there c ob q hx
    exact b.there c o' e1 hx
  tups := fun c xs q => b.tups c xs (a.tups c xs q)
  frzs := fun c ob xs q => b.frzs c ob xs (a.frzs c ob xs q)
  tbls := fun c ps q => by
    obtain ⟨m1, e1⟩ := a.tbls c ps q
    obtain ⟨m2, e2⟩ := b.tbls c _ e1
    exact ⟨m1 ++ m2, by rw [e2, Array.append_assoc]⟩
theorem Un.kept (k : ∀ b u, h.get? b = some u → h'.get? b = some u) : Un fs ex H H h h' :=
  ⟨fun b ob q _ _ _ => k b ob q, fun b ob q _ _ _ => ⟨ob.slots, k b ob q⟩, fun _ _ _ n _ => n, fun b ob q _ => ⟨ob, k b ob q⟩, fun _ _ q => q, fun _ _ _ q => q, fun _ ps q => ⟨#[], by rw [q]; simp⟩⟩
theorem Un.refl : Un fs ex H H h h := Un.kept fun _ _ q => q
theorem Un.laid (k : ∀ b u, h.get? b = some u → h'.get? b = some u) (hp : h.objs.size ≤ a) (hn : H a = none) : Un fs ex H (upd H a o) h h' where
  keep := fun b u q _ _ _ => k b u q
  slot := fun b u q _ _ _ => ⟨u.slots, k b u q⟩
  free := fun b u q n _ => by rw [upd_ne (Nat.ne_of_lt (Nat.lt_of_lt_of_le (Heap.lt_size q) hp))]; exact n
  there := fun b u q _ => ⟨u, k b u q⟩
  tups := fun b xs q => by rw [upd_ne (ne_of_none q hn)]; exact q
  frzs := fun b u xs q => by rw [upd_ne (ne_of_none q hn)]; exact q
  tbls := fun b ps q => ⟨#[], by rw [upd_ne (ne_of_none q hn), q]; simp⟩
theorem Un.write (mu : Mut (H x)) (he : e = x ∨ H e = some (.own x)) (k : ∀ b u, b ≠ e → h.get? b = some u → h'.get? b = some u) (heo : ∃ u, h'.get? e = some u) : Un fs ex H (upd H x o) h h' := by
  have hx : ∀ b, H b = none → b ≠ x := fun b n z => by subst z; rw [n] at mu; exact mu
  have hb : ∀ b, H b = none → b ≠ e := fun b n z => by
    subst z
    rcases he with r | r
    · exact hx b n r
    · rw [n] at r; cases r
  have hm : ∀ b u, H b = some u → ¬ Mut (some u) → b ≠ x := fun b u q nm z => by subst z; rw [q] at mu; exact nm mu
  refine ⟨fun b u q n _ _ => k b u (hb b n) q, fun b u q n _ _ => ⟨u.slots, k b u (hb b n) q⟩, fun b u q n _ => by rw [upd_ne (hx b n)]; exact n, fun b u q _ => ?_,
    fun b xs q => by rw [upd_ne (hm b _ q fun z => z)]; exact q, fun b u xs q => by rw [upd_ne (hm b _ q fun z => z)]; exact q, fun b ps q => ⟨#[], by rw [upd_ne (hm b _ q fun z => z), q]; simp⟩⟩
  by_cases hbe : b = e
  · subst hbe; exact heo
  · exact ⟨u, k b u hbe q⟩
end

/-! ### the heap without what is tracked -/
def trk (h : Heap) (H : Hp) : List Addr := (List.range h.objs.size).filter fun a => (H a).isSome
def hidT (h : Heap) (H : Hp) : Heap := PySem.W.hideAll h (trk h H)
theorem hidT_size (h : Heap) (H : Hp) : (hidT h H).objs.size = h.objs.size := PySem.W.hideAll_size _ _
theorem hidT_get {h : Heap} {H : Hp} {b : Addr} {o : Obj} (e : h.get? b = some o) (n : H b = none) : (hidT h H).get? b = some o :=
  PySem.W.hideAll_get _ e fun hm => by
    have q : (H b).isSome = true := (List.mem_filter.mp hm).2
    rw [n] at q; simp at q
theorem of_hidT {h : Heap} {H : Hp} {b : Addr} {o : Obj} (e : (hidT h H).get? b = some o) : h.get? b = some o ∧ H b = none := by
  have e' : h.get? b = some o := PySem.W.of_hideAll (trk h H) e
  refine ⟨e', ?_⟩
  cases q : H b with
  | none => rfl
  | some x =>
    have hm : b ∈ trk h H := List.mem_filter.mpr ⟨List.mem_range.mpr (Heap.lt_size e'), by simp [q]⟩
    have z : (hidT h H).get? b = none := PySem.W.hideAll_none (trk h H) hm
    rw [z] at e; cases e

/-! ### OpenK's ledger, filled with every new object but one -/
def allNews (g h : Heap) (L : Addr) : List (Addr × Obj) := (List.range h.objs.size).filterMap fun a => if a = L ∨ (g.get? a).isSome = true then none else (h.get? a).map fun o => (a, o)
def rest (g h : Heap) (L d : Addr) : List (Addr × Obj) := (allNews g h L).filter fun p => decide (p.1 ≠ d)
end L2

namespace L2
open PySem PySem.Spec PyProof.Rows

/-- the module's facts, over the base: the heap at the law's entry without what is tracked there -/
structure Mod (K : PySem.W.Frag) (mg : Str → Option Value) (base : Heap) : Prop where
  kin : K.In base
  glob : base.Ns mainGlobals mg
  blt : ∃ mb, base.Ns builtinsNs mb ∧ ∀ x : Str, x ≠ "__name__" → mb x = bootBuiltins x
  nolimit : base.NoLimit

/-- the context: a def's body (or a comprehension's block) running. base: fixed through the whole law; s₀, H₀: the entry; outer: the frames whose slots others may change (a def's callers); stack: all frames that run;
   ex: iterators that were made ahead of the entry and are walked here (a comprehension's); fn: the names whose cells were made at the entry (a def: all; a comprehension's block: its own); calm: not within an except suite; pn: pins that every state bears; xe: what is wanted of an exception that leaves the code -/
structure Cx where
  prog : Program
  w : World
  K : PySem.W.Frag
  mg : Str → Option Value
  base : Heap
  A : Around
  N : List Str
  s₀ : Shared
  H₀ : Hp
  env : Env
  outer : List Env
  stack : List Env
  ex : List Addr
  fn : Str → Bool
  calm : Bool
  pn : List (Addr × Obj)
  xe : Value → Shared → Prop
/-- the callers' frames -/
def frs (l : List Env) : List Addr := l.filterMap (·.frame)
abbrev Cx.fs (X : Cx) : List Addr := frs X.outer

def Vis (sc : Scope) (x : Str) : Prop := sc.names.lookup x = some .local ∨ sc.names.lookup x = some .cell ∨ sc.names.lookup x = some .free
def Loc (sc : Scope) (x : Str) : Prop := sc.names.lookup x = some .local ∨ sc.names.lookup x = some .cell
def Look (env : Env) (h : Heap) (m : Str → Option Value) (x : Str) (u : Value) : Prop :=
  (env.kindOf x = some .local ∧ m x = some u) ∨ ((env.kindOf x = some .cell ∨ env.kindOf x = some .free) ∧ ∃ c, env.cells.lookup x = some c ∧ h.IsCell c (some u))

structure Cx.Ok (X : Cx) : Prop where
  mod : Mod X.K X.mg X.base
  kind : X.env.scope.kind = .function
  glob : X.env.globals = mainGlobals
  blt : X.env.builtins = builtinsNs
  above : X.s₀.heap.objs.size ≤ X.env.locals
  inj : ∀ x y c, X.env.cells.lookup x = some c → X.env.cells.lookup y = some c → x = y
  has : ∀ x, (X.env.kindOf x = some .cell ∨ X.env.kindOf x = some .free) → ∃ c, X.env.cells.lookup x = some c
  cab : ∀ x c, X.fn x = true → X.env.cells.lookup x = some c → X.s₀.heap.objs.size ≤ c
  hd : X.calm = true → X.A.handled = none
  frames : X.A.frames = some X.stack
  stk : X.stack = X.outer ∨ (X.stack = X.env :: X.outer ∧ X.env.frame = some X.env.locals)
  exf : ∀ b ∈ X.ex, b ≠ X.env.locals ∧ ∀ x c, X.env.cells.lookup x = some c → c ≠ b
  bs : ∀ b o, X.base.get? b = some o → X.s₀.heap.get? b = some o ∧ X.H₀ b = none
  bsz : X.base.objs.size ≤ X.s₀.heap.objs.size
  noex : ∀ b o, X.base.get? b = some o → b ∉ X.ex
  exfs : ∀ b ∈ X.ex, b ∉ X.fs
  funs : X.s₀.heap.FunFrames X.base X.outer
  frf : ∀ b ∈ X.fs, X.H₀ b = none

structure Inv (X : Cx) (pins : List (Addr × Obj)) (σ : List (Option V)) (H : Hp) (s : Shared) : Prop where
  ok : X.Ok
  os : s.os = X.s₀.os
  bare : AllBare s.gens
  base : Un X.fs X.ex X.H₀ H X.s₀.heap s.heap
  loc : ∃ m, s.heap.Ns X.env.locals m ∧ ∀ (i : Nat) (x : Str) (v : V), X.N[i]? = some x → σ[i]? = some (some v) → Vis X.env.scope x → ∃ u, RelV v u ∧ Look X.env s.heap m x u
  cell : ∀ x c, X.env.cells.lookup x = some c → ∃ v, s.heap.IsCell c v
  free : H X.env.locals = none
  freeC : ∀ x c, X.env.cells.lookup x = some c → H c = none
  pin : ∀ p ∈ X.pn ++ pins, s.heap.get? p.1 = some p.2 ∧ H p.1 = none ∧ p.1 ≠ X.env.locals ∧ p.1 ∉ X.fs ∧ ∀ v, p.2.data ≠ .cell v
  hok : HOk X.prog X.w H s.heap
  len : σ.length = X.N.length

section
variable {X : Cx} {pins : List (Addr × Obj)} {σ : List (Option V)} {H H' : Hp} {s : Shared} {h' : Heap}

theorem Cx.Ok.nofr (ok : X.Ok) {b : Addr} {o : Obj} (e : X.base.get? b = some o) : b ∉ X.fs := fun hb => by
  have := (ok.funs.mem hb).1
  rw [e] at this; cases this
theorem Inv.bs (I : Inv X pins σ H s) : ∀ b o, X.base.get? b = some o → s.heap.get? b = some o ∧ H b = none := fun b o e =>
  ⟨I.base.keep b o (I.ok.bs b o e).1 (I.ok.bs b o e).2 (I.ok.nofr e) (I.ok.noex b o e), I.base.free b o (I.ok.bs b o e).1 (I.ok.bs b o e).2 (I.ok.noex b o e)⟩
theorem Inv.bk (I : Inv X pins σ H s) : ∀ b o, X.base.get? b = some o → s.heap.get? b = some o := fun b o e => (I.bs b o e).1
theorem Inv.mod (I : Inv X pins σ H s) : Mod X.K X.mg X.base := I.ok.mod
theorem Inv.kIn (I : Inv X pins σ H s) : X.K.In s.heap := I.ok.mod.kin.keeps I.bk
theorem Inv.lt (I : Inv X pins σ H s) : X.env.locals < s.heap.objs.size := let ⟨_, hn, _⟩ := I.loc; hn.lt
theorem Inv.sz (I : Inv X pins σ H s) : X.s₀.heap.objs.size ≤ s.heap.objs.size := Nat.le_trans I.ok.above (Nat.le_of_lt I.lt)
theorem Inv.nofs (I : Inv X pins σ H s) {a : Addr} (h : s.heap.objs.size ≤ a) : a ∉ X.fs := fun hb => by
  obtain ⟨_, o, ho, _⟩ := I.ok.funs.mem hb
  exact absurd (Nat.lt_of_lt_of_le (Heap.lt_size ho) (Nat.le_trans I.sz h)) (Nat.lt_irrefl _)
theorem Inv.cne (I : Inv X pins σ H s) : ∀ x c, X.env.cells.lookup x = some c → c ≠ X.env.locals := fun x c e z => by
  obtain ⟨v, o, ho, hd⟩ := I.cell x c e
  obtain ⟨m, ⟨o', es, ep, ho', hd', _⟩, _⟩ := I.loc
  rw [z, ho'] at ho; cases ho; rw [hd'] at hd; cases hd
theorem Inv.funs (I : Inv X pins σ H s) : s.heap.FunFrames X.base X.outer := by
  have all : ∀ (l : List Env), (∀ b ∈ frs l, b ∈ X.fs) → X.s₀.heap.FunFrames X.base l → s.heap.FunFrames X.base l := by
    intro l
    induction l with
    | nil => intro _ _; trivial
    | cons env r ih =>
      intro hs hl
      obtain ⟨hk, ⟨L, o, hf, hn, ho, hd⟩, hr⟩ := hl
      have hL : L ∈ X.fs := hs L (by unfold frs; rw [List.filterMap_cons, hf]; exact List.mem_cons_self)
      obtain ⟨sl, e⟩ := I.base.slot L o ho (I.ok.frf L hL) hL fun z => I.ok.exfs L z hL
      exact ⟨hk, ⟨L, _, hf, hn, e, hd⟩, ih (fun b hb => hs b (by unfold frs; rw [List.filterMap_cons, hf]; exact List.mem_cons_of_mem _ hb)) hr⟩
  exact all X.outer (fun _ hb => hb) I.ok.funs

/-- the frames that run, for a call -/
theorem Inv.stack (I : Inv X pins σ H s) : s.heap.FunFrames X.base X.stack := by
  rcases I.ok.stk with e | ⟨e, hf⟩
  · rw [e]; exact I.funs
  · rw [e]
    obtain ⟨m, hn, _⟩ := I.loc
    refine .cons (by rw [I.ok.kind]; decide) hf hn ?_ I.funs
    exact Heap.get?_none_of_le (Nat.le_trans I.ok.bsz I.ok.above)
theorem Inv.stkSub (I : Inv X pins σ H s) : ∀ b ∈ frs X.stack, b ∈ X.env.locals :: X.fs := fun b hb => by
  rcases I.ok.stk with e | ⟨e, hf⟩
  · rw [e] at hb; exact List.mem_cons_of_mem _ hb
  · rw [e] at hb
    unfold frs at hb
    rw [List.filterMap_cons, hf] at hb
    exact hb
theorem Inv.stkFree (I : Inv X pins σ H s) : ∀ b ∈ frs X.stack, H b = none := fun b hb => by
  rcases List.mem_cons.mp (I.stkSub b hb) with e | hb
  · rw [e]; exact I.free
  · obtain ⟨_, o, ho, _⟩ := I.ok.funs.mem hb
    exact I.base.free b o ho (I.ok.frf b hb) fun z => I.ok.exfs b z hb

/-- THE STEP: the untracked objects but the frame and the records at ch are kept (the callers' frames up to slots), the frame's map is kept, the new abstract heap is held -/
theorem Inv.step {g' : Array GenState} {t' : Nat} {d' : Drawn} {ch : List Addr} (I : Inv X pins σ H s)
    (hch : ∀ b ∈ ch, (b ∈ X.ex ∨ X.s₀.heap.objs.size ≤ b) ∧ b ≠ X.env.locals ∧ (∀ x c, X.env.cells.lookup x = some c → c ≠ b) ∧ ∀ p ∈ X.pn ++ pins, p.1 ≠ b)
    (keep : ∀ b o, b ≠ X.env.locals → b ∉ X.fs → b ∉ ch → s.heap.get? b = some o → H b = none → h'.get? b = some o)
    (slot : ∀ b o, b ≠ X.env.locals → b ∈ X.fs → b ∉ ch → s.heap.get? b = some o → H b = none → ∃ sl, h'.get? b = some { o with slots := sl }) (free : ∀ b o, b ∉ ch → s.heap.get? b = some o → H b = none → H' b = none)
    (there : ∀ b o, b ∉ ch → s.heap.get? b = some o → ∃ o', h'.get? b = some o')
    (tups : ∀ b xs, H b = some (.tup xs) → H' b = some (.tup xs)) (frzs : ∀ b o u, H b = some (.frz o u) → H' b = some (.frz o u)) (tbls : ∀ b ps, H b = some (.tbl ps) → ∃ more, H' b = some (.tbl (ps ++ more)))
    (ns : ∀ m, s.heap.Ns X.env.locals m → h'.Ns X.env.locals m) (hok : HOk X.prog X.w H' h') (hg : AllBare g') :
    Inv X pins σ H' { s with heap := h', gens := g', drawn := d', toks := t' } := by
  have neL : ∀ b o, X.s₀.heap.get? b = some o → b ≠ X.env.locals := fun b o e => Nat.ne_of_lt (Nat.lt_of_lt_of_le (Heap.lt_size e) I.ok.above)
  have neC : ∀ b o, X.s₀.heap.get? b = some o → b ∉ X.ex → b ∉ ch := fun b o e hx hb => by
    rcases (hch b hb).1 with z | z
    · exact hx z
    · exact absurd (Nat.lt_of_lt_of_le (Heap.lt_size e) z) (Nat.lt_irrefl _)
  have cellK : ∀ x c, X.env.cells.lookup x = some c → ∀ v, s.heap.IsCell c v → h'.IsCell c v := fun x c e v ⟨o, ho, hd⟩ => by
    have nch : c ∉ ch := fun z => (hch c z).2.2.1 x c e rfl
    by_cases hc : c ∈ X.fs
    · obtain ⟨sl, q⟩ := slot c o (I.cne x c e) hc nch ho (I.freeC x c e)
      exact ⟨_, q, hd⟩
    · exact ⟨o, keep c o (I.cne x c e) hc nch ho (I.freeC x c e), hd⟩
  refine ⟨I.ok, I.os, hg, ⟨fun b o e n hb hx => ?_, fun b o e n hb hx => ?_, fun b o e n hx => ?_, fun b o e hx => ?_, fun b xs e => tups b xs (I.base.tups b xs e), fun b o xs e => frzs b o xs (I.base.frzs b o xs e), fun b ps e => ?_⟩, ?_, fun x c e => ?_, ?_, fun x c e => ?_, fun p hp => ?_, hok, I.len⟩
  · exact keep b o (neL b o e) hb (neC b o e hx) (I.base.keep b o e n hb hx) (I.base.free b o e n hx)
  · obtain ⟨sl, e1⟩ := I.base.slot b o e n hb hx
    obtain ⟨sl', e2⟩ := slot b _ (neL b o e) hb (neC b o e hx) e1 (I.base.free b o e n hx)
    exact ⟨sl', e2⟩
  · obtain ⟨o', e1⟩ := I.base.there b o e hx
    exact free b o' (neC b o e hx) e1 (I.base.free b o e n hx)
  · obtain ⟨o', e1⟩ := I.base.there b o e hx
    exact there b o' (neC b o e hx) e1
  · obtain ⟨m1, e1⟩ := I.base.tbls b ps e
    obtain ⟨m2, e2⟩ := tbls b _ e1
    exact ⟨m1 ++ m2, by rw [e2, Array.append_assoc]⟩
  · obtain ⟨m, hn, hl⟩ := I.loc
    refine ⟨m, ns m hn, fun i x v e1 e2 e3 => ?_⟩
    obtain ⟨u, r, l⟩ := hl i x v e1 e2 e3
    refine ⟨u, r, ?_⟩
    rcases l with l | ⟨k, c, e, z⟩
    · exact .inl l
    · exact .inr ⟨k, c, e, cellK x c e _ z⟩
  · obtain ⟨v, z⟩ := I.cell x c e
    exact ⟨v, cellK x c e v z⟩
  · obtain ⟨m, ⟨o, _, _, ho, _⟩, _⟩ := I.loc
    exact free _ o (fun z => (hch _ z).2.1 rfl) ho I.free
  · obtain ⟨v, o, ho, hd⟩ := I.cell x c e
    exact free c o (fun z => (hch c z).2.2.1 x c e rfl) ho (I.freeC x c e)
  · obtain ⟨e, n, ne, nf, d⟩ := I.pin p hp
    have nch : p.1 ∉ ch := fun z => (hch p.1 z).2.2.2 p hp rfl
    exact ⟨keep p.1 p.2 ne nf nch e n, free p.1 p.2 nch e n, ne, nf, d⟩
/-- .. where the frame's own object is kept too -/
theorem Inv.un {t' : Nat} (I : Inv X pins σ H s) (u : Un X.fs [] H H' s.heap h') (hok : HOk X.prog X.w H' h') : Inv X pins σ H' { s with heap := h', toks := t' } := by
  obtain ⟨m, ⟨o, es, ep, ho, r⟩, _⟩ := id I.loc
  obtain ⟨sl, hL⟩ := u.any ho I.free (by simp)
  exact I.step (g' := s.gens) (d' := s.drawn) (ch := []) (fun _ z => nomatch z) (fun b o _ hb _ e n => u.keep b o e n hb (by simp)) (fun b o _ hb _ e n => u.slot b o e n hb (by simp)) (fun b o _ e n => u.free b o e n (by simp)) (fun b o _ e => u.there b o e (by simp)) u.tups u.frzs u.tbls (fun m' hm => by
    obtain ⟨o', es', ep', ho', r'⟩ := hm
    rw [ho] at ho'; cases ho'
    exact ⟨_, es', ep', hL, r'⟩) hok I.bare
/-- behind a call (or a comprehension's block): the slots of this frame may have changed too, the records at ch may have turned -/
theorem Inv.call {g' : Array GenState} {t' : Nat} {d' : Drawn} {ch : List Addr} (I : Inv X pins σ H s) (u : Un (frs X.stack) ch H H' s.heap h') (hok : HOk X.prog X.w H' h') (hg : AllBare g')
    (hch : ∀ b ∈ ch, (b ∈ X.ex ∨ X.s₀.heap.objs.size ≤ b) ∧ b ≠ X.env.locals ∧ (∀ x c, X.env.cells.lookup x = some c → c ≠ b) ∧ ∀ p ∈ X.pn ++ pins, p.1 ≠ b) :
    Inv X pins σ H' { s with heap := h', gens := g', drawn := d', toks := t' } := by
  obtain ⟨m, ⟨o, es, ep, ho, r⟩, _⟩ := id I.loc
  obtain ⟨sl, hL⟩ := u.any ho I.free fun z => (hch _ z).2.1 rfl
  exact I.step (ch := ch) hch (fun b o hL hb hc e n => u.keep b o e n (fun z => (List.mem_cons.mp (I.stkSub b z)).elim hL hb) hc) (fun b o _ _ hc e n => u.any e n hc) (fun b o hc e n => u.free b o e n hc) (fun b o hc e => u.there b o e hc) u.tups u.frzs u.tbls (fun m' hm => by
    obtain ⟨o', es', ep', ho', r'⟩ := hm
    rw [ho] at ho'; cases ho'
    exact ⟨_, es', ep', hL, r'⟩) hok hg
/-- an untracked record of ours (an iterator) has turned -/
theorem Inv.turned {t' : Nat} {it : Addr} (I : Inv X pins σ H s) (k : ∀ b o, b ≠ it → s.heap.get? b = some o → h'.get? b = some o) (hn : H it = none) (hL : it ≠ X.env.locals)
    (h1 : it ∈ X.ex ∨ X.s₀.heap.objs.size ≤ it) (h2 : ∀ x c, X.env.cells.lookup x = some c → c ≠ it) (h3 : ∀ p ∈ X.pn ++ pins, p.1 ≠ it) : Inv X pins σ H { s with heap := h', toks := t' } := by
  have nit : ∀ b u, H b = some u → b ≠ it := fun b u e z => by rw [z, hn] at e; cases e
  refine I.step (g' := s.gens) (d' := s.drawn) (ch := [it]) (fun b hb => ?_) (fun b o _ _ hc e _ => k b o (fun z => hc (by simp [z])) e) (fun b o _ _ hc e _ => ⟨o.slots, k b o (fun z => hc (by simp [z])) e⟩) (fun _ _ _ _ n => n)
    (fun b o hc e => ⟨o, k b o (fun z => hc (by simp [z])) e⟩) (fun _ _ e => e) (fun _ _ _ e => e) (fun b ps e => ⟨#[], by rw [e]; simp⟩) (fun m hm => ?_) (fun b u e => ?_) I.bare
  · have e : b = it := by simpa using hb
    subst e
    exact ⟨h1, hL, h2, h3⟩
  · obtain ⟨o, es, ep, ho, r⟩ := hm
    exact ⟨o, es, ep, k _ o (Ne.symm hL) ho, r⟩
  · refine (I.hok b u e).stay (fun c v hc q => k c v ?_ q) (fun _ q => q) fun _ _ q => q
    rcases hc with z | z
    · rw [z]; exact nit b u e
    · exact nit c _ z
theorem Inv.tok (I : Inv X pins σ H s) (t : Nat) : Inv X pins σ H { s with toks := t } := I.un (h' := s.heap) (t' := t) Un.refl I.hok
/-- all objects kept -/
theorem Inv.kept {t' : Nat} (I : Inv X pins σ H s) (k : ∀ b u, s.heap.get? b = some u → h'.get? b = some u) : Inv X pins σ H { s with heap := h', toks := t' } := I.un (Un.kept k) (I.hok.kept k)
/-- a new object laid and tracked -/
theorem Inv.laid {a : Addr} {o : HO} {t' : Nat} (I : Inv X pins σ H s) (k : ∀ b u, s.heap.get? b = some u → h'.get? b = some u) (hp : s.heap.objs.size ≤ a) (new : ObjOk X.prog X.w (upd H a o) h' a o) :
    Inv X pins σ (upd H a o) { s with heap := h', toks := t' } := I.un (Un.laid k hp (I.hok.fresh hp)) (I.hok.laid k hp new)
/-- an object written -/
theorem Inv.write {x e : Addr} {o : HO} {t' : Nat} (I : Inv X pins σ H s) (mu : Mut (H x)) (he : e = x ∨ H e = some (.own x)) (k : ∀ b u, b ≠ e → s.heap.get? b = some u → h'.get? b = some u) (heo : ∃ u, h'.get? e = some u)
    (new : ObjOk X.prog X.w (upd H x o) h' x o) : Inv X pins σ (upd H x o) { s with heap := h', toks := t' } := I.un (Un.write mu he k heo) (I.hok.write mu he k heo new)
/-- forgetting slots, pins -/
theorem Inv.weak {σ' : List (Option V)} (I : Inv X pins σ H s) (hl : σ'.length = σ.length) (w : ∀ (i : Nat) v, σ'[i]? = some (some v) → σ[i]? = some (some v)) : Inv X pins σ' H s :=
  ⟨I.ok, I.os, I.bare, I.base, let ⟨m, hn, hl'⟩ := I.loc; ⟨m, hn, fun i x v e1 e2 e3 => hl' i x v e1 (w i v e2) e3⟩, I.cell, I.free, I.freeC, I.pin, I.hok, hl.trans I.len⟩
theorem Inv.pins_of {pins' : List (Addr × Obj)} (I : Inv X pins σ H s) (h : ∀ p ∈ pins', s.heap.get? p.1 = some p.2 ∧ H p.1 = none ∧ p.1 ≠ X.env.locals ∧ p.1 ∉ X.fs ∧ ∀ v, p.2.data ≠ .cell v) : Inv X pins' σ H s :=
  ⟨I.ok, I.os, I.bare, I.base, I.loc, I.cell, I.free, I.freeC, fun p hp => (List.mem_append.mp hp).elim (fun z => I.pin p (List.mem_append_left _ z)) (h p), I.hok, I.len⟩

theorem nodup_ix {N : List Str} (hN : N.Nodup) {i j : Nat} {x : Str} (a : N[i]? = some x) (b : N[j]? = some x) : i = j := by
  obtain ⟨h1, e1⟩ := List.getElem?_eq_some_iff.mp a
  obtain ⟨h2, e2⟩ := List.getElem?_eq_some_iff.mp b
  exact (List.getElem_inj hN).mp (e1.trans e2.symm)

/-- a name is stored; what changed -/
theorem store_ok2 {M : Model} {A : Around} {E : Value → Shared → Prop} {i : Nat} {x : Str} {v : V} {u : Value} {Q : Unit → Shared → Prop} (I : Inv X pins σ H s) (hN : X.N.Nodup) (hi : X.N[i]? = some x) (hx : Loc X.env.scope x) (r : RelV v u)
    (h : ∀ s', Inv X pins (σ.set i (some v)) H s' → (∃ a, Heap.SameBut a s.heap s'.heap ∧ (a = X.env.locals ∨ X.env.cells.lookup x = some a)) → Q () s') (hf : X.fn x = true ∨ X.env.scope.names.lookup x = some .local := by first | exact .inl rfl | exact .inr rfl | assumption) : wpAny M A (storeName X.env x u) Q E s := by
  obtain ⟨m, hn, hl⟩ := id I.loc
  have hcls : (X.env.scope.kind == .class || (X.env.scope.kind == .module && X.env.locals != X.env.globals)) = false := by rw [I.ok.kind]; rfl
  have hiσ : i < σ.length := by rw [I.len]; exact (List.getElem?_eq_some_iff.mp hi).1
  have cne := I.cne
  have tracked : ∀ {a : Addr} {h' : Heap}, (∃ o, s.heap.get? a = some o ∧ H a = none) → Heap.SameBut a s.heap h' → HOk X.prog X.w H h' := fun {a h'} ha hs b ob e => by
    obtain ⟨_, _, hfree⟩ := ha
    refine (I.hok b ob e).stay (fun c w' hc q => (hs.2 c ?_).trans q) (fun _ q => q) fun _ _ q => q
    rintro rfl
    rcases hc with rfl | hc
    · rw [hfree] at e; cases e
    · rw [hfree] at hc; cases hc
  rcases hx with hk | hk
  · refine wpAny_storeName_local hk hn (fun h' hn' hs => ?_) hcls
    obtain ⟨oL, _, _, hoL, _⟩ := id hn
    refine h _ ⟨I.ok, I.os, I.bare, ⟨fun b o e n hb hx => ?_, fun b o e n hb hx => ?_, I.base.free, fun b o e hx => ?_, I.base.tups, I.base.frzs, I.base.tbls⟩, ⟨_, hn', fun j y v' e1 e2 e3 => ?_⟩, fun y c e => ?_, I.free, I.freeC, fun p hp => ?_, tracked ⟨oL, hoL, I.free⟩ hs, by simpa using I.len⟩ ⟨_, hs, .inl rfl⟩
    · exact (hs.2 b (Nat.ne_of_lt (Nat.lt_of_lt_of_le (Heap.lt_size e) I.ok.above))).trans (I.base.keep b o e n hb hx)
    · obtain ⟨sl, e1⟩ := I.base.slot b o e n hb hx
      exact ⟨sl, (hs.2 b (Nat.ne_of_lt (Nat.lt_of_lt_of_le (Heap.lt_size e) I.ok.above))).trans e1⟩
    · obtain ⟨o', e1⟩ := I.base.there b o e hx
      exact ⟨o', (hs.2 b (Nat.ne_of_lt (Nat.lt_of_lt_of_le (Heap.lt_size e) I.ok.above))).trans e1⟩
    · by_cases hj : j = i
      · subst hj
        rw [hi] at e1; cases e1
        rw [List.getElem?_set_self hiσ] at e2
        cases e2
        exact ⟨u, r, .inl ⟨hk, by simp⟩⟩
      · rw [List.getElem?_set_ne (Ne.symm hj)] at e2
        obtain ⟨u', r', q⟩ := hl j y v' e1 e2 e3
        refine ⟨u', r', ?_⟩
        rcases q with ⟨k, e⟩ | ⟨k, c, e, z⟩
        · refine .inl ⟨k, ?_⟩
          have : y ≠ x := fun e => hj (nodup_ix hN e1 (e ▸ hi))
          simp [this, e]
        · exact .inr ⟨k, c, e, z.sameBut hs (cne y c e)⟩
    · obtain ⟨w', z⟩ := I.cell y c e
      exact ⟨w', z.sameBut hs (cne y c e)⟩
    · obtain ⟨e, n, ne, nf, d⟩ := I.pin p hp
      exact ⟨(hs.2 p.1 ne).trans e, n, ne, nf, d⟩
  · have hfn : X.fn x = true := by
      rcases hf with z | z
      · exact z
      · rw [z] at hk; cases hk
    obtain ⟨c, hc⟩ := I.ok.has x (.inl hk)
    obtain ⟨w', z⟩ := I.cell x c hc
    refine wpAny_storeName_cell I.ok.kind hk hc z (fun h' hc' hs => ?_)
    obtain ⟨oc, hoc, hocd⟩ := id z
    refine h { s with heap := h' } ⟨I.ok, I.os, I.bare, ⟨fun b o e n hb hx => ?_, fun b o e n hb hx => ?_, I.base.free, fun b o e hx => ?_, I.base.tups, I.base.frzs, I.base.tbls⟩, ⟨m, hn.sameBut hs (Ne.symm (cne x c hc)), fun j y v' e1 e2 e3 => ?_⟩, fun y c' e => ?_, I.free, I.freeC, fun p hp => ?_, tracked ⟨oc, hoc, I.freeC x c hc⟩ hs, by simpa using I.len⟩ ⟨c, hs, .inr hc⟩
    · exact (hs.2 b (Nat.ne_of_lt (Nat.lt_of_lt_of_le (Heap.lt_size e) (I.ok.cab x c hfn hc)))).trans (I.base.keep b o e n hb hx)
    · obtain ⟨sl, e1⟩ := I.base.slot b o e n hb hx
      exact ⟨sl, (hs.2 b (Nat.ne_of_lt (Nat.lt_of_lt_of_le (Heap.lt_size e) (I.ok.cab x c hfn hc)))).trans e1⟩
    · obtain ⟨o', e1⟩ := I.base.there b o e hx
      exact ⟨o', (hs.2 b (Nat.ne_of_lt (Nat.lt_of_lt_of_le (Heap.lt_size e) (I.ok.cab x c hfn hc)))).trans e1⟩
    · by_cases hj : j = i
      · subst hj
        rw [hi] at e1; cases e1
        rw [List.getElem?_set_self hiσ] at e2
        cases e2
        exact ⟨u, r, .inr ⟨.inl hk, c, hc, hc'⟩⟩
      · rw [List.getElem?_set_ne (Ne.symm hj)] at e2
        obtain ⟨u', r', q⟩ := hl j y v' e1 e2 e3
        refine ⟨u', r', ?_⟩
        rcases q with q | ⟨k, c', e, z'⟩
        · exact .inl q
        · refine .inr ⟨k, c', e, z'.sameBut hs ?_⟩
          rintro rfl
          exact hj (nodup_ix hN e1 (I.ok.inj _ _ _ e hc ▸ hi))
    · by_cases hcc : c' = c
      · subst hcc; exact ⟨_, hc'⟩
      · obtain ⟨w2, z2⟩ := I.cell y c' e
        exact ⟨w2, z2.sameBut hs hcc⟩
    · obtain ⟨e, n, ne, nf, d⟩ := I.pin p hp
      refine ⟨(hs.2 p.1 ?_).trans e, n, ne, nf, d⟩
      intro q
      rw [q, hoc] at e
      have q' : oc = p.2 := Option.some.inj e
      exact d w' (by rw [← q']; exact hocd)
theorem store_ok {M : Model} {A : Around} {E : Value → Shared → Prop} {i : Nat} {x : Str} {v : V} {u : Value} {Q : Unit → Shared → Prop} (I : Inv X pins σ H s) (hN : X.N.Nodup) (hi : X.N[i]? = some x) (hx : Loc X.env.scope x) (r : RelV v u)
    (h : ∀ s', Inv X pins (σ.set i (some v)) H s' → Q () s') (hf : X.fn x = true ∨ X.env.scope.names.lookup x = some .local := by first | exact .inl rfl | exact .inr rfl | assumption) : wpAny M A (storeName X.env x u) Q E s :=
  store_ok2 I hN hi hx r (fun s' I' _ => h s' I') hf
/-- behind a call or a block, the state as it is -/
theorem Inv.call' {s' : Shared} {ch : List Addr} (I : Inv X pins σ H s) (ho : s'.os = s.os) (u : Un (frs X.stack) ch H H' s.heap s'.heap) (hok : HOk X.prog X.w H' s'.heap) (hg : AllBare s'.gens)
    (hch : ∀ b ∈ ch, (b ∈ X.ex ∨ X.s₀.heap.objs.size ≤ b) ∧ b ≠ X.env.locals ∧ (∀ x c, X.env.cells.lookup x = some c → c ≠ b) ∧ ∀ p ∈ X.pn ++ pins, p.1 ≠ b) : Inv X pins σ H' s' := by
  obtain ⟨h', g', d', t', o'⟩ := s'
  have e : o' = s.os := ho
  subst e
  exact I.call (g' := g') (t' := t') (d' := d') u hok hg hch
end

/-! ### the judgements -/
/-- an exception: its class, its own dict's address (where it has one), the abstract heap behind it -/
abbrev XK := Value → Option Addr → Hp → Prop
abbrev St := List (Option V)
abbrev VK := V → Hp → Prop
/-- an expression's reading; a test's; an argument list's -/
abbrev TE := St → Hp → VK → Prop
abbrev TT := St → Hp → (Bool → Hp → Prop) → Prop
abbrev TA := St → Hp → (List V → Hp → Prop) → Prop
/-- what is wanted behind a statement -/
structure Ends where
  nx : St → Hp → Prop
  rt : VK
  bk : St → Hp → Prop := fun _ _ => False
  ct : St → Hp → Prop := fun _ _ => False
abbrev TS := Ends → St → Hp → Prop

def EP (X : Cx) (pins : List (Addr × Obj)) (σ : St) (Q : VK) (u : Value) (s' : Shared) : Prop := ∃ v H', Inv X pins σ H' s' ∧ RelV v u ∧ Q v H'
def TP (X : Cx) (pins : List (Addr × Obj)) (σ : St) (Q : Bool → Hp → Prop) (b : Bool) (s' : Shared) : Prop := ∃ H', Inv X pins σ H' s' ∧ Q b H'
def AP (X : Cx) (pins : List (Addr × Obj)) (σ : St) (Q : List V → Hp → Prop) (us : List Value) (s' : Shared) : Prop := ∃ vs H', Inv X pins σ H' s' ∧ Vals vs us ∧ Q vs H'
def SP (X : Cx) (pins : List (Addr × Obj)) (D : Ends) (f : Flow) (s' : Shared) : Prop :=
  match f with
  | .next => ∃ σ' H', Inv X pins σ' H' s' ∧ D.nx σ' H'
  | .brk => ∃ σ' H', Inv X pins σ' H' s' ∧ D.bk σ' H'
  | .cont => ∃ σ' H', Inv X pins σ' H' s' ∧ D.ct σ' H'
  | .ret u => ∃ v σ' H', Inv X pins σ' H' s' ∧ RelV v u ∧ D.rt v H'

def PE (X : Cx) (e : Expr) (t : TE) : Prop :=
  ∀ (pins : List (Addr × Obj)) (s : Shared) (σ : St) (H : Hp) (Q : VK), Inv X pins σ H s → t σ H Q → wpAny (model X.prog X.w) X.A (eval e X.env) (EP X pins σ Q) X.xe s
def PT (X : Cx) (e : Expr) (t : TT) : Prop :=
  ∀ (pins : List (Addr × Obj)) (s : Shared) (σ : St) (H : Hp) (Q : Bool → Hp → Prop), Inv X pins σ H s → t σ H Q → wpAny (model X.prog X.w) X.A (isTrue e X.env (eval e X.env)) (TP X pins σ Q) X.xe s
/-- a test whatever its 'whole' is (and, or) -/
def PW (X : Cx) (e : Expr) (t : TT) : Prop :=
  ∀ (whole : Sem Value) (pins : List (Addr × Obj)) (s : Shared) (σ : St) (H : Hp) (Q : Bool → Hp → Prop), Inv X pins σ H s → t σ H Q → wpAny (model X.prog X.w) X.A (isTrue e X.env whole) (TP X pins σ Q) X.xe s
theorem PW.pt {X : Cx} {e : Expr} {t : TT} (h : PW X e t) : PT X e t := h _
/-- an argument list (no star), from the left -/
def PA (X : Cx) (es : List Expr) (t : TA) : Prop :=
  ∀ (pos : Pos) (pins : List (Addr × Obj)) (s : Shared) (σ : St) (H : Hp) (Q : List V → Hp → Prop), Inv X pins σ H s → t σ H Q → wpAny (model X.prog X.w) X.A (spliced (backTo pos (starEach es X.env))) (AP X pins σ Q) X.xe s
def PS (X : Cx) (st : Stmt) (t : TS) : Prop :=
  ∀ (pins : List (Addr × Obj)) (s : Shared) (σ : St) (H : Hp) (D : Ends), Inv X pins σ H s → t D σ H → wpAny (model X.prog X.w) X.A (exec st X.env) (SP X pins D) X.xe s
def PSs (X : Cx) (st : List Stmt) (t : TS) : Prop :=
  ∀ (pins : List (Addr × Obj)) (s : Shared) (σ : St) (H : Hp) (D : Ends), Inv X pins σ H s → t D σ H → wpAny (model X.prog X.w) X.A (execs st X.env) (SP X pins D) X.xe s
/-- weaken the end -/
theorem thn {α : Type} {t : Sem α} {Q Q' : α → Shared → Prop} {M : Model} {A : Around} {E : Value → Shared → Prop} {s : Shared} (h : wpAny M A t Q E s) (hQ : ∀ a s, Q a s → Q' a s) : wpAny M A t Q' E s := wpAny_mono h hQ fun _ _ x => x
end L2

namespace L2
open PySem PySem.Spec PyProof.Rows
section
variable {X : Cx}

/-! ### names and constants -/
def tVar (i : Nat) : TE := fun σ H Q => ∃ v, σ[i]? = some (some v) ∧ Q v H
def tC (v : V) : TE := fun _ H Q => Q v H
theorem pe_var {i : Nat} {x : Str} {pos : Pos} (hN : X.N[i]? = some x) (hv : Vis X.env.scope x) (hd : (x == ("__debug__" : Str)) = false := by decide) (hcd : (x == ("__classdict__" : Str)) = false := by decide) : PE X (.Name x pos) (tVar i) := by
  intro pins s σ H Q I h
  obtain ⟨v, e, h⟩ := h
  obtain ⟨m, hn, hl⟩ := I.loc
  obtain ⟨u, r, l⟩ := hl i x v hN e hv
  have fin : EP X pins σ Q u s := ⟨v, H, I, r, h⟩
  rcases l with ⟨hk, hm⟩ | ⟨hk, c, hc, hcell⟩
  · exact wpAny_Name (wpAny_loadName_local I.ok.kind hk hn hm fin) hd
  · rcases hk with hk | hk
    · exact wpAny_Name (wpAny_loadName_cell I.ok.kind hk hc hcell fin) hd
    · exact wpAny_Name (wpAny_loadName_free I.ok.kind hk hc hcell fin hcd) hd
theorem pe_int {i j pos} : PE X (.Constant (.int i) j pos) (tC (.int i)) := fun _ _ _ H _ I h => wpAny_Constant_int ⟨.int i, H, I.tok _, ⟨_, rfl⟩, h⟩
theorem pe_bl {b j pos} : PE X (.Constant (.bool b) j pos) (tC (.bl b)) := fun _ _ _ H _ I h => Constant_bool ⟨.bl b, H, I, rfl, h⟩
theorem pe_non {j pos} : PE X (.Constant .none j pos) (tC .non) := fun _ _ _ H _ I h => Constant_none ⟨.non, H, I, rfl, h⟩
theorem pe_str {x j pos} : PE X (.Constant (.str x) j pos) (tC (.str x)) := fun _ _ _ H _ I h => Calls.Constant_str ⟨.str x, H, I.tok _, ⟨_, rfl⟩, h⟩

/-- a global name of the def -/
def Gl (X : Cx) (x : Str) : Prop := X.env.kindOf x = some .globalImplicit
theorem ld_glob {E : Value → Shared → Prop} {pins : List (Addr × Obj)} {s : Shared} {σ : St} {H : Hp} {x : Str} {u : Value} {pos : Pos} {Q : Value → Shared → Prop} (I : Inv X pins σ H s) (hg : Gl X x) (hm : X.mg x = some u) (h : Q u s)
    (hd : (x == ("__debug__" : Str)) = false := by decide) : wpAny (model X.prog X.w) X.A (eval (.Name x pos) X.env) Q E s :=
  Calls.Name_function_global I.ok.kind hg (Calls.loadGlobal_global (by rw [I.ok.glob]; exact I.mod.glob.keeps I.bk) hm h) hd
theorem ld_blt {E : Value → Shared → Prop} {pins : List (Addr × Obj)} {s : Shared} {σ : St} {H : Hp} {x : Str} {u : Value} {pos : Pos} {Q : Value → Shared → Prop} (I : Inv X pins σ H s) (hg : Gl X x) (hm : X.mg x = none) (hv : bootBuiltins x = some u) (h : Q u s)
    (hn : x ≠ "__name__" := by decide) (hd : (x == ("__debug__" : Str)) = false := by decide) : wpAny (model X.prog X.w) X.A (eval (.Name x pos) X.env) Q E s := by
  obtain ⟨mb, h1, h2⟩ := I.mod.blt
  exact Calls.Name_function_global I.ok.kind hg (Calls.loadGlobal_builtin (by rw [I.ok.glob]; exact I.mod.glob.keeps I.bk) hm (by rw [I.ok.blt]; exact h1.keeps I.bk) ((h2 x hn).trans hv) h) hd
/-- a module's constant, a class, a function, as a value -/
theorem pe_glob {x : Str} {v : V} {u : Value} {pos : Pos} (hg : Gl X x) (hm : X.mg x = some u) (r : RelV v u) (hd : (x == ("__debug__" : Str)) = false := by decide) : PE X (.Name x pos) (tC v) :=
  fun _ _ _ H _ I h => ld_glob I hg hm ⟨v, H, I, r, h⟩ hd
theorem pe_bltn {x : Str} {v : V} {u : Value} {pos : Pos} (hg : Gl X x) (hm : X.mg x = none) (hv : bootBuiltins x = some u) (r : RelV v u) (hn : x ≠ "__name__" := by decide) (hd : (x == ("__debug__" : Str)) = false := by decide) : PE X (.Name x pos) (tC v) :=
  fun _ _ _ H _ I h => ld_blt I hg hm hv ⟨v, H, I, r, h⟩ hn hd

/-! ### arithmetic -/
variable {a b : Expr} {ta tb : TE} {pos : Pos}
/-! ### comparisons -/
def PC (X : Cx) (op : CmpOp) (a b : Expr) (t : TE) : Prop :=
  ∀ (pins : List (Addr × Obj)) (s : Shared) (σ : St) (H : Hp) (Q : VK), Inv X pins σ H s → t σ H Q →
    wpAny (model X.prog X.w) X.A (eval a X.env) (fun v s₁ => wpAny (model X.prog X.w) X.A (eval b X.env) (fun u s₂ => wpAny (model X.prog X.w) X.A (compareOp op v u) (EP X pins σ Q) X.xe s₂) X.xe s₁) X.xe s
/-- a comparison as a value, as a test -/
def tB (t : TE) : TT := fun σ H Q => t σ H fun x H1 => ∃ c, x = .bl c ∧ Q c H1
/-- an expression whose value is a bool, as a test -/
theorem pt_val {e : Expr} {t : TE} (h : PE X e t) (he : ∀ whole, isTrue e X.env whole = (do let v ← whole; standAt e.pos; holding [v] (truthy v)) := by intro _; rfl) : PT X e (tB t) := by
  intro pins s σ H Q I hw
  refine isTrue_plain (thn (h pins s σ H _ I hw) fun v s1 ⟨x, H1, I1, r1, q1⟩ => ?_) (he _)
  obtain ⟨d, rfl, q⟩ := q1
  cases r1
  exact wpAny_truthy_bool ⟨H1, I1, q⟩

/-! ### and, or, not -/
variable {tA tB' : TT} {rest : List Expr}
def tAnd (t u : TT) : TT := fun σ H Q => t σ H fun c H1 => if c = true then u σ H1 Q else Q false H1
def tOr (t u : TT) : TT := fun σ H Q => t σ H fun c H1 => if c = true then Q true H1 else u σ H1 Q
def tNot (t : TT) : TT := fun σ H Q => t σ H fun c H1 => Q (!c) H1
theorem pw_and1 (ha : PT X a tA) : PW X (.BoolOp .And [a] pos) tA := by
  intro wh pins s σ H Q I h
  refine isTrue_and (thn (ha pins s σ H Q I h) fun c s1 e => ?_)
  cases c with
  | true => exact isTrue_and_nil e
  | false => exact e
theorem pw_or1 (ha : PT X a tA) : PW X (.BoolOp .Or [a] pos) tA := by
  intro wh pins s σ H Q I h
  refine isTrue_or (thn (ha pins s σ H Q I h) fun c s1 e => ?_)
  cases c with
  | false => exact isTrue_or_nil e
  | true => exact e
theorem pw_and (ha : PT X a tA) (hb : PW X (.BoolOp .And (b :: rest) pos) tB') : PW X (.BoolOp .And (a :: b :: rest) pos) (tAnd tA tB') := by
  intro wh pins s σ H Q I h
  refine isTrue_and (thn (ha pins s σ H _ I h) fun c s1 ⟨H1, I1, q1⟩ => ?_)
  cases c with
  | true => exact hb wh pins s1 σ H1 Q I1 q1
  | false => exact ⟨H1, I1, q1⟩
theorem pw_or (ha : PT X a tA) (hb : PW X (.BoolOp .Or (b :: rest) pos) tB') : PW X (.BoolOp .Or (a :: b :: rest) pos) (tOr tA tB') := by
  intro wh pins s σ H Q I h
  refine isTrue_or (thn (ha pins s σ H _ I h) fun c s1 ⟨H1, I1, q1⟩ => ?_)
  cases c with
  | true => exact ⟨H1, I1, q1⟩
  | false => exact hb wh pins s1 σ H1 Q I1 q1
theorem pt_not (ha : PT X a tA) : PT X (.UnaryOp .Not a pos) (tNot tA) := by
  intro pins s σ H Q I h
  exact isTrue_not (ha pins s σ H (fun c H1 => Q (!c) H1) I h)
/-- .. as values (bools) -/
def tAndV (ta tb : TE) : TE := fun σ H Q => ta σ H fun x H1 => ∃ c, x = .bl c ∧ if c = true then tb σ H1 Q else Q (.bl false) H1
def tOrV (ta tb : TE) : TE := fun σ H Q => ta σ H fun x H1 => ∃ c, x = .bl c ∧ if c = true then Q (.bl true) H1 else tb σ H1 Q
def tNotV (ta : TE) : TE := fun σ H Q => ta σ H fun x H1 => ∃ c, x = .bl c ∧ Q (.bl (!c)) H1
theorem pe_one {op} {t : TE} (h : PE X a t) : PE X (.BoolOp op [a] pos) t := fun pins s σ H Q I hw => BoolOp_one (h pins s σ H Q I hw)
theorem pe_and (ha : PE X a ta) (hb : PE X (.BoolOp .And (b :: rest) pos) tb) : PE X (.BoolOp .And (a :: b :: rest) pos) (tAndV ta tb) := by
  intro pins s σ H Q I h
  refine BoolOp_and (thn (ha pins s σ H _ I h) fun v s1 ⟨x, H1, I1, r1, q1⟩ => ?_)
  obtain ⟨c, rfl, q1⟩ := q1
  cases r1
  refine wpAny_truthy_bool ?_
  cases c with
  | true => exact hb pins s1 σ H1 Q I1 q1
  | false => exact ⟨.bl false, H1, I1, rfl, q1⟩
theorem pe_or (ha : PE X a ta) (hb : PE X (.BoolOp .Or (b :: rest) pos) tb) : PE X (.BoolOp .Or (a :: b :: rest) pos) (tOrV ta tb) := by
  intro pins s σ H Q I h
  refine BoolOp_or (thn (ha pins s σ H _ I h) fun v s1 ⟨x, H1, I1, r1, q1⟩ => ?_)
  obtain ⟨c, rfl, q1⟩ := q1
  cases r1
  refine wpAny_truthy_bool ?_
  cases c with
  | false => exact hb pins s1 σ H1 Q I1 q1
  | true => exact ⟨.bl true, H1, I1, rfl, q1⟩
theorem pe_not (ha : PE X a ta) : PE X (.UnaryOp .Not a pos) (tNotV ta) := by
  intro pins s σ H Q I h
  refine UnaryOp_ (thn (ha pins s σ H _ I h) fun v s1 ⟨x, H1, I1, r1, q1⟩ => ?_)
  obtain ⟨c, rfl, q1⟩ := q1
  cases r1
  exact not_of (wpAny_truthy_bool ⟨.bl (!c), H1, I1, rfl, q1⟩)
/-- a if t else b -/
def tIf (t : TT) (ta tb : TE) : TE := fun σ H Q => t σ H fun c H1 => if c = true then ta σ H1 Q else tb σ H1 Q
theorem pe_ifExp {c : Expr} (hc : PT X c tA) (ha : PE X a ta) (hb : PE X b tb) : PE X (.IfExp c a b pos) (tIf tA ta tb) := by
  intro pins s σ H Q I h
  refine wpAny_IfExp (thn (hc pins s σ H _ I h) fun d s1 ⟨H1, I1, q1⟩ => ?_)
  cases d with
  | true => exact ha pins s1 σ H1 Q I1 q1
  | false => exact hb pins s1 σ H1 Q I1 q1
end
end L2

namespace L2
open PySem PySem.Spec PyProof.Rows

/-! ### a list, a tuple that is read: tracked, frozen, or an object of the module -/
def SqL (K : PySem.W.Frag) (H : Hp) (a : Addr) (xs : List V) : Prop :=
  Rd H a (.lst xs) ∨
    ∃ (o : Obj) (its : Array Value) (n : Nat), K.lookup a = some o ∧ o.cls = .type "list" ∧ o.dict = none ∧ o.data = .seq its n ∧ its.size ≤ sizeLine ∧ Vals xs its.toList
def SqT (K : PySem.W.Frag) (H : Hp) (a : Addr) (xs : List V) : Prop :=
  Rd H a (.tup xs) ∨
    ∃ (o : Obj) (its : Array Value) (n : Nat), K.lookup a = some o ∧ o.cls = .type "tuple" ∧ o.data = .seq its n ∧ its.size ≤ sizeLine ∧ Vals xs its.toList
def absV : Value → Option V
  | .none => some .non
  | .bool b => some (.bl b)
  | .int i _ => some (.int i)
  | .str x _ => some (.str x)
  | .bytes b _ => some (.byt b)
  | .float b _ => some (.flt b)
  | .ref a => some (.ref a)
  | .type n => some (.ty n)
  | _ => none
theorem RelV.abs {x : V} {u : Value} (r : RelV x u) : absV u = some x := by
  cases x with
  | non => cases r; rfl
  | bl _ => cases r; rfl
  | int _ => obtain ⟨t, rfl⟩ := r; rfl
  | str _ => obtain ⟨t, rfl⟩ := r; rfl
  | byt _ => obtain ⟨t, rfl⟩ := r; rfl
  | flt _ => obtain ⟨t, rfl⟩ := r; rfl
  | ref _ => cases r; rfl
  | ty _ => cases r; rfl
theorem RelV.inj {x y : V} {u : Value} (r : RelV x u) (q : RelV y u) : x = y := Option.some.inj (r.abs.symm.trans q.abs)
theorem Vals.inj : ∀ {xs ys : List V} {us : List Value}, Vals xs us → Vals ys us → xs = ys
  | _, _, _, .nil, .nil => rfl
  | _, _, _, .cons r t, .cons r' t' => by rw [r.inj r', Vals.inj t t']
section
variable {X : Cx} {pins : List (Addr × Obj)} {σ : St} {H : Hp} {s : Shared} {a : Addr} {xs ys : List V}
theorem SqL.of {K : PySem.W.Frag} (h : H a = some (.lst xs)) : SqL K H a xs := .inl (.inl h)
theorem SqT.of {K : PySem.W.Frag} (h : H a = some (.tup xs)) : SqT K H a xs := .inl (.inl h)
theorem Inv.list (I : Inv X pins σ H s) (h : SqL X.K H a xs) : ∃ its : List Value, Vals xs its ∧ PlainL s.heap a its.toArray ∧ xs.length ≤ sizeLine := by
  rcases h with h | ⟨o, its, n, hk, hc, hd, hs, hz, r⟩
  · obtain ⟨z, its, n, r, e⟩ := h.ok I.hok
    exact ⟨its, r, ⟨_, n, e, rfl, rfl, rfl⟩, z⟩
  · refine ⟨its.toList, r, ⟨o, n, I.kIn a o hk, hc, hd, by simpa using hs⟩, ?_⟩
    have e := r.length
    simp only [Array.length_toList] at e
    omega
theorem Inv.tuple (I : Inv X pins σ H s) (h : SqT X.K H a xs) : ∃ its : List Value, Vals xs its ∧ IsTup s.heap a its.toArray ∧ xs.length ≤ sizeLine := by
  rcases h with h | ⟨o, its, n, hk, hc, hs, hz, r⟩
  · obtain ⟨z, its, r, p⟩ := h.ok I.hok
    exact ⟨its, r, p, z⟩
  · refine ⟨its.toList, r, ⟨o, I.kIn a o hk, hc, n, by simpa using hs⟩, ?_⟩
    have e := r.length
    simp only [Array.length_toList] at e
    omega
theorem Inv.list_inj (I : Inv X pins σ H s) (h : SqL X.K H a xs) (h' : SqL X.K H a ys) : xs = ys := by
  obtain ⟨its, r, ⟨o, n, e, _, _, d⟩, _⟩ := I.list h
  obtain ⟨its', r', ⟨o', n', e', _, _, d'⟩, _⟩ := I.list h'
  rw [e] at e'; cases e'
  rw [d] at d'
  injection d' with d1 _
  have : its = its' := by simpa using congrArg Array.toList d1
  subst this
  exact r.inj r'
theorem Inv.tuple_inj (I : Inv X pins σ H s) (h : SqT X.K H a xs) (h' : SqT X.K H a ys) : xs = ys := by
  obtain ⟨its, r, ⟨o, e, _, n, d⟩, _⟩ := I.tuple h
  obtain ⟨its', r', ⟨o', e', _, n', d'⟩, _⟩ := I.tuple h'
  rw [e] at e'; cases e'
  rw [d] at d'
  injection d' with d1 _
  have : its = its' := by simpa using congrArg Array.toList d1
  subst this
  exact r.inj r'
end

/-! ### another wish about exceptions -/
abbrev Cx.wish (X : Cx) (E : Value → Shared → Prop) : Cx := { X with xe := E }
/-- no exception leaves -/
abbrev Cx.nox (X : Cx) : Cx := X.wish fun _ _ => False
theorem Cx.Ok.wish {X : Cx} (ok : X.Ok) (E : Value → Shared → Prop) : (X.wish E).Ok :=
  ⟨ok.mod, ok.kind, ok.glob, ok.blt, ok.above, ok.inj, ok.has, ok.cab, ok.hd, ok.frames, ok.stk, ok.exf, ok.bs, ok.bsz, ok.noex, ok.exfs, ok.funs, ok.frf⟩
theorem Cx.Ok.unwish {X : Cx} {E : Value → Shared → Prop} (ok : (X.wish E).Ok) : X.Ok :=
  ⟨ok.mod, ok.kind, ok.glob, ok.blt, ok.above, ok.inj, ok.has, ok.cab, ok.hd, ok.frames, ok.stk, ok.exf, ok.bs, ok.bsz, ok.noex, ok.exfs, ok.funs, ok.frf⟩
section
variable {X : Cx} {pins : List (Addr × Obj)} {σ : St} {H : Hp} {s : Shared} {E : Value → Shared → Prop}
theorem Inv.wish (I : Inv X pins σ H s) (E : Value → Shared → Prop) : Inv (X.wish E) pins σ H s := ⟨I.ok.wish E, I.os, I.bare, I.base, I.loc, I.cell, I.free, I.freeC, I.pin, I.hok, I.len⟩
theorem Inv.unwish (I : Inv (X.wish E) pins σ H s) : Inv X pins σ H s := ⟨I.ok.unwish, I.os, I.bare, I.base, I.loc, I.cell, I.free, I.freeC, I.pin, I.hok, I.len⟩
theorem SP.unwish {D : Ends} {f : Flow} {s' : Shared} (h : SP (X.wish E) pins D f s') : SP X pins D f s' := by
  cases f with
  | next => obtain ⟨σ', H', I, q⟩ := h; exact ⟨σ', H', I.unwish, q⟩
  | brk => obtain ⟨σ', H', I, q⟩ := h; exact ⟨σ', H', I.unwish, q⟩
  | cont => obtain ⟨σ', H', I, q⟩ := h; exact ⟨σ', H', I.unwish, q⟩
  | ret u => obtain ⟨v, σ', H', I, r, q⟩ := h; exact ⟨v, σ', H', I.unwish, r, q⟩
theorem PSs.nox {st : List Stmt} {t : TS} (h : PSs X.nox st t) : PSs X st t := fun pins s σ H D I hw =>
  wpAny_mono (h pins s σ H D (I.wish _) hw) (fun _ _ q => q.unwish) fun _ _ z => False.elim z
end

/-! ### blocks and small statements -/
section
variable {X : Cx} {st : Stmt} {rest : List Stmt} {t u : TS} {e : Expr} {te : TE} {pos : Pos}
def tNext : TS := fun D σ H => D.nx σ H
def tSeq (t u : TS) : TS := fun D σ H => t { D with nx := u D } σ H
theorem pss_nil : PSs X [] tNext := fun _ _ σ H _ I h => wpAny_execs_nil ⟨σ, H, I, h⟩
theorem pss_cons (h1 : PS X st t) (h2 : PSs X rest u) : PSs X (st :: rest) (tSeq t u) := by
  intro pins s σ H D I h
  refine wpAny_execs_cons (thn (h1 pins s σ H { D with nx := u D } I h) fun f s1 q => ?_)
  cases f with
  | next =>
    obtain ⟨σ', H', I', q⟩ := q
    exact h2 pins s1 σ' H' D I' q
  | ret v => exact q
  | brk => exact q
  | cont => exact q
theorem pss_one (h1 : PS X st t) : PSs X [st] t := by
  intro pins s σ H D I h
  refine wpAny_execs_cons (thn (h1 pins s σ H D I h) fun f s1 q => ?_)
  cases f with
  | next => exact wpAny_execs_nil q
  | ret v => exact q
  | brk => exact q
  | cont => exact q
/-- in a def's body nothing is shown -/
theorem Inv.quiet {pins : List (Addr × Obj)} {σ : St} {H : Hp} {s : Shared} (I : Inv X pins σ H s) : interactive X.env = false := by simp [interactive, I.ok.kind]
/-- an expression whose value is dropped -/
def tDrop (te : TE) : TS := fun D σ H => te σ H fun _ H1 => D.nx σ H1
theorem ps_expr (he : PE X e te) (hs : swapsWith e none pos.line X.env = pure false := by rfl) : PS X (.Expr e pos) (tDrop te) := by
  intro pins s σ H D I h
  exact wpAny_Expr_any (thn (he pins s σ H _ I h) fun v s1 ⟨x, H1, I1, r1, q1⟩ => ⟨σ, H1, I1, q1⟩) I.quiet hs
def tRet (te : TE) : TS := fun D σ H => te σ H D.rt
theorem ps_ret (he : PE X e te) : PS X (.Return (some e) pos) (tRet te) := by
  intro pins s σ H D I h
  exact wpAny_Return_some (thn (he pins s σ H _ I h) fun v s1 ⟨x, H1, I1, r1, q1⟩ => ⟨x, σ, H1, I1, r1, q1⟩)
def tIfS (c : TT) (t u : TS) : TS := fun D σ H => c σ H fun b H1 => if b = true then t D σ H1 else u D σ H1
theorem ps_if {c : Expr} {a b : List Stmt} {tc : TT} (hc : PT X c tc) (ha : PSs X a t) (hb : PSs X b u) : PS X (.If c a b pos) (tIfS tc t u) := by
  intro pins s σ H D I h
  refine wpAny_If (thn (hc pins s σ H _ I h) fun d s1 ⟨H1, I1, q1⟩ => ?_)
  cases d with
  | true => exact ha pins s1 σ H1 D I1 q1
  | false => exact hb pins s1 σ H1 D I1 q1
/-- code that the proof never comes to -/
def tNever : TS := fun _ _ _ => False
theorem ps_never : PS X st tNever := fun _ _ _ _ _ _ h => h.elim
end

/-! ### targets -/
abbrev TG := V → St → Hp → (St → Hp → Prop) → Prop
abbrev TGs := List V → St → Hp → (St → Hp → Prop) → Prop
def PG (X : Cx) (target : Expr) (t : TG) : Prop :=
  ∀ (pins : List (Addr × Obj)) (s : Shared) (σ : St) (H : Hp) (v : V) (u : Value) (Q : St → Hp → Prop), Inv X pins σ H s → RelV v u → t v σ H Q →
    wpAny (model X.prog X.w) X.A (assign target X.env u) (fun _ s' => ∃ σ' H', Inv X pins σ' H' s' ∧ Q σ' H') X.xe s
/-- several targets, one after another -/
def PGs (X : Cx) (ts : List Expr) (t : TGs) : Prop :=
  ∀ (pins : List (Addr × Obj)) (s : Shared) (σ : St) (H : Hp) (vs : List V) (us : List Value) (Q : St → Hp → Prop), Inv X pins σ H s → Vals vs us → t vs σ H Q →
    wpAny (model X.prog X.w) X.A (assignInOrder ((assignEach ts X.env).map (·.2)) us) (fun _ s' => ∃ σ' H', Inv X pins σ' H' s' ∧ Q σ' H') X.xe s
/-- o[i] = v, by values -/
abbrev TSet := V → V → V → Hp → (Hp → Prop) → Prop
def PSet (X : Cx) (t : TSet) : Prop :=
  ∀ (pins : List (Addr × Obj)) (s : Shared) (σ : St) (H : Hp) (o i v : V) (ov iv u : Value) (Q : Hp → Prop), Inv X pins σ H s → RelV o ov → RelV i iv → RelV v u → t o i v H Q →
    wpAny (model X.prog X.w) X.A (setItem ov iv u) (fun _ s' => ∃ H', Inv X pins σ H' s' ∧ Q H') X.xe s
/-- a op= b, by values -/
abbrev TIp := V → V → Hp → VK → Prop
def PIp (X : Cx) (op : Operator) (t : TIp) : Prop :=
  ∀ (pins : List (Addr × Obj)) (s : Shared) (σ : St) (H : Hp) (x y : V) (v u : Value) (Q : VK), Inv X pins σ H s → RelV x v → RelV y u → t x y H Q →
    wpAny (model X.prog X.w) X.A (inplaceOp op v u) (EP X pins σ Q) X.xe s
section
variable {X : Cx} {pos : Pos}
def gName (i : Nat) : TG := fun v σ H Q => Q (σ.set i (some v)) H
theorem pg_name {i : Nat} {x : Str} (hN : X.N.Nodup) (hi : X.N[i]? = some x) (hx : Loc X.env.scope x) (hf : X.fn x = true ∨ X.env.scope.names.lookup x = some .local := by first | exact .inl rfl | exact .inr rfl | assumption) : PG X (.Name x pos) (gName i) := by
  intro pins s σ H v u Q I r h
  exact wpAny_assign_Name (store_ok I hN hi hx r (fun s' I' => ⟨_, H, I', h⟩) hf)
def gNil : TGs := fun vs σ H Q => vs = [] ∧ Q σ H
def gCons (t : TG) (u : TGs) : TGs := fun vs σ H Q => ∃ v r, vs = v :: r ∧ t v σ H fun σ' H' => u r σ' H' Q
theorem pgs_nil : PGs X [] gNil := by
  intro pins s σ H vs us Q I r h
  obtain ⟨e, h⟩ := h
  subst e
  cases r
  exact assignInOrder_nil ⟨σ, H, I, h⟩
theorem pgs_cons {e : Expr} {es : List Expr} {t : TG} {u : TGs} (h1 : PG X e t) (h2 : PGs X es u)
    (hs : (assignEach (e :: es) X.env).map (·.2) = assign e X.env :: (assignEach es X.env).map (·.2) := by rfl) : PGs X (e :: es) (gCons t u) := by
  intro pins s σ H vs us Q I r h
  obtain ⟨v, vr, e1, h⟩ := h
  subst e1
  cases r with
  | cons r rr =>
    rw [hs]
    refine assignInOrder_cons (thn (h1 pins s σ H _ _ _ I r h) fun _ s1 ⟨σ1, H1, I1, q1⟩ => ?_)
    exact h2 pins s1 σ1 H1 _ _ Q I1 rr q1
/-- (a, b, ..) = a tuple of that length -/
def gTup (K : PySem.W.Frag) (n : Nat) (t : TGs) : TG := fun v σ H Q => ∃ a xs, v = .ref a ∧ SqT K H a xs ∧ xs.length = n ∧ t xs σ H Q
theorem pg_tup {es : List Expr} {k : Nat} {t : TGs} {n : Nat} (hc : X.calm = true) (h : PGs X es t)
    (hn : (assignEach es X.env).length = n := by rfl) (hst : (assignEach es X.env).findIdx? (·.1) = none := by rfl) : PG X (.Tuple es k pos) (gTup X.K n t) := by
  intro pins s σ H v u Q I r hw
  obtain ⟨a, xs, e1, hq, hl, hw⟩ := hw
  subst e1
  cases r
  obtain ⟨its, rv, ht, hz⟩ := I.tuple hq
  refine assign_Tuple_tuple (I.ok.hd hc) ht (by simp [hn, ← hl, rv.length]) hst fun h' hx => ?_
  have I1 : Inv X pins σ H { s with heap := h' } := I.kept (t' := s.toks) fun b o e => hx b o (Nat.ne_of_lt (Heap.lt_size e)) e
  exact h pins _ σ H xs _ Q I1 (by simpa using rv) hw
/-- target = value -/
def tAsg (te : TE) (g : TG) : TS := fun D σ H => te σ H fun x H1 => g x σ H1 D.nx
theorem ps_asg {tg e : Expr} {te : TE} {g : TG} (he : PE X e te) (hg : PG X tg g) (hs : swapsWithSole [tg] e pos.line X.env = pure false := by rfl) (hw : swappedStores [tg] e X.env = pure none := by rfl)
    (h1 : (assignEach [tg] X.env).map (·.2) = [assign tg X.env] := by rfl) : PS X (.Assign [tg] e pos) (tAsg te g) := by
  intro pins s σ H D I h
  refine wpAny_Assign_stores (thn (he pins s σ H _ I h) fun v s1 ⟨x, H1, I1, r1, q1⟩ => ?_) hs hw
  rw [h1]
  exact thn (hg pins s1 σ H1 x v _ I1 r1 q1) fun _ s2 q => q
/-- name = value -/
theorem ps_set {i : Nat} {x : Str} {e : Expr} {te : TE} {pos' : Pos} (hN : X.N.Nodup) (hi : X.N[i]? = some x) (hx : Loc X.env.scope x) (he : PE X e te) (hs : swapsWith e (some (.Name x pos')) pos.line X.env = pure false := by rfl) (hf : X.fn x = true ∨ X.env.scope.names.lookup x = some .local := by first | exact .inl rfl | exact .inr rfl | assumption) :
    PS X (.Assign [.Name x pos'] e pos) (tAsg te (gName i)) := by
  intro pins s σ H D I h
  refine wpAny_Assign_Name (thn (he pins s σ H _ I h) fun v s1 ⟨y, H1, I1, r1, q1⟩ => ?_) hs
  exact store_ok I1 hN hi hx r1 (fun s2 I2 => ⟨_, H1, I2, q1⟩) hf
/-- o[i] op= e -/
def tAugS (to ti te : TE) (tget : V → V → Hp → VK → Prop) (tip : TIp) (tset : TSet) : TS := fun D σ H => to σ H fun o H1 => ti σ H1 fun i H2 => tget o i H2 fun x H3 => te σ H3 fun y H4 => tip x y H4 fun z H5 => tset o i z H5 fun H6 => D.nx σ H6
/-- o[i], by values -/
def PGet (X : Cx) (t : V → V → Hp → VK → Prop) : Prop :=
  ∀ (pins : List (Addr × Obj)) (s : Shared) (σ : St) (H : Hp) (o i : V) (ov iv : Value) (Q : VK), Inv X pins σ H s → RelV o ov → RelV i iv → t o i H Q →
    wpAny (model X.prog X.w) X.A (getItem ov iv) (EP X pins σ Q) X.xe s
theorem ps_augS {o i e : Expr} {to ti te : TE} {tget : V → V → Hp → VK → Prop} {tip : TIp} {tset : TSet} {op : Operator} {tpos : Pos} (ho : PE X o to) (hi : PE X i ti) (hg : PGet X tget) (he : PE X e te) (hp : PIp X op tip) (hs : PSet X tset)
    (ha : ∀ ov iv new, augStore i ov iv new = (do holding [new, ov, iv] (setItem ov iv new); release [new, ov, iv] []; pure .next) := by intros; rfl) : PS X (.AugAssign (.Subscript o i tpos) op e pos) (tAugS to ti te tget tip tset) := by
  intro pins s σ H D I h
  refine wpAny_AugAssign_SubscriptAny (thn (ho pins s σ H _ I h) fun ov s1 ⟨x1, H1, I1, r1, q1⟩ => ?_) ha
  refine thn (hi pins s1 σ H1 _ I1 q1) fun iv s2 ⟨x2, H2, I2, r2, q2⟩ => ?_
  refine thn (hg pins s2 σ H2 x1 x2 ov iv _ I2 r1 r2 q2) fun old s3 ⟨x3, H3, I3, r3, q3⟩ => ?_
  refine thn (he pins s3 σ H3 _ I3 q3) fun v s4 ⟨x4, H4, I4, r4, q4⟩ => ?_
  refine thn (hp pins s4 σ H4 x3 x4 old v _ I4 r3 r4 q4) fun new s5 ⟨x5, H5, I5, r5, q5⟩ => ?_
  exact thn (hs pins s5 σ H5 x1 x2 x5 ov iv new _ I5 r1 r2 r5 q5) fun _ s6 ⟨H6, I6, q6⟩ => ⟨σ, H6, I6, q6⟩
/-- ints -/
def ipI (f : Int → Int → Int) : TIp := fun x y H Q => ∃ i j, x = .int i ∧ y = .int j ∧ Q (.int (f i j)) H
theorem ip_add : PIp X .Add (ipI fun i j => i + j) := by
  intro pins s σ H x y v u Q I r1 r2 h
  obtain ⟨i, j, e1, e2, q⟩ := h
  subst e1; subst e2
  obtain ⟨t, rfl⟩ := r1
  obtain ⟨t', rfl⟩ := r2
  exact iadd_int ⟨.int _, H, I.tok _, ⟨_, rfl⟩, q⟩
theorem ip_sub : PIp X .Sub (ipI fun i j => i - j) := by
  intro pins s σ H x y v u Q I r1 r2 h
  obtain ⟨i, j, e1, e2, q⟩ := h
  subst e1; subst e2
  obtain ⟨t, rfl⟩ := r1
  obtain ⟨t', rfl⟩ := r2
  exact isub_int ⟨.int _, H, I.tok _, ⟨_, rfl⟩, q⟩
end

/-! ### while -/
section
variable {X : Cx} {pos : Pos}
/-- the invariant W with its measure -/
def tWhile (c : TT) (tb : TS) : TS := fun D σ H => ∃ W : Nat → St → Hp → Prop, (∃ m, W m σ H) ∧ ∀ m σ H, W m σ H →
  c σ H fun b H1 => if b = true then ∃ N : St → Hp → Prop, (∀ σ' H', N σ' H' → ∃ m', m' < m ∧ W m' σ' H') ∧ tb { D with nx := N, ct := N, bk := D.nx } σ H1 else D.nx σ H1
theorem ps_while {c : Expr} {body : List Stmt} {tc : TT} {tb : TS} (hp : PassesOwn (model X.prog X.w) X.A X.env X.xe) (hc : PT X c tc) (hb : PSs X body tb) : PS X (.While c body [] pos) (tWhile tc tb) := by
  intro pins s σ H D I h
  obtain ⟨W, ⟨m0, w0⟩, turn⟩ := h
  refine wpAny_While (codeAny_whileLoop (fun n s' => ∃ σ' H', Inv X pins σ' H' s' ∧ W n σ' H') ?_ m0 ⟨σ, H, I, w0⟩)
  rintro n s1 ⟨σ1, H1, I1, w1⟩
  refine wpAny_passesOwn hp (thn (hc pins s1 σ1 H1 _ I1 (turn n σ1 H1 w1)) fun b s2 ⟨H2, I2, q2⟩ => ?_)
  cases b with
  | true =>
    obtain ⟨N, hN, q2⟩ := q2
    rw [if_pos rfl]
    refine wpAny_passesOwn hp (thn (hb pins s2 σ1 H2 _ I2 q2) fun f s3 q3 => ?_)
    cases f with
    | next =>
      obtain ⟨σ3, H3, I3, n3⟩ := q3
      obtain ⟨m', hm, w3⟩ := hN σ3 H3 n3
      exact ⟨m', hm, σ3, H3, I3, w3⟩
    | cont =>
      obtain ⟨σ3, H3, I3, n3⟩ := q3
      obtain ⟨m', hm, w3⟩ := hN σ3 H3 n3
      exact ⟨m', hm, σ3, H3, I3, w3⟩
    | brk => exact q3
    | ret v => exact q3
  | false =>
    rw [if_neg Bool.false_ne_true]
    exact wpAny_execs_nil ⟨σ1, H2, I2, q2⟩
end

/-! ### what a loop or a comprehension walks -/
/-- at turn i: it yields x (the heap may grow), or it stops -/
structure It where
  go : Nat → Hp → Prop
  yld : Nat → Hp → V → Hp → Prop
  stop : Nat → Hp → Prop
/-- the iterator's own objects may turn: they are not the frame's, not pinned, younger than the entry (or a comprehension's own) -/
def FpOk (X : Cx) (pins : List (Addr × Obj)) (H : Hp) (b : Addr) : Prop :=
  H b = none ∧ b ≠ X.env.locals ∧ b ∉ X.fs ∧ (b ∈ X.ex ∨ X.s₀.heap.objs.size ≤ b) ∧ (∀ x c, X.env.cells.lookup x = some c → c ≠ b) ∧ ∀ p ∈ X.pn ++ pins, p.1 ≠ b
theorem Inv.fpOk {X : Cx} {pins : List (Addr × Obj)} {σ : St} {H H' : Hp} {s : Shared} {b : Addr} (I : Inv X pins σ H s) (hb : s.heap.objs.size ≤ b) (hn : H' b = none) : FpOk X pins H' b := by
  refine ⟨hn, Nat.ne_of_gt (Nat.lt_of_lt_of_le I.lt hb), I.nofs hb, .inr (Nat.le_trans I.sz hb), fun x c e z => ?_, fun p hp z => ?_⟩
  · obtain ⟨v, q⟩ := I.cell x c e
    exact absurd (Nat.lt_of_lt_of_le q.lt (by rw [z]; exact hb)) (Nat.lt_irrefl _)
  · exact absurd (Nat.lt_of_lt_of_le (Heap.lt_size (I.pin p hp).1) (by rw [z]; exact hb)) (Nat.lt_irrefl _)
structure Turn (P : Program) (w : World) (K : PySem.W.Frag) (tg : Expr) (J : It) (fp : List Addr) (it : Addr) (tn : Nat → Heap → Prop) : Prop where
  mem : it ∈ fp
  obj : ∀ i h, tn i h → ∀ b ∈ fp, ∃ o, h.get? b = some o ∧ ∀ v, o.data ≠ .cell v
  keep : ∀ i h h', tn i h → (∀ b ∈ fp, ∀ o, h.get? b = some o → h'.get? b = some o) → tn i h'
  item : ∀ (X : Cx), X.prog = P → X.w = w → X.K = K → X.calm = true → ∀ (i : Nat) (pins : List (Addr × Obj)) (s : Shared) (σ : St) (H : Hp) (E : Value → Shared → Prop), Inv X pins σ H s → (∀ b ∈ fp, FpOk X pins H b) → tn i s.heap → J.go i H →
    wpAny (model P w) X.A (pyNext (.ref it)) (fun r s1 => ∃ u, r = some u ∧
      wpAny (model P w) X.A (letOwnedTupleGo tg (.ref it) u) (fun _ s2 => ∃ x H', Inv X pins σ H' s2 ∧ RelV x u ∧ J.yld i H x H' ∧ tn (i + 1) s2.heap ∧ ∀ b ∈ fp, H' b = none) E s1) E s
  done : ∀ (X : Cx), X.prog = P → X.w = w → X.K = K → X.calm = true → ∀ (i : Nat) (pins : List (Addr × Obj)) (s : Shared) (σ : St) (H : Hp) (E : Value → Shared → Prop), Inv X pins σ H s → (∀ b ∈ fp, FpOk X pins H b) → tn i s.heap → J.stop i H →
    wpAny (model P w) X.A (pyNext (.ref it)) (fun r s1 => r = none ∧ Inv X pins σ H s1) E s
  self : ∀ (A : Around) (i : Nat) (s : Shared) (Q : Value → Shared → Prop) (E : Value → Shared → Prop), tn i s.heap → Q (.ref it) s → wpAny (model P w) A (pyIter (.ref it)) Q E s
abbrev TI := St → Hp → (It → Hp → Prop) → Prop
/-- an iterator has come -/
def PIE (X : Cx) (pins : List (Addr × Obj)) (σ : St) (tg : Expr) (R : It → Hp → Prop) (itv : Value) (s2 : Shared) : Prop :=
  ∃ (it : Addr) (fp : List Addr) (tn : Nat → Heap → Prop) (J : It) (H' : Hp), itv = .ref it ∧ Inv X pins σ H' s2 ∧ Turn X.prog X.w X.K tg J fp it tn ∧ tn 0 s2.heap ∧ (∀ b ∈ fp, FpOk X pins H' b) ∧ R J H'
def PI (X : Cx) (tg iter : Expr) (wi : TI) : Prop :=
  ∀ (pins : List (Addr × Obj)) (s : Shared) (σ : St) (H : Hp) (R : It → Hp → Prop), Inv X pins σ H s → wi σ H R →
    wpAny (model X.prog X.w) X.A (eval iter X.env) (fun v s1 => wpAny (model X.prog X.w) X.A (pyIter v) (PIE X pins σ tg R) X.xe s1) X.xe s

/-- the step ahead of the store is nothing for an iterator that keeps no tuple -/
theorem go_of {M : Model} {A : Around} {E : Value → Shared → Prop} {s : Shared} {tg : Expr} {it : Addr} {u : Value} {o : Obj} {n : String} {vs : Array Value} {Q : Unit → Shared → Prop} (ho : s.heap.get? it = some o) (hc : o.cls = .type n) (hd : o.data = .fields vs)
    (hn : ["enumerate", "zip", "dict_itemiterator", "dict_reverseitemiterator", "odict_iterator", "itertools.zip_longest", "itertools.pairwise"].contains n = false) (hQ : Q () s) : wpAny M A (letOwnedTupleGo tg (.ref it) u) Q E s := by
  unfold letOwnedTupleGo
  cases tg <;> first
    | exact wpAny_pure hQ
    | (cases u <;> first
        | exact wpAny_pure hQ
        | (refine wpAny_bind (wpAny_load ho ?_)
           rw [hc, hd]
           show wpAny M A (if (["enumerate", "zip", "dict_itemiterator", "dict_reverseitemiterator", "odict_iterator", "itertools.zip_longest", "itertools.pairwise"].contains n && vs[0]? == some (rawInt _)) = true then _ else _) Q E s
           rw [if_neg (by intro h; rw [hn, Bool.false_and] at h; cases h)]
           exact wpAny_pure hQ))

/-- the list at a, as it stands at each turn (a loop may append to it) -/
def Itl (K : PySem.W.Frag) (a : Addr) : It :=
  ⟨fun i H => ∃ xs x, SqL K H a xs ∧ xs[i]? = some x, fun i H x H' => H' = H ∧ ∀ xs, SqL K H a xs → xs[i]? = some x, fun i H => ∃ xs, SqL K H a xs ∧ xs.length ≤ i⟩
def Itt (K : PySem.W.Frag) (a : Addr) : It :=
  ⟨fun i H => ∃ xs x, SqT K H a xs ∧ xs[i]? = some x, fun i H x H' => H' = H ∧ ∀ xs, SqT K H a xs → xs[i]? = some x, fun i H => ∃ xs, SqT K H a xs ∧ xs.length ≤ i⟩
/-- lo, lo + 1, .. (n of them) -/
def Itr (lo : Int) (n : Nat) : It := ⟨fun i _ => i < n, fun i H x H' => H' = H ∧ x = .int (lo + i), fun i _ => n ≤ i⟩
theorem turn_list {P : Program} {w : World} {K : PySem.W.Frag} {tg : Expr} (a it : Addr) : Turn P w K tg (Itl K a) [it] it (fun i h => h.IsListIter it a i) where
  mem := by simp
  obj := fun i h st b hb => by
    have e : b = it := by simpa using hb
    subst e
    obtain ⟨o, e, c, d⟩ := st
    exact ⟨o, e, fun v z => by rw [d] at z; cases z⟩
  keep := fun i h h' st k => st.at fun o e => k it (by simp) o e
  item := by
    intro X hP hw hK hc i pins s σ H E I hf st hg
    subst hP hw hK
    obtain ⟨xs, x, hq, hx⟩ := hg
    obtain ⟨its, rv, p, hz⟩ := I.list hq
    obtain ⟨u, hu, ru⟩ := rv.get hx
    obtain ⟨f0, f1, f2, f3, f4, f5⟩ := hf it (by simp)
    refine wpAny_pyNext_list_item st p.isList (x := u) (by simpa using hu) fun h' st' sb => ?_
    have I1 : Inv X pins σ H { s with heap := h' } := I.turned (t' := s.toks) (fun b o hb e => (sb.2 b hb).trans e) f0 f1 f3 f4 f5
    obtain ⟨o, e, c, d⟩ := id st'
    exact ⟨u, rfl, go_of (s := { s with heap := h' }) e c d (by decide) ⟨x, H, I1, ru, ⟨rfl, fun ys hy => by rw [I.list_inj hy hq]; exact hx⟩, st', fun b hb => (hf b hb).1⟩⟩
  done := by
    intro X hP hw hK hc i pins s σ H E I hf st hg
    subst hP hw hK
    obtain ⟨xs, hq, hx⟩ := hg
    obtain ⟨its, rv, p, hz⟩ := I.list hq
    obtain ⟨f0, f1, f2, f3, f4, f5⟩ := hf it (by simp)
    have hl := rv.length
    exact wpAny_pyNext_list_end (I.ok.hd hc) st p.isList (by simp; omega) fun h' eb => ⟨rfl, I.turned (t' := s.toks) (fun b o hb e => eb b o hb e) f0 f1 f3 f4 f5⟩
  self := fun _ _ _ _ _ st h => wpAny_pyIter_listiter st h
theorem turn_tuple {P : Program} {w : World} {K : PySem.W.Frag} {tg : Expr} (a it : Addr) : Turn P w K tg (Itt K a) [it] it (fun i h => h.IsTupleIter it a i) where
  mem := by simp
  obj := fun i h st b hb => by
    have e : b = it := by simpa using hb
    subst e
    obtain ⟨o, e, c, d⟩ := st
    exact ⟨o, e, fun v z => by rw [d] at z; cases z⟩
  keep := fun i h h' st k => st.at fun o e => k it (by simp) o e
  item := by
    intro X hP hw hK hc i pins s σ H E I hf st hg
    subst hP hw hK
    obtain ⟨xs, x, hq, hx⟩ := hg
    obtain ⟨its, rv, p, hz⟩ := I.tuple hq
    obtain ⟨u, hu, ru⟩ := rv.get hx
    obtain ⟨f0, f1, f2, f3, f4, f5⟩ := hf it (by simp)
    refine wpAny_pyNext_tuple_item st (show s.heap.IsTuple a its.toArray from p) (x := u) (by simpa using hu) fun h' st' sb => ?_
    have I1 : Inv X pins σ H { s with heap := h' } := I.turned (t' := s.toks) (fun b o hb e => (sb.2 b hb).trans e) f0 f1 f3 f4 f5
    obtain ⟨o, e, c, d⟩ := id st'
    exact ⟨u, rfl, go_of (s := { s with heap := h' }) e c d (by decide) ⟨x, H, I1, ru, ⟨rfl, fun ys hy => by rw [I.tuple_inj hy hq]; exact hx⟩, st', fun b hb => (hf b hb).1⟩⟩
  done := by
    intro X hP hw hK hc i pins s σ H E I hf st hg
    subst hP hw hK
    obtain ⟨xs, hq, hx⟩ := hg
    obtain ⟨its, rv, p, hz⟩ := I.tuple hq
    obtain ⟨f0, f1, f2, f3, f4, f5⟩ := hf it (by simp)
    have hl := rv.length
    exact wpAny_pyNext_tuple_end (I.ok.hd hc) st (show s.heap.IsTuple a its.toArray from p) (by simp; omega) fun h' eb => ⟨rfl, I.turned (t' := s.toks) (fun b o hb e => eb b o hb e) f0 f1 f3 f4 f5⟩
  self := fun _ _ _ _ _ st h => wpAny_pyIter_tupleiter st h
theorem turn_range {P : Program} {w : World} {K : PySem.W.Frag} {tg : Expr} (it : Addr) (lo : Int) (n : Nat) : Turn P w K tg (Itr lo n) [it] it (fun i h => IsRangeIter h it (lo + (i : Nat) * 1) ((n : Int) - (i : Nat)) 1) where
  mem := by simp
  obj := fun i h st b hb => by
    have e : b = it := by simpa using hb
    subst e
    exact ⟨_, st, fun v z => by
      have z' : Data.fields _ = Data.cell v := z
      cases z'⟩
  keep := fun i h h' st k => k it (by simp) _ st
  item := by
    intro X hP hw hK hc i pins s σ H E I hf st hg
    subst hP hw hK
    obtain ⟨f0, f1, f2, f3, f4, f5⟩ := hf it (by simp)
    have W := Walks.range (prog := X.prog) (w := X.w) (I.ok.hd hc) it lo 1 n
    refine W.item i s _ _ hg st fun v h' tk hv st' kk => ?_
    obtain ⟨t, rfl⟩ := hv
    have I1 : Inv X pins σ H { s with heap := h', toks := tk } := I.turned (fun b o hb e => kk b o (by simpa using hb) e) f0 f1 f3 f4 f5
    refine ⟨_, rfl, go_of (s := { s with heap := h', toks := tk }) (n := "range_iterator") st' rfl rfl (by decide) ⟨.int (lo + i), H, I1, ⟨t, ?_⟩, ⟨rfl, rfl⟩, st', fun b hb => (hf b hb).1⟩⟩
    rw [Int.mul_one]
  done := by
    intro X hP hw hK hc i pins s σ H E I hf st hg
    subst hP hw hK
    obtain ⟨f0, f1, f2, f3, f4, f5⟩ := hf it (by simp)
    exact wpAny_pyNext_range_end (I.ok.hd hc) st (by have : n ≤ i := hg; omega) fun h' eb => ⟨rfl, I.turned (t' := s.toks) (fun b o hb e => eb b o hb e) f0 f1 f3 f4 f5⟩
  self := fun _ _ _ _ _ st h => wpAny_pyIter_rangeiter st h
end L2

namespace L2
open PySem PySem.Spec PyProof.Rows
section
variable {X : Cx} {tg : Expr}
def iList (K : PySem.W.Frag) (tl : TE) : TI := fun σ H R => tl σ H fun x H1 => ∃ a, x = .ref a ∧ (∃ xs, SqL K H1 a xs) ∧ R (Itl K a) H1
def iTup (K : PySem.W.Frag) (tl : TE) : TI := fun σ H R => tl σ H fun x H1 => ∃ a, x = .ref a ∧ (∃ xs, SqT K H1 a xs) ∧ R (Itt K a) H1
theorem pi_list {l : Expr} {tl : TE} (hl : PE X l tl) : PI X tg l (iList X.K tl) := by
  intro pins s σ H R I h
  refine thn (hl pins s σ H _ I h) fun v s1 ⟨x, H1, I1, r1, q1⟩ => ?_
  obtain ⟨a, e, ⟨xs, hq⟩, q⟩ := q1
  subst e
  cases r1
  obtain ⟨its, rv, p, hz⟩ := I1.list hq
  refine wpAny_pyIter_list p.isList ?_
  refine ⟨s1.heap.objs.size, [s1.heap.objs.size], _, _, H1, rfl, I1.kept (t' := s1.toks) fun b o e => Heap.get?_push_of_some _ e, turn_list a _, ⟨_, Heap.get?_push_size _ rfl, rfl, rfl⟩, fun b hb => ?_, q⟩
  have e : b = s1.heap.objs.size := by simpa using hb
  subst e
  exact I1.fpOk (Nat.le_refl _) (I1.hok.fresh (Nat.le_refl _))
theorem pi_tup {l : Expr} {tl : TE} (hl : PE X l tl) : PI X tg l (iTup X.K tl) := by
  intro pins s σ H R I h
  refine thn (hl pins s σ H _ I h) fun v s1 ⟨x, H1, I1, r1, q1⟩ => ?_
  obtain ⟨a, e, ⟨xs, hq⟩, q⟩ := q1
  subst e
  cases r1
  obtain ⟨its, rv, p, hz⟩ := I1.tuple hq
  refine wpAny_pyIter_tuple (show s1.heap.IsTuple a its.toArray from p) ?_
  refine ⟨s1.heap.objs.size, [s1.heap.objs.size], _, _, H1, rfl, I1.kept (t' := s1.toks) fun b o e => Heap.get?_push_of_some _ e, turn_tuple a _, ⟨_, Heap.get?_push_size _ rfl, rfl, rfl⟩, fun b hb => ?_, q⟩
  have e : b = s1.heap.objs.size := by simpa using hb
  subst e
  exact I1.fpOk (Nat.le_refl _) (I1.hok.fresh (Nat.le_refl _))
/-- a range object just made, walked -/
theorem range_it {pins : List (Addr × Obj)} {σ : St} {H : Hp} {s : Shared} {R : It → Hp → Prop} {E : Value → Shared → Prop} {lo hi : Int} {t u v : Tok} {tk : Nat} (I : Inv X pins σ H s) (h1 : -(2 ^ 62) ≤ lo) (h2 : lo < 2 ^ 62) (h3 : -(2 ^ 62) ≤ hi) (h4 : hi < 2 ^ 62)
    (q : R (Itr lo (hi - lo).toNat) H) : wpAny (model X.prog X.w) X.A (pyIter (.ref s.heap.objs.size)) (PIE X pins σ tg R) E { s with heap := s.heap.push { cls := .type "range", data := .fields #[.int lo t, .int hi u, .int 1 v] }, toks := tk } := by
  refine wpAny_pyIter_range (IsRange.new ..) (small_one h1 h2 h3 h4) ?_
  have I1 : Inv X pins σ H { s with heap := s.heap.push { cls := .type "range", data := .fields #[.int lo t, .int hi u, .int 1 v] }, toks := tk } := I.kept fun b o e => Heap.get?_push_of_some _ e
  refine ⟨(s.heap.push { cls := .type "range", data := .fields #[.int lo t, .int hi u, .int 1 v] }).objs.size, [(s.heap.push { cls := .type "range", data := .fields #[.int lo t, .int hi u, .int 1 v] }).objs.size], _, _, H, rfl,
    I1.kept (t' := tk) fun b o e => Heap.get?_push_of_some _ e, turn_range _ lo (hi - lo).toNat, ?_, fun b hb => ?_, q⟩
  · have e1 : lo + ((0 : Nat) : Int) * 1 = lo := by simp
    have e2 : (((hi - lo).toNat : Nat) : Int) - ((0 : Nat) : Int) = Builtin.Range.rangeSize lo hi 1 := by rw [rangeSize_one]; split <;> omega
    show IsRangeIter _ _ (lo + ((0 : Nat) : Int) * 1) ((((hi - lo).toNat : Nat) : Int) - ((0 : Nat) : Int)) 1
    rw [e1, e2]
    exact Heap.get?_push_size _ rfl
  · have e : b = (s.heap.push { cls := .type "range", data := .fields #[.int lo t, .int hi u, .int 1 v] }).objs.size := by simpa using hb
    subst e
    exact I1.fpOk (Nat.le_refl _) (I1.hok.fresh (Nat.le_refl _))
def iRng1 (ta : TA) : TI := fun σ H R => ta σ H fun vs H1 => ∃ j : Int, vs = [.int j] ∧ -(2 ^ 62) ≤ j ∧ j < 2 ^ 62 ∧ R (Itr 0 j.toNat) H1
theorem pi_range1 {a : Expr} {ta : TA} {p pos : Pos} (hg : Gl X "range") (hm : X.mg "range" = none) (ha : PA X [a] ta) (hs : starEach [a] X.env = [(false, eval a X.env)] := by rfl) : PI X tg (.Call (.Name "range" p) [a] [] pos) (iRng1 ta) := by
  intro pins s σ H R I h
  refine Call_ (ld_blt I hg hm boot_range (PyProof.Rows.callWith_type1 (thn (ha pos pins s σ H _ I h) fun us s1 ⟨vs, H1, I1, r1, q1⟩ => ?_) hs rfl))
  obtain ⟨j, e, q1, q2, q⟩ := q1
  subst e
  cases r1 with
  | cons r rr =>
    cases rr
    obtain ⟨t, rfl⟩ := r
    exact call_range_1 (range_it I1 (by omega) (by omega) q1 q2 (by simpa using q))
/-! ### for -/
/-- W: the invariant by the turn and a measure; N: what the body is to reach -/
def tFor (wi : TI) (g : TG) (tb : TS) : TS := fun D σ H => wi σ H fun J H1 => ∃ W : Nat → Nat → St → Hp → Prop, (∃ m, W 0 m σ H1) ∧ ∀ i m σ H, W i m σ H →
  (J.stop i H ∧ D.nx σ H) ∨ (J.go i H ∧ ∃ N : St → Hp → Prop, (∀ σ' H', N σ' H' → ∃ m', m' < m ∧ W (i + 1) m' σ' H') ∧ ∀ x H', J.yld i H x H' → g x σ H' fun σ2 H2 => tb { D with nx := N, ct := N, bk := D.nx } σ2 H2)
/-- the records at fp as they stand -/
def pinsAt (fp : List Addr) (h : Heap) : List (Addr × Obj) := fp.filterMap fun b => (h.get? b).map fun o => (b, o)
theorem mem_pinsAt {fp : List Addr} {h : Heap} {b : Addr} {o : Obj} (hb : b ∈ fp) (e : h.get? b = some o) : (b, o) ∈ pinsAt fp h := List.mem_filterMap.mpr ⟨b, hb, by rw [e]; rfl⟩
theorem of_pinsAt {fp : List Addr} {h : Heap} {p : Addr × Obj} (hp : p ∈ pinsAt fp h) : p.1 ∈ fp ∧ h.get? p.1 = some p.2 := by
  obtain ⟨b, hb, e⟩ := List.mem_filterMap.mp hp
  cases q : h.get? b with
  | none => rw [q] at e; cases e
  | some o =>
    rw [q] at e
    have e' : (b, o) = p := Option.some.inj e
    subst e'
    exact ⟨hb, q⟩
theorem Inv.pinned {pins : List (Addr × Obj)} {σ : St} {H : Hp} {s : Shared} {fp : List Addr} (I : Inv X pins σ H s) (hf : ∀ b ∈ fp, FpOk X pins H b) (ho : ∀ b ∈ fp, ∃ o, s.heap.get? b = some o ∧ ∀ v, o.data ≠ .cell v) : Inv X (pins ++ pinsAt fp s.heap) σ H s :=
  I.pins_of fun p hp => (List.mem_append.mp hp).elim (fun z => I.pin p (List.mem_append_right _ z)) fun z => by
    obtain ⟨hb, e⟩ := of_pinsAt z
    obtain ⟨f0, f1, f2, _⟩ := hf p.1 hb
    obtain ⟨o, e', d⟩ := ho p.1 hb
    rw [e] at e'; cases e'
    exact ⟨e, f0, f1, f2, d⟩
theorem Inv.unpinned {pins pl : List (Addr × Obj)} {σ : St} {H : Hp} {s : Shared} (I : Inv X (pins ++ pl) σ H s) : Inv X pins σ H s := I.pins_of fun p hp => I.pin p (List.mem_append_right _ (List.mem_append_left _ hp))
theorem ps_for {iter : Expr} {body : List Stmt} {wi : TI} {g : TG} {tb : TS} {pos : Pos} (hp : PassesOwn (model X.prog X.w) X.A X.env X.xe) (hc : X.calm = true) (hi : PI X tg iter wi) (hg : PG X tg g) (hb : PSs X body tb)
    (hs : ∀ x, foldedSetIterable iter X.env x = pure x := by intro _; rfl) : PS X (.For tg iter body [] pos) (tFor wi g tb) := by
  intro pins s σ H D I h
  refine wpAny_For (thn (hi pins s σ H _ I h) fun v s1 h1 => thn h1 fun itv s2 h2 => ?_) hs
  obtain ⟨it, fp, tn, J, H2, e, I2, T, st2, f2, W, ⟨m0, w0⟩, turn⟩ := h2
  subst e
  -- what stays true of the iterator's objects through the loop
  have stat : ∀ {H' : Hp}, (∀ b ∈ fp, H' b = none) → ∀ b ∈ fp, FpOk X pins H' b := fun hn b hb => ⟨hn b hb, (f2 b hb).2⟩
  refine codeAny_forLoop_any (fun n s' => ∃ i σ' H', Inv X pins σ' H' s' ∧ tn i s'.heap ∧ (∀ b ∈ fp, H' b = none) ∧ W i n σ' H') ?_ m0 ⟨0, σ, H2, I2, st2, fun b hb => (f2 b hb).1, w0⟩
  rintro n s3 ⟨i, σ3, H3, I3, st3, fr3, w3⟩
  rcases turn i n σ3 H3 w3 with ⟨stop, qn⟩ | ⟨go, N, hN, step⟩
  · refine wpAny_passesOwn hp (thn (T.done X rfl rfl rfl hc i pins s3 σ3 H3 X.xe I3 (stat fr3) st3 stop) fun r s4 ⟨hr, I4⟩ => ?_)
    subst hr
    exact wpAny_execs_nil ⟨σ3, H3, I4, qn⟩
  · refine wpAny_passesOwn hp (thn (T.item X rfl rfl rfl hc i pins s3 σ3 H3 X.xe I3 (stat fr3) st3 go) fun r s4 ⟨u, hr, h4⟩ => ?_)
    subst hr
    refine wpAny_passesOwn hp (thn h4 fun _ s5 ⟨x, H5, I5, r5, y5, st5, fr5⟩ => ?_)
    have I5' := I5.pinned (stat fr5) (T.obj _ _ st5)
    refine wpAny_passesOwn hp (thn (hg _ s5 σ3 H5 x u _ I5' r5 (step x H5 y5)) fun _ s6 ⟨σ6, H6, I6, q6⟩ => ?_)
    refine wpAny_passesOwn hp (thn (hb _ s6 σ6 H6 _ I6 q6) fun f s7 q7 => ?_)
    have again : ∀ {σ7 : St} {H7 : Hp}, Inv X (pins ++ pinsAt fp s5.heap) σ7 H7 s7 → N σ7 H7 → ∃ m, m < n ∧ ∃ i σ' H', Inv X pins σ' H' s7 ∧ tn i s7.heap ∧ (∀ b ∈ fp, H' b = none) ∧ W i m σ' H' := fun {σ7 H7} I7 n7 => by
      obtain ⟨m', hm, w7⟩ := hN σ7 H7 n7
      refine ⟨m', hm, i + 1, σ7, H7, I7.unpinned, T.keep _ _ _ st5 fun b hb o e => (I7.pin (b, o) (List.mem_append_right _ (List.mem_append_right _ (mem_pinsAt hb e)))).1, fun b hb => ?_, w7⟩
      obtain ⟨o, e, d⟩ := T.obj _ _ st5 b hb
      exact (I7.pin (b, o) (List.mem_append_right _ (List.mem_append_right _ (mem_pinsAt hb e)))).2.1
    cases f with
    | next => obtain ⟨σ7, H7, I7, n7⟩ := q7; exact again I7 n7
    | cont => obtain ⟨σ7, H7, I7, n7⟩ := q7; exact again I7 n7
    | brk => obtain ⟨σ7, H7, I7, q7⟩ := q7; exact ⟨σ7, H7, I7.unpinned, q7⟩
    | ret v => obtain ⟨x7, σ7, H7, I7, r7, q7⟩ := q7; exact ⟨x7, σ7, H7, I7.unpinned, r7, q7⟩
end

/-! ### the forms one uses -/
/-- over a list that the body leaves as it is -/
theorem for_list {K : PySem.W.Frag} {a : Addr} {xs : List V} {g : TG} {tb : TS} {D : Ends} {σ : St} {H : Hp} (Pv : Nat → St → Hp → Prop) (h0 : Pv 0 σ H) (hl : ∀ i σ H, i ≤ xs.length → Pv i σ H → SqL K H a xs)
    (hs : ∀ i x σ H, xs[i]? = some x → Pv i σ H → g x σ H fun σ2 H2 => tb { D with nx := Pv (i + 1), ct := Pv (i + 1), bk := D.nx } σ2 H2) (hd : ∀ σ H, Pv xs.length σ H → D.nx σ H) :
    ∃ W : Nat → Nat → St → Hp → Prop, (∃ m, W 0 m σ H) ∧ ∀ i m σ H, W i m σ H →
      ((Itl K a).stop i H ∧ D.nx σ H) ∨ ((Itl K a).go i H ∧ ∃ N : St → Hp → Prop, (∀ σ' H', N σ' H' → ∃ m', m' < m ∧ W (i + 1) m' σ' H') ∧ ∀ x H', (Itl K a).yld i H x H' → g x σ H' fun σ2 H2 => tb { D with nx := N, ct := N, bk := D.nx } σ2 H2) := by
  refine ⟨fun i m σ H => m = xs.length - i ∧ i ≤ xs.length ∧ Pv i σ H, ⟨xs.length, by simp, Nat.zero_le _, h0⟩, ?_⟩
  rintro i m σ H ⟨rfl, hi, p⟩
  have q := hl i σ H hi p
  by_cases hlt : i < xs.length
  · refine .inr ⟨⟨xs, xs[i], q, by simp [hlt]⟩, Pv (i + 1), fun σ' H' p' => ⟨xs.length - (i + 1), by omega, rfl, hlt, p'⟩, fun x H' y => ?_⟩
    obtain ⟨e, y⟩ := y
    subst e
    exact hs i x σ _ (y xs q) p
  · have e : i = xs.length := by omega
    subst e
    exact .inl ⟨⟨xs, q, Nat.le_refl _⟩, hd σ H p⟩
theorem for_tup {K : PySem.W.Frag} {a : Addr} {xs : List V} {g : TG} {tb : TS} {D : Ends} {σ : St} {H : Hp} (Pv : Nat → St → Hp → Prop) (h0 : Pv 0 σ H) (hl : ∀ i σ H, i ≤ xs.length → Pv i σ H → SqT K H a xs)
    (hs : ∀ i x σ H, xs[i]? = some x → Pv i σ H → g x σ H fun σ2 H2 => tb { D with nx := Pv (i + 1), ct := Pv (i + 1), bk := D.nx } σ2 H2) (hd : ∀ σ H, Pv xs.length σ H → D.nx σ H) :
    ∃ W : Nat → Nat → St → Hp → Prop, (∃ m, W 0 m σ H) ∧ ∀ i m σ H, W i m σ H →
      ((Itt K a).stop i H ∧ D.nx σ H) ∨ ((Itt K a).go i H ∧ ∃ N : St → Hp → Prop, (∀ σ' H', N σ' H' → ∃ m', m' < m ∧ W (i + 1) m' σ' H') ∧ ∀ x H', (Itt K a).yld i H x H' → g x σ H' fun σ2 H2 => tb { D with nx := N, ct := N, bk := D.nx } σ2 H2) := by
  refine ⟨fun i m σ H => m = xs.length - i ∧ i ≤ xs.length ∧ Pv i σ H, ⟨xs.length, by simp, Nat.zero_le _, h0⟩, ?_⟩
  rintro i m σ H ⟨rfl, hi, p⟩
  have q := hl i σ H hi p
  by_cases hlt : i < xs.length
  · refine .inr ⟨⟨xs, xs[i], q, by simp [hlt]⟩, Pv (i + 1), fun σ' H' p' => ⟨xs.length - (i + 1), by omega, rfl, hlt, p'⟩, fun x H' y => ?_⟩
    obtain ⟨e, y⟩ := y
    subst e
    exact hs i x σ _ (y xs q) p
  · have e : i = xs.length := by omega
    subst e
    exact .inl ⟨⟨xs, q, Nat.le_refl _⟩, hd σ H p⟩
theorem for_range {lo : Int} {n : Nat} {g : TG} {tb : TS} {D : Ends} {σ : St} {H : Hp} (Pv : Nat → St → Hp → Prop) (h0 : Pv 0 σ H)
    (hs : ∀ i σ H, i < n → Pv i σ H → g (.int (lo + i)) σ H fun σ2 H2 => tb { D with nx := Pv (i + 1), ct := Pv (i + 1), bk := D.nx } σ2 H2) (hd : ∀ σ H, Pv n σ H → D.nx σ H) :
    ∃ W : Nat → Nat → St → Hp → Prop, (∃ m, W 0 m σ H) ∧ ∀ i m σ H, W i m σ H →
      ((Itr lo n).stop i H ∧ D.nx σ H) ∨ ((Itr lo n).go i H ∧ ∃ N : St → Hp → Prop, (∀ σ' H', N σ' H' → ∃ m', m' < m ∧ W (i + 1) m' σ' H') ∧ ∀ x H', (Itr lo n).yld i H x H' → g x σ H' fun σ2 H2 => tb { D with nx := N, ct := N, bk := D.nx } σ2 H2) := by
  refine ⟨fun i m σ H => m = n - i ∧ i ≤ n ∧ Pv i σ H, ⟨n, by simp, Nat.zero_le _, h0⟩, ?_⟩
  rintro i m σ H ⟨rfl, hi, p⟩
  by_cases hlt : i < n
  · refine .inr ⟨hlt, Pv (i + 1), fun σ' H' p' => ⟨n - (i + 1), by omega, rfl, hlt, p'⟩, fun x H' y => ?_⟩
    obtain ⟨e, y⟩ := y
    subst e y
    exact hs i σ _ hlt p
  · have e : i = n := by omega
    subst e
    exact .inl ⟨Nat.le_refl _, hd σ H p⟩
end L2

namespace L2
open PySem PySem.Spec PyProof.Rows

abbrev R2 := V → V → Hp → VK → Prop
/-- a two-place operation on values: f is binaryOp op, inplaceOp op or compareOp op -/
def OpR (X : Cx) (f : Value → Value → Sem Value) (r : R2) : Prop :=
  ∀ (pins : List (Addr × Obj)) (s : Shared) (σ : St) (H : Hp) (x y : V) (v u : Value) (Q : VK), Inv X pins σ H s → RelV x v → RelV y u → r x y H Q →
    wpAny (model X.prog X.w) X.A (f v u) (EP X pins σ Q) X.xe s
/-- a one-place operation -/
def UnR (X : Cx) (f : Value → Sem Value) (r : V → Hp → VK → Prop) : Prop :=
  ∀ (pins : List (Addr × Obj)) (s : Shared) (σ : St) (H : Hp) (x : V) (v : Value) (Q : VK), Inv X pins σ H s → RelV x v → r x H Q →
    wpAny (model X.prog X.w) X.A (f v) (EP X pins σ Q) X.xe s
/-- a call of a value that is known (a builtin, a type) with values -/
def CallR (X : Cx) (f : Value) (r : List V → Hp → VK → Prop) : Prop :=
  ∀ (pins : List (Addr × Obj)) (s : Shared) (σ : St) (H : Hp) (xs : List V) (us : List Value) (Q : VK), Inv X pins σ H s → Vals xs us → r xs H Q →
    wpAny (model X.prog X.w) X.A (call f us) (EP X pins σ Q) X.xe s
def tOp (r : R2) (ta tb : TE) : TE := fun σ H Q => ta σ H fun x H1 => tb σ H1 fun y H2 => r x y H2 Q
def tUn (r : V → Hp → VK → Prop) (ta : TE) : TE := fun σ H Q => ta σ H fun x H1 => r x H1 Q
/-- ints in, under C, and a value out -/
def rI (C : Int → Int → Prop) (g : Int → Int → V) : R2 := fun x y H Q => ∃ i j, x = .int i ∧ y = .int j ∧ C i j ∧ Q (g i j) H
def rI0 (g : Int → Int → V) : R2 := fun x y H Q => ∃ i j, x = .int i ∧ y = .int j ∧ Q (g i j) H
def rU (g : Int → V) : V → Hp → VK → Prop := fun x H Q => ∃ i, x = .int i ∧ Q (g i) H

section
variable {X : Cx} {a b c : Expr} {ta tb tc : TE} {pos : Pos}

theorem binT (ha : PE X a ta) (hb : PE X b tb) {pins : List (Addr × Obj)} {s : Shared} {σ : St} {H : Hp} {R : V → V → Hp → Prop} (I : Inv X pins σ H s)
    (h : ta σ H fun x H1 => tb σ H1 fun y H2 => R x y H2) {Q : Value → Shared → Prop} {f : Value → Value → Sem Value}
    (hf : ∀ v u s2 x y H2, Inv X pins σ H2 s2 → RelV x v → RelV y u → R x y H2 → wpAny (model X.prog X.w) X.A (f v u) Q X.xe s2) :
    wpAny (model X.prog X.w) X.A (eval a X.env) (fun v s₁ => wpAny (model X.prog X.w) X.A (eval b X.env) (fun u s₂ => wpAny (model X.prog X.w) X.A (f v u) Q X.xe s₂) X.xe s₁) X.xe s := by
  refine thn (ha pins s σ H _ I h) fun v s1 ⟨x, H1, I1, r1, q1⟩ => ?_
  refine thn (hb pins s1 σ H1 _ I1 q1) fun u s2 ⟨y, H2, I2, r2, q2⟩ => ?_
  exact hf v u s2 x y H2 I2 r1 r2 q2

theorem pe_op {op : Operator} {r : R2} (ho : OpR X (binaryOp op) r) (ha : PE X a ta) (hb : PE X b tb) : PE X (.BinOp a op b pos) (tOp r ta tb) := by
  intro pins s σ H Q I h
  exact wpAny_BinOp (binT ha hb I h fun v u s2 x y H2 I2 rx ry q => ho pins s2 σ H2 x y v u Q I2 rx ry q)
theorem pe_un {op : UnaryOp} {r : V → Hp → VK → Prop} (ho : UnR X (unaryOp op) r) (ha : PE X a ta) : PE X (.UnaryOp op a pos) (tUn r ta) := by
  intro pins s σ H Q I h
  exact UnaryOp_ (thn (ha pins s σ H _ I h) fun v s1 ⟨x, H1, I1, r1, q1⟩ => ho pins s1 σ H1 x v Q I1 r1 q1)
/-! ### ints -/
theorem opI {f : Value → Value → Sem Value} {C : Int → Int → Prop} {g : Int → Int → Int}
    (rule : ∀ (i j : Int) (t u : Tok) (s : Shared) (Q : Value → Shared → Prop) (E : Value → Shared → Prop), C i j → Q (.int (g i j) s.toks) { s with toks := s.toks + 1 } → wpAny (model X.prog X.w) X.A (f (.int i t) (.int j u)) Q E s) :
    OpR X f (rI C fun i j => .int (g i j)) := by
  intro pins s σ H x y v u Q I rx ry h
  obtain ⟨i, j, rfl, rfl, hc, q⟩ := h
  obtain ⟨t, rfl⟩ := rx
  obtain ⟨t', rfl⟩ := ry
  exact rule i j t t' s _ _ hc ⟨.int (g i j), H, I.tok _, ⟨_, rfl⟩, q⟩
theorem opI0 {f : Value → Value → Sem Value} {g : Int → Int → Int}
    (rule : ∀ (i j : Int) (t u : Tok) (s : Shared) (Q : Value → Shared → Prop) (E : Value → Shared → Prop), Q (.int (g i j) s.toks) { s with toks := s.toks + 1 } → wpAny (model X.prog X.w) X.A (f (.int i t) (.int j u)) Q E s) :
    OpR X f (rI0 fun i j => .int (g i j)) := by
  intro pins s σ H x y v u Q I rx ry h
  obtain ⟨i, j, rfl, rfl, q⟩ := h
  obtain ⟨t, rfl⟩ := rx
  obtain ⟨t', rfl⟩ := ry
  exact rule i j t t' s _ _ ⟨.int (g i j), H, I.tok _, ⟨_, rfl⟩, q⟩
theorem opB0 {f : Value → Value → Sem Value} {g : Int → Int → Bool}
    (rule : ∀ (i j : Int) (t u : Tok) (s : Shared) (Q : Value → Shared → Prop) (E : Value → Shared → Prop), Q (.bool (g i j)) s → wpAny (model X.prog X.w) X.A (f (.int i t) (.int j u)) Q E s) :
    OpR X f (rI0 fun i j => .bl (g i j)) := by
  intro pins s σ H x y v u Q I rx ry h
  obtain ⟨i, j, rfl, rfl, q⟩ := h
  obtain ⟨t, rfl⟩ := rx
  obtain ⟨t', rfl⟩ := ry
  exact rule i j t t' s _ _ ⟨.bl (g i j), H, I, rfl, q⟩

def CDiv (i j : Int) : Prop := 0 < j ∧ j < 1073741824
def CPow (i j : Int) : Prop := 0 ≤ j ∧ j ≤ 1000000 ∧ i.natAbs < 2 ^ 64
theorem op_add : OpR X (binaryOp .Add) (rI0 fun i j => .int (i + j)) := opI0 fun _ _ _ _ _ _ _ q => add_int q
theorem op_sub : OpR X (binaryOp .Sub) (rI0 fun i j => .int (i - j)) := opI0 fun _ _ _ _ _ _ _ q => sub_int q
/-- // by a positive divisor -/
theorem op_fdiv : OpR X (binaryOp .FloorDiv) (rI CDiv fun i j => .int (i / j)) := opI fun i j _ _ _ _ _ hc q => by
  have h1 : (0 : Int) < j := hc.1
  have h2 : j < 1073741824 := hc.2
  exact floordiv_int (by omega) (by rw [Int.fdiv_eq_ediv_of_nonneg i (by omega)]; exact q) (.inl (PyProof.noPylong_small (by omega)))
/-- % by a positive divisor of any size -/
theorem op_mod : OpR X (binaryOp .Mod) (rI (fun _ j => 0 < j) fun i j => .int (i % j)) := opI fun i j _ _ _ _ _ hc q => by
  have h1 : (0 : Int) < j := hc
  exact mod_int' (by omega) (by rw [Int.fmod_eq_emod_of_nonneg i (by omega)]; exact q)
theorem op_pow : OpR X (binaryOp .Pow) (rI CPow fun i j => .int (i ^ j.toNat)) := opI fun _ _ _ _ _ _ _ hc q => pow_int_small hc.1 hc.2.1 hc.2.2 q
theorem unI {f : Value → Sem Value} {g : Int → Int}
    (rule : ∀ (i : Int) (t : Tok) (s : Shared) (Q : Value → Shared → Prop) (E : Value → Shared → Prop), Q (.int (g i) s.toks) { s with toks := s.toks + 1 } → wpAny (model X.prog X.w) X.A (f (.int i t)) Q E s) :
    UnR X f (rU fun i => .int (g i)) := by
  intro pins s σ H x v Q I rx h
  obtain ⟨i, rfl, q⟩ := h
  obtain ⟨t, rfl⟩ := rx
  exact rule i t s _ _ ⟨.int (g i), H, I.tok _, ⟨_, rfl⟩, q⟩
theorem un_neg : UnR X (unaryOp .USub) (rU fun i => .int (-i)) := unI fun _ _ _ _ _ q => neg_int q
/-! ### bools among ints: n += (a < b) -/
end

/-! ### comparisons -/
/-- the scalars that == tells apart as data does -/
def scal : V → V → Bool
  | .non, .non => true | .non, .int _ => true | .int _, .non => true | .non, .bl _ => true | .bl _, .non => true | .non, .str _ => true | .str _, .non => true
  | .int _, .int _ => true | .bl _, .bl _ => true | .str _, .str _ => true | .byt _, .byt _ => true
  | .int _, .str _ => true | .str _, .int _ => true | .bl _, .str _ => true | .str _, .bl _ => true
  | _, _ => false
def rEq : R2 := fun x y H Q => scal x y = true ∧ Q (.bl (decide (x = y))) H
def rNe : R2 := fun x y H Q => scal x y = true ∧ Q (.bl (!decide (x = y))) H

theorem dec_int {i j : Int} : decide (V.int i = V.int j) = (i == j) := by
  rw [Bool.eq_iff_iff]
  simp
theorem dec_bl {i j : Bool} : decide (V.bl i = V.bl j) = (i == j) := by
  rw [Bool.eq_iff_iff]
  simp
theorem dec_str {i j : Str} : decide (V.str i = V.str j) = (i == j) := by
  rw [Bool.eq_iff_iff]
  simp
theorem dec_byt {i j : Array UInt8} : decide (V.byt i = V.byt j) = (i.toList == j.toList) := by
  rw [Bool.eq_iff_iff]
  cases i
  cases j
  simp

section
variable {X : Cx} {a b c : Expr} {ta tb tc : TE} {pos : Pos}
theorem fin_bl {pins : List (Addr × Obj)} {σ : St} {H : Hp} {s : Shared} {Q : VK} {k k' : Bool} (I : Inv X pins σ H s) (q : Q (.bl k) H) (e : k = k') : EP X pins σ Q (.bool k') s := by
  subst e
  exact ⟨.bl k, H, I, rfl, q⟩
theorem op_eq : OpR X (compareOp .Eq) rEq := by
  intro pins s σ H x y v u Q I rx ry h
  obtain ⟨hs, q⟩ := h
  cases x with
  | non =>
    cases rx
    cases y with
    | non => cases ry; exact PySem.EqNone.eq_none_none (fin_bl I q (by simp))
    | bl j => cases ry; exact PySem.EqNone.eq_none_bool (fin_bl I q (by simp))
    | int j => obtain ⟨t', rfl⟩ := ry; exact PySem.EqNone.eq_none_int (fin_bl I q (by simp))
    | str j => obtain ⟨t', rfl⟩ := ry; exact PySem.EqNone.eq_none_str (fin_bl I q (by simp))
    | _ => exact absurd (show false = true from hs) Bool.false_ne_true
  | bl i =>
    cases rx
    cases y with
    | non => cases ry; exact PySem.EqNone.eq_bool_none (fin_bl I q (by simp))
    | bl j => cases ry; exact eq_bool (fin_bl I q dec_bl)
    | str j => obtain ⟨t', rfl⟩ := ry; exact PySem.EqMixed.eq_bool_str (fin_bl I q (by simp))
    | _ => exact absurd (show false = true from hs) Bool.false_ne_true
  | int i =>
    obtain ⟨t, rfl⟩ := rx
    cases y with
    | non => cases ry; exact PySem.EqNone.eq_int_none (fin_bl I q (by simp))
    | int j => obtain ⟨t', rfl⟩ := ry; exact eq_int (fin_bl I q dec_int)
    | str j => obtain ⟨t', rfl⟩ := ry; exact PySem.EqMixed.eq_int_str (fin_bl I q (by simp))
    | _ => exact absurd (show false = true from hs) Bool.false_ne_true
  | str i =>
    obtain ⟨t, rfl⟩ := rx
    cases y with
    | non => cases ry; exact PySem.EqNone.eq_str_none (fin_bl I q (by simp))
    | bl j => cases ry; exact PySem.EqMixed.eq_str_bool (fin_bl I q (by simp))
    | int j => obtain ⟨t', rfl⟩ := ry; exact PySem.EqMixed.eq_str_int (fin_bl I q (by simp))
    | str j => obtain ⟨t', rfl⟩ := ry; exact eq_str (fin_bl I q dec_str)
    | _ => exact absurd (show false = true from hs) Bool.false_ne_true
  | byt i =>
    obtain ⟨t, rfl⟩ := rx
    cases y with
    | byt j => obtain ⟨t', rfl⟩ := ry; exact PySem.W.eq_bytes (fin_bl I q dec_byt)
    | _ => exact absurd (show false = true from hs) Bool.false_ne_true
  | _ => cases y <;> exact absurd (show false = true from hs) Bool.false_ne_true
theorem op_ne : OpR X (compareOp .NotEq) rNe := by
  intro pins s σ H x y v u Q I rx ry h
  obtain ⟨hs, q⟩ := h
  cases x with
  | non =>
    cases rx
    cases y with
    | non => cases ry; exact PySem.EqNone.ne_none_none (fin_bl I q (by simp))
    | bl j => cases ry; exact PySem.EqNone.ne_none_bool (fin_bl I q (by simp))
    | int j => obtain ⟨t', rfl⟩ := ry; exact PySem.EqNone.ne_none_int (fin_bl I q (by simp))
    | str j => obtain ⟨t', rfl⟩ := ry; exact PySem.EqNone.ne_none_str (fin_bl I q (by simp))
    | _ => exact absurd (show false = true from hs) Bool.false_ne_true
  | bl i =>
    cases rx
    cases y with
    | non => cases ry; exact PySem.EqNone.ne_bool_none (fin_bl I q (by simp))
    | bl j => cases ry; exact ne_bool (fin_bl I q (congrArg not dec_bl))
    | str j => obtain ⟨t', rfl⟩ := ry; exact PySem.EqMixed.ne_bool_str (fin_bl I q (by simp))
    | _ => exact absurd (show false = true from hs) Bool.false_ne_true
  | int i =>
    obtain ⟨t, rfl⟩ := rx
    cases y with
    | non => cases ry; exact PySem.EqNone.ne_int_none (fin_bl I q (by simp))
    | int j => obtain ⟨t', rfl⟩ := ry; exact ne_int (fin_bl I q (congrArg not dec_int))
    | str j => obtain ⟨t', rfl⟩ := ry; exact PySem.EqMixed.ne_int_str (fin_bl I q (by simp))
    | _ => exact absurd (show false = true from hs) Bool.false_ne_true
  | str i =>
    obtain ⟨t, rfl⟩ := rx
    cases y with
    | non => cases ry; exact PySem.EqNone.ne_str_none (fin_bl I q (by simp))
    | bl j => cases ry; exact PySem.EqMixed.ne_str_bool (fin_bl I q (by simp))
    | int j => obtain ⟨t', rfl⟩ := ry; exact PySem.EqMixed.ne_str_int (fin_bl I q (by simp))
    | str j => obtain ⟨t', rfl⟩ := ry; exact ne_str (fin_bl I q (congrArg not dec_str))
    | _ => exact absurd (show false = true from hs) Bool.false_ne_true
  | byt i =>
    obtain ⟨t, rfl⟩ := rx
    cases y with
    | byt j => obtain ⟨t', rfl⟩ := ry; exact PySem.W.ne_bytes (fin_bl I q (congrArg not dec_byt))
    | _ => exact absurd (show false = true from hs) Bool.false_ne_true
  | _ => cases y <;> exact absurd (show false = true from hs) Bool.false_ne_true

theorem op_lt : OpR X (compareOp .Lt) (rI0 fun i j => .bl (decide (i < j))) := opB0 fun _ _ _ _ _ _ _ q => lt_int q
theorem op_le : OpR X (compareOp .LtE) (rI0 fun i j => .bl (decide (i ≤ j))) := opB0 fun _ _ _ _ _ _ _ q => le_int q
theorem op_gt : OpR X (compareOp .Gt) (rI0 fun i j => .bl (decide (j < i))) := opB0 fun _ _ _ _ _ _ _ q => gt_int q
/-- is None, is not None: the right side a value none -/
theorem op_isN : OpR X (compareOp .Is) (fun x y H Q => y = .non ∧ Q (.bl (decide (x = .non))) H) := by
  intro pins s σ H x y v u Q I rx ry h
  obtain ⟨rfl, q⟩ := h
  cases ry
  refine is_none_gen (fin_bl I q ?_)
  cases x <;> first
    | (cases rx; rfl)
    | (obtain ⟨t, rfl⟩ := rx; rfl)
theorem nomark (b : Expr) {op : CmpOp} (h : op ≠ .In := by decide) (h2 : op ≠ .NotIn := by decide) : behindInMarks op b = false := by
  have e1 : (op == CmpOp.In) = false := by cases op <;> first | rfl | exact absurd rfl h
  have e2 : (op == CmpOp.NotIn) = false := by cases op <;> first | rfl | exact absurd rfl h2
  cases b <;> simp [behindInMarks, e1, e2]
/-- a comparison as a value; hm: nomark b, or (for in, not in) by with_unfolding_all rfl -/
theorem pe_cmpR {op : CmpOp} {r : R2} (ho : OpR X (compareOp op) r) (ha : PE X a ta) (hb : PE X b tb) (hm : behindInMarks op b = false) : PE X (.Compare a [op] [b] pos) (tOp r ta tb) := by
  intro pins s σ H Q I h
  exact wpAny_Compare1 (binT ha hb I h fun v u s2 x y H2 I2 rx ry q => ho pins s2 σ H2 x y v u Q I2 rx ry q) hm
/-- a reading of a value as a test -/
def tTest (t : TE) : TT := fun σ H Q => t σ H fun x H' => ∃ k, x = .bl k ∧ Q k H'
theorem pt_cmpR {op : CmpOp} {r : R2} (ho : OpR X (compareOp op) r) (ha : PE X a ta) (hb : PE X b tb) (hm : behindInMarks op b = false) : PT X (.Compare a [op] [b] pos) (tTest (tOp r ta tb)) := by
  intro pins s σ H Q I h
  refine wpAny_isTrue_Compare1 (thn (ha pins s σ H _ I h) fun v s1 ⟨x, H1, I1, r1, q1⟩ => thn (hb pins s1 σ H1 _ I1 q1) fun u s2 ⟨y, H2, I2, r2, q2⟩ =>
    thn (ho pins s2 σ H2 x y v u _ I2 r1 r2 q2) fun c s3 ⟨z, H3, I3, r3, k, e, q3⟩ => ?_) hm
  subst e
  cases r3
  exact wpAny_truthy_bool ⟨H3, I3, q3⟩
/-- a op1 b op2 c -/
def tChain (r r' : R2) (ta tb tc : TE) : TE := fun σ H Q => ta σ H fun x H1 => tb σ H1 fun y H2 => r x y H2 fun z H3 => ∃ k, z = .bl k ∧
  (if k = true then tc σ H3 fun w' H4 => r' y w' H4 Q else Q (.bl false) H3)
theorem pe_chain {op op' : CmpOp} {r r' : R2} (ho : OpR X (compareOp op) r) (ho' : OpR X (compareOp op') r') (ha : PE X a ta) (hb : PE X b tb) (hc : PE X c tc)
    (hm : lastMarks [op, op'] [b, c] = false := by with_unfolding_all rfl) : PE X (.Compare a [op, op'] [b, c] pos) (tChain r r' ta tb tc) := by
  intro pins s σ H Q I h
  refine Compare_chain (thn (ha pins s σ H _ I h) fun v s1 ⟨x, H1, I1, r1, q1⟩ => chain_link (thn (hb pins s1 σ H1 _ I1 q1) fun u s2 ⟨y, H2, I2, r2, q2⟩ =>
    thn (ho pins s2 σ H2 x y v u _ I2 r1 r2 q2) fun d s3 ⟨z, H3, I3, r3, k, e, q3⟩ => ?_)) hm
  subst e
  cases r3
  refine wpAny_truthy_bool ?_
  cases k with
  | false => exact ite_ff ⟨.bl false, H3, I3, rfl, q3⟩
  | true => exact ite_tt (chain_last (thn (hc pins s3 σ H3 _ I3 q3) fun w' s4 ⟨z', H4, I4, r4, q4⟩ => ho' pins s4 σ H4 y z' u w' Q I4 r2 r4 q4))
theorem pt_chain {op op' : CmpOp} {r r' : R2} (ho : OpR X (compareOp op) r) (ho' : OpR X (compareOp op') r') (ha : PE X a ta) (hb : PE X b tb) (hc : PE X c tc)
    (hm : lastMarks [op, op'] [b, c] = false := by with_unfolding_all rfl) : PT X (.Compare a [op, op'] [b, c] pos) (tTest (tChain r r' ta tb tc)) := by
  intro pins s σ H Q I h
  refine isTrue_chain (thn (ha pins s σ H _ I h) fun v s1 ⟨x, H1, I1, r1, q1⟩ => test_link (thn (hb pins s1 σ H1 _ I1 q1) fun u s2 ⟨y, H2, I2, r2, q2⟩ =>
    thn (ho pins s2 σ H2 x y v u _ I2 r1 r2 q2) fun d s3 ⟨z, H3, I3, r3, k, e, q3⟩ => ?_)) hm
  subst e
  cases r3
  refine wpAny_truthy_bool ?_
  cases k with
  | false =>
    obtain ⟨k', e', q'⟩ := q3
    cases e'
    exact ite_ff ⟨H3, I3, q'⟩
  | true =>
    refine ite_tt (test_last (thn (hc pins s3 σ H3 _ I3 q3) fun w' s4 ⟨z', H4, I4, r4, q4⟩ => thn (ho' pins s4 σ H4 y z' u w' _ I4 r2 r4 q4) fun d' s5 ⟨z2, H5, I5, r5, k2, e2, q5⟩ => ?_))
    subst e2
    cases r5
    exact wpAny_truthy_bool ⟨H5, I5, q5⟩

/-! ### truth -/
theorem line63 : (sizeLine : Nat) < 2 ^ 63 := by rw [sizeLine_eq]; decide
/-! ### strs and bytes -/
/-! ### scalar builtins, by CallR -/
theorem vals1 {x : V} {us : List Value} (r : Vals [x] us) : ∃ u, us = [u] ∧ RelV x u := by
  cases r with
  | cons r1 r2 => cases r2; exact ⟨_, rfl, r1⟩
theorem vals2 {x y : V} {us : List Value} (r : Vals [x, y] us) : ∃ u w', us = [u, w'] ∧ RelV x u ∧ RelV y w' := by
  cases r with
  | cons r1 r2 =>
    cases r2 with
    | cons r3 r4 => cases r4; exact ⟨_, _, rfl, r1, r3⟩
theorem call_max2 (hc : X.calm = true) : CallR X (.builtin "max") (fun xs H Q => ∃ i j, xs = [.int i, .int j] ∧ Q (.int (if j > i then j else i)) H) := by
  intro pins s σ H xs us Q I r h
  obtain ⟨i, j, rfl, q⟩ := h
  obtain ⟨u, w', rfl, ⟨t, rfl⟩, ⟨t', rfl⟩⟩ := vals2 r
  refine max_two_ints (I.ok.hd hc) fun h' tk k => ⟨_, H, I.kept k, ?_, q⟩
  by_cases hj : j > i
  · rw [if_pos hj, if_pos hj]; exact ⟨_, rfl⟩
  · rw [if_neg hj, if_neg hj]; exact ⟨_, rfl⟩
theorem call_min2 (hc : X.calm = true) : CallR X (.builtin "min") (fun xs H Q => ∃ i j, xs = [.int i, .int j] ∧ Q (.int (if j < i then j else i)) H) := by
  intro pins s σ H xs us Q I r h
  obtain ⟨i, j, rfl, q⟩ := h
  obtain ⟨u, w', rfl, ⟨t, rfl⟩, ⟨t', rfl⟩⟩ := vals2 r
  refine min_two_ints (I.ok.hd hc) fun h' tk k => ⟨_, H, I.kept k, ?_, q⟩
  by_cases hj : j < i
  · rw [if_pos hj, if_pos hj]; exact ⟨_, rfl⟩
  · rw [if_neg hj, if_neg hj]; exact ⟨_, rfl⟩
end
end L2

namespace L2
open PySem PySem.Spec PyProof.Rows

/-! ### an instance, its attributes a map -/
structure ObjM (h : Heap) (x dx C : Addr) (mA : Str → Option Value) : Prop where
  obj : h.get? x = some (PySem.W.instObj C dx)
  ns : h.Ns1 dx mA
  ne : dx ≠ x

theorem lookIn_ns {h : Heap} {dx : Addr} {mA : Str → Option Value} (n : h.Ns1 dx mA) : ∃ od, h.get? dx = some od ∧ ∀ name, PySem.W.lookIn name od = some (mA name) := by
  obtain ⟨o, es, ep, ho, hd, hk, _, hm⟩ := n
  refine ⟨o, ho, fun name => ?_⟩
  have e := hm name
  unfold nsFind findBy at e
  rw [← Array.find?_toList] at e
  unfold PySem.W.lookIn
  rw [hd]
  dsimp only
  split
  · rename_i y q
    rw [q] at e
    exact congrArg some e
  · rename_i q
    rw [q] at e
    have a : es.toList.any (·.refKey) = false := by
      rw [List.any_eq_false]
      intro y hy
      obtain ⟨z, t, hkey⟩ := hk y (Array.mem_toList_iff.mp hy)
      simp [DictEntry.refKey, hkey]
    have a' : ¬ es.toList.any (·.refKey) = true := by rw [a]; exact Bool.false_ne_true
    rw [if_neg a']
    exact congrArg some e

theorem ObjM.look {h : Heap} {x dx C : Addr} {mA : Str → Option Value} (I : ObjM h x dx C mA) : ∃ od, PySem.W.InstAt h x (PySem.W.instObj C dx) C (some od) ∧ ∀ name, PySem.W.lookIn name od = some (mA name) :=
  let ⟨od, ho, hl⟩ := lookIn_ns I.ns
  ⟨od, ⟨I.obj, rfl, rfl, ho⟩, hl⟩

section
variable {prog : Program} {w : World} {A : Around} {E : Value → Shared → Prop} {s : Shared} {K : PySem.W.Frag} {x dx C f : Addr} {mA : Str → Option Value} {name : Str} {v : Value}

theorem get_map {expr : Bool} {Q : Value → Shared → Prop} (X : K.In s.heap) (I : ObjM s.heap x dx C mA) (hg : PySem.W.plainGet K C name = true) (hh : PySem.W.hasDictIn K C = true)
    (ha : PySem.W.findIn K (.ref C) name = some none) (hv : mA name = some v) (hv' : PySem.W.handedIn v = true) (h : Q v { s with toks := s.toks + 1 }) :
    wpAny (model prog w) A (getAttr (.ref x) name expr) Q E s := by
  obtain ⟨od, J, hl⟩ := I.look
  exact PySem.W.get_value X J (PySem.W.plainGet_of hg).1 (PySem.W.findObj_own hh ha rfl (by rw [hl, hv])) hv' h

theorem set_map {ns : List Str} {Q : Unit → Shared → Prop} (X : K.In s.heap) (I : ObjM s.heap x dx C mA)
    (hs : PySem.W.findIn K (.ref C) "__setattr__" = some (some (.builtin "object.__setattr__"))) (hp : PySem.W.plainOver K C = true) (ht : PySem.W.takerIn K C name = some none) (hh : PySem.W.hasDictIn K C = true)
    (hw : PySem.Within mA ns) (hsz : ns.length ≤ sizeLine)
    (h : ∀ h', ObjM h' x dx C (fun y => if y = name then some v else mA y) → Heap.SameBut dx s.heap h' → Q () { s with heap := h', toks := s.toks + 2 }) :
    wpAny (model prog w) A (setAttr (.ref x) name v) Q E s := by
  obtain ⟨od, J, hl⟩ := I.look
  refine PySem.W.set_plain X J hs (PySem.W.osa_open (s := { s with toks := s.toks + 1 }) (r := none) X J hp ht fun b => ?_)
  obtain ⟨cd, hc, hd'⟩ := PySem.W.any_some hh
  have hx : s.heap.get? x = some ⟨.ref C, some dx, .plain, #[]⟩ := I.obj
  refine wpAny_bind (wpAny_pure (wpAny_bind (wpAny_bind (wpAny_loadPart hx (wpAny_bind (PySem.W.Looks.here (s := { s with toks := s.toks + 1 }) (PySem.W.looks_clsIn X hc) ?_))))))
  rw [hd']
  refine wpAny_pure (a := some dx) (wpAny_bind (wpAny_pure (wpAny_bind ?_)))
  refine wpAny_nsSet1 (s := { s with toks := s.toks + 1 }) I.ns fun h' hn2 hs2 => ?_
  obtain ⟨oD, esD, epD, hoD, hdD, hcD⟩ := hn2.count (PySem.Within.cons name v hw)
  refine wpAny_bind (wpAny_lookBehind hoD (by rw [hdD]; exact pastItsLine_dict (Nat.le_trans hcD (by rw [List.length_cons]; omega))) ?_)
  exact wpAny_pure (h _ ⟨(hs2.2 _ (Ne.symm I.ne)).trans I.obj, hn2, I.ne⟩ hs2)

/-- C(..): the dict at the heap's end, the instance behind it; then its __init__ -/
theorem make_map {R : Result → Shared → Prop} {vs : List Value} {kw : List (Str × Value)} (X : K.In s.heap) (hm : PySem.W.makesIn K C = true)
    (hi : PySem.W.findIn K (.ref C) "__init__" = some (some (.ref f))) (hf : PySem.W.typeIn K (.ref f) = some (.type "function"))
    (h : codeAny (model prog w) (A.under (.builtin "type.__call__" ⟨.ref C :: vs, kw⟩)) (.call (.ref f) ⟨.ref (s.heap.objs.size + 1) :: vs, kw⟩) (PySem.W.InitBack (s.heap.objs.size + 1) R)
      { s with heap := (s.heap.push PySem.W.emptyDict).push (PySem.W.instObj C s.heap.objs.size) }) :
    codeAny (model prog w) A (.call (.ref C) ⟨vs, kw⟩) R s := by
  obtain ⟨hh, g, d, t, os⟩ := s
  exact PySem.W.make_core (PySem.W.makes_of X hm) (PySem.W.looks_findIn X hi) (fun self => PySem.W.bind_fn X self hf) (.inl rfl) h
end

/-! ### the attributes as a list of pairs -/
def putF (f : Str) (v : V) : List (Str × V) → List (Str × V)
  | [] => [(f, v)]
  | (g, x) :: r => if g = f then (g, v) :: r else (g, x) :: putF f v r
theorem lookup_putF (f g : Str) (v : V) : ∀ fs : List (Str × V), (putF f v fs).lookup g = if g = f then some v else fs.lookup g
  | [] => by
    show List.lookup g [(f, v)] = _
    by_cases h : g = f
    · have hb : (g == f) = true := beq_iff_eq.mpr h
      simp only [List.lookup, hb, if_pos h]
    · have hb : (g == f) = false := beq_eq_false_iff_ne.mpr h
      simp only [List.lookup, hb, if_neg h]
  | (k, x) :: r => by
    have ih := lookup_putF f g v r
    rw [show putF f v ((k, x) :: r) = (if k = f then (k, v) :: r else (k, x) :: putF f v r) from rfl]
    by_cases hk : k = f
    · rw [if_pos hk]
      by_cases h : g = k
      · have hb : (g == k) = true := beq_iff_eq.mpr h
        simp only [List.lookup, hb, if_pos (h.trans hk)]
      · have hb : (g == k) = false := beq_eq_false_iff_ne.mpr h
        simp only [List.lookup, hb, if_neg (fun e : g = f => h (e.trans hk.symm))]
    · rw [if_neg hk]
      by_cases h : g = k
      · have hb : (g == k) = true := beq_iff_eq.mpr h
        simp only [List.lookup, hb, if_neg (fun e : g = f => hk (h.symm.trans e))]
      · have hb : (g == k) = false := beq_eq_false_iff_ne.mpr h
        simp only [List.lookup, hb]
        exact ih
theorem keys_putF (f : Str) (v : V) : ∀ fs : List (Str × V), f ∈ (putF f v fs).map (·.1) ∧ ∀ g, g ∈ fs.map (·.1) → g ∈ (putF f v fs).map (·.1)
  | [] => ⟨by simp [putF], fun g h => by simp at h⟩
  | (k, x) :: r => by
    obtain ⟨i1, i2⟩ := keys_putF f v r
    rw [show putF f v ((k, x) :: r) = (if k = f then (k, v) :: r else (k, x) :: putF f v r) from rfl]
    by_cases hk : k = f
    · rw [if_pos hk]
      subst hk
      exact ⟨by simp, fun g h => by simpa using h⟩
    · rw [if_neg hk]
      refine ⟨?_, fun g h => ?_⟩
      · rw [List.map_cons]
        exact List.mem_cons_of_mem _ i1
      · rw [List.map_cons] at h ⊢
        rcases List.mem_cons.mp h with e | e
        · exact List.mem_cons.mpr (.inl e)
        · exact List.mem_cons_of_mem _ (i2 g e)
theorem length_putF (f : Str) (v : V) : ∀ fs : List (Str × V), (putF f v fs).length ≤ fs.length + 1
  | [] => by simp [putF]
  | (k, x) :: r => by
    have ih := length_putF f v r
    rw [show putF f v ((k, x) :: r) = (if k = f then (k, v) :: r else (k, x) :: putF f v r) from rfl]
    by_cases hk : k = f
    · rw [if_pos hk, List.length_cons, List.length_cons]; omega
    · rw [if_neg hk, List.length_cons, List.length_cons]; omega

theorem RelO.some_of {v : V} {o : Option Value} (r : RelO (some v) o) : ∃ u, o = some u ∧ RelV v u := by
  cases o with
  | none => exact (show False from r).elim
  | some u => exact ⟨u, rfl, r⟩
theorem handed_of {v : V} {u : Value} (r : RelV v u) : PySem.W.handedIn u = true := by
  cases v with
  | non => cases (show u = Value.none from r); rfl
  | bl b => cases (show u = Value.bool b from r); rfl
  | int i => obtain ⟨t, e⟩ := (show ∃ t, u = Value.int i t from r); cases e; rfl
  | str x => obtain ⟨t, e⟩ := (show ∃ t, u = Value.str x t from r); cases e; rfl
  | byt b => obtain ⟨t, e⟩ := (show ∃ t, u = Value.bytes b t from r); cases e; rfl
  | flt b => obtain ⟨t, e⟩ := (show ∃ t, u = Value.float b t from r); cases e; rfl
  | ref a => cases (show u = Value.ref a from r); rfl
  | ty n => cases (show u = Value.type n from r); rfl

section
variable {P : Program} {w : World} {H H' : Hp} {h h' : Heap} {a C dx : Addr} {fs fs' : List (Str × V)}
theorem ins_get (hok : HOk P w H h) (e : H a = some (.ins C dx fs)) : ∃ mA, ObjM h a dx C mA ∧ (∀ f, RelO (fs.lookup f) (mA f)) ∧ PySem.Within mA (fs.map (·.1)) ∧ fs.length ≤ 1000 ∧ H dx = some (.own a) := by
  obtain ⟨d, z, ne, ob, mA, n, r, q⟩ := (show ObjOk P w H h a (.ins C dx fs) from hok a _ e)
  exact ⟨mA, ⟨ob, n, ne⟩, r, q, z, d⟩
end

/-! ### what of the text a class must have -/
structure Cls (K : PySem.W.Frag) (C : Addr) : Prop where
  pg : PySem.W.plainGet K C Str.empty = true
  hd : PySem.W.hasDictIn K C = true
  po : PySem.W.plainOver K C = true
  sa : PySem.W.findIn K (.ref C) "__setattr__" = some (some (.builtin "object.__setattr__"))
theorem Cls.get {K : PySem.W.Frag} {C : Addr} (c : Cls K C) (f : Str) : PySem.W.plainGet K C f = true := c.pg
/-- no class of it has the name -/
def NoAttr (K : PySem.W.Frag) (C : Addr) (f : Str) : Prop := PySem.W.findIn K (.ref C) f = some none
theorem NoAttr.taker {K : PySem.W.Frag} {C : Addr} {f : Str} (n : NoAttr K C f) : PySem.W.takerIn K C f = some none := by
  unfold PySem.W.takerIn
  rw [show PySem.W.findIn K (.ref C) f = some none from n]
  rfl
/-- a constant of the class -/
structure Con (K : PySem.W.Frag) (C : Addr) (f : Str) (v : V) (u : Value) : Prop where
  at_ : PySem.W.findIn K (.ref C) f = some (some u)
  rel : RelV v u
  get : PySem.W.specialIn K u "__get__" = some none
  cp : PySem.W.copiedNames.contains f = false
/-- a method: a plain def of the class or of one above it -/
structure Meth (K : PySem.W.Frag) (C : Addr) (m : Str) (f : Addr) : Prop where
  at_ : PySem.W.findIn K (.ref C) m = some (some (.ref f))
  fn : PySem.W.isFn K (.ref f) = true
  kp : PySem.W.keepIn K (.ref f) = true

section
variable {X : Cx} {pins : List (Addr × Obj)} {σ : St} {H : Hp} {s : Shared} {a C dx : Addr} {fs : List (Str × V)} {f : Str} {v : V} {A : Around} {E : Value → Shared → Prop}

theorem getattr_ok {b : Bool} {Q : Value → Shared → Prop} (I : Inv X pins σ H s) (e : H a = some (.ins C dx fs)) (c : Cls X.K C) (n : NoAttr X.K C f) (l : fs.lookup f = some v)
    (h : ∀ u s', Inv X pins σ H s' → RelV v u → Q u s') : wpAny (model X.prog X.w) A (getAttr (.ref a) f b) Q E s := by
  obtain ⟨mA, O, r, _, _, _⟩ := ins_get I.hok e
  obtain ⟨u, hu, ru⟩ := RelO.some_of (v := v) (o := mA f) (by rw [← l]; exact r f)
  exact get_map I.kIn O (c.get f) c.hd n hu (handed_of ru) (h u _ (I.tok _) ru)

theorem setattr_ok {y : V} {u : Value} {Q : Unit → Shared → Prop} (I : Inv X pins σ H s) (e : H a = some (.ins C dx fs)) (c : Cls X.K C) (n : NoAttr X.K C f) (hl : fs.length < 1000) (ry : RelV y u)
    (h : ∀ s', Inv X pins σ (upd H a (.ins C dx (putF f y fs))) s' → Q () s') : wpAny (model X.prog X.w) A (setAttr (.ref a) f u) Q E s := by
  obtain ⟨mA, O, r, wi, _, ho⟩ := ins_get I.hok e
  have hz : (fs.map (·.1)).length ≤ sizeLine := by rw [List.length_map, sizeLine_eq]; omega
  refine set_map I.kIn O c.sa c.po n.taker c.hd wi hz fun h' O' sb => h _ ?_
  have hd : ∃ o, h'.get? dx = some o := let ⟨o, _, _, e', _⟩ := O'.ns; ⟨o, e'⟩
  refine I.write (x := a) (e := dx) (by rw [e]; exact True.intro) (.inr ho) (fun b q hb z => (sb.2 b hb).trans z) hd ?_
  refine ⟨by rw [upd_ne O.ne]; exact ho, ?_, O.ne, O'.obj, _, O'.ns, fun g => ?_, fun g hg => ?_⟩
  · have := length_putF f y fs; omega
  · show RelO ((putF f y fs).lookup g) (if g = f then some u else mA g)
    rw [lookup_putF]
    by_cases q : g = f
    · rw [if_pos q, if_pos q]; exact ry
    · rw [if_neg q, if_neg q]; exact r g
  · by_cases q : g = f
    · rw [q]; exact (keys_putF f y fs).1
    · refine (keys_putF f y fs).2 g (wi g fun z => hg ?_)
      show (if g = f then some u else mA g) = none
      rw [if_neg q]; exact z

/-- a new instance, tracked, without attributes -/
theorem Inv.made (I : Inv X pins σ H s) : Inv X pins σ (upd (upd H s.heap.objs.size (.own (s.heap.objs.size + 1))) (s.heap.objs.size + 1) (.ins C s.heap.objs.size []))
    { s with heap := (s.heap.push PySem.W.emptyDict).push (PySem.W.instObj C s.heap.objs.size) } := by
  have e1 : (s.heap.push PySem.W.emptyDict).get? s.heap.objs.size = some PySem.W.emptyDict := Heap.get?_push_size s.heap rfl
  have e2 : ((s.heap.push PySem.W.emptyDict).push (PySem.W.instObj C s.heap.objs.size)).get? (s.heap.objs.size + 1) = some (PySem.W.instObj C s.heap.objs.size) := by
    have := Heap.get?_push_size (s.heap.push PySem.W.emptyDict) (o := PySem.W.instObj C s.heap.objs.size) rfl
    rwa [Heap.size_push] at this
  have e3 : (s.heap.push PySem.W.emptyDict).Ns s.heap.objs.size (fun _ => none) := ⟨PySem.W.emptyDict, #[], _, e1, rfl, (fun e he => absurd he (by simp)), fun _ => rfl⟩
  have I1 := I.laid (a := s.heap.objs.size) (o := .own (s.heap.objs.size + 1)) (h' := s.heap.push PySem.W.emptyDict) (t' := s.toks) (fun b u q => Heap.get?_push_of_some _ q) (Nat.le_refl _) ⟨_, e1⟩
  refine I1.laid (a := s.heap.objs.size + 1) (o := .ins C s.heap.objs.size []) (t' := s.toks) (fun b u q => Heap.get?_push_of_some _ q) (Nat.le_of_eq (Heap.size_push _ _)) ?_
  have ne : s.heap.objs.size ≠ s.heap.objs.size + 1 := Nat.ne_of_lt (Nat.lt_succ_self _)
  refine ⟨by rw [upd_ne ne, upd_same], Nat.zero_le _, ne, e2, fun _ => none, (Heap.Ns1.of_empty e3).at fun o q => Heap.get?_push_of_some _ q, fun _ => True.intro, fun y hy => absurd rfl hy⟩

/-- e.f where nothing but the object is asked: through attributeBase (super) and the last hold -/
theorem attr_of {prog : Program} {w : World} {env : Env} {e : Expr} {f : Str} {pos : Pos} {s : Shared} {Q : Value → Shared → Prop} (hb : attributeBase e f env (eval e env) = eval e env)
    (h : wpAny (model prog w) A (eval e env) (fun o s₁ => wpAny (model prog w) A (getAttr o f true) Q E s₁) E s) : wpAny (model prog w) A (eval (.Attribute e f pos) env) Q E s :=
  Attribute_any_ h (by rw [arm_eval_Attribute, hb])
end

/-! ### readings and rules -/
/-- e.f, an attribute of the instance -/
def tFld (K : PySem.W.Frag) (ta : TE) (f : Str) : TE := fun σ H Q => ta σ H fun x H1 => ∃ a C dx fs v, x = .ref a ∧ H1 a = some (.ins C dx fs) ∧ Cls K C ∧ NoAttr K C f ∧ fs.lookup f = some v ∧ Q v H1
/-- e.f = value -/
def sFld (K : PySem.W.Frag) (ta tv : TE) (f : Str) : TS := fun D σ H => tv σ H fun y H1 => ta σ H1 fun x H2 => ∃ a C dx fs, x = .ref a ∧ H2 a = some (.ins C dx fs) ∧ Cls K C ∧ NoAttr K C f ∧ fs.length < 1000 ∧
  D.nx σ (upd H2 a (.ins C dx (putF f y fs)))
section
variable {X : Cx} {o e value : Expr} {f : Str} {pos pos' tpos : Pos} {ta tv : TE}
theorem pe_fld (he : PE X e ta) (hb : attributeBase e f X.env (eval e X.env) = eval e X.env) : PE X (.Attribute e f pos) (tFld X.K ta f) := by
  intro pins s σ H Q I h
  refine attr_of hb (thn (he pins s σ H _ I h) fun u s1 ⟨x, H1, I1, rx, a, C, dx, fs, v, ex, ea, c, n, l, q⟩ => ?_)
  subst ex
  obtain rfl : u = Value.ref a := rx
  exact getattr_ok I1 ea c n l fun u' s2 I2 ru => ⟨v, H1, I2, ru, q⟩
theorem ps_fld (ha : PE X o ta) (hv : PE X value tv) (hs : swapsWith value (some (.Attribute o f pos')) pos.line X.env = pure false) : PS X (.Assign [.Attribute o f pos'] value pos) (sFld X.K ta tv f) := by
  intro pins s σ H D I h
  refine plainObj_wpAny_Assign_Attribute (thn (hv pins s σ H _ I h) fun u s1 ⟨y, H1, I1, ry, q⟩ => thn (ha pins s1 σ H1 _ I1 q) fun ov s2 ⟨x, H2, I2, rx, a, C, dx, fs, ex, ea, c, n, l, q2⟩ => ?_) hs
  subst ex
  obtain rfl : ov = Value.ref a := rx
  exact setattr_ok I2 ea c n l ry fun s3 I3 => ⟨σ, _, I3, q2⟩
end

/-! ### isinstance -/
section
variable {X : Cx} {pins : List (Addr × Obj)} {σ : St} {H : Hp} {s : Shared} {A : Around} {E : Value → Shared → Prop} {Q : Value → Shared → Prop} {c : Value} {b : Bool}
/-- the type of a value, as the fragment's deciders take it; for an instance its class -/
inductive TyOf (K : PySem.W.Frag) (H : Hp) : V → Value → Prop where
  | non : TyOf K H .non (.type "NoneType")
  | bl (x : Bool) : TyOf K H (.bl x) (.type "bool")
  | int (i : Int) : TyOf K H (.int i) (.type "int")
  | str (x : Str) : TyOf K H (.str x) (.type "str")
  | flt (x : UInt64) : TyOf K H (.flt x) (.type "float")
  | lst {a : Addr} {xs : List V} (e : H a = some (.lst xs)) : TyOf K H (.ref a) (.type "list")
  | frz {a : Addr} {o : Obj} {xs : List V} (e : H a = some (.frz o (.lst xs))) : TyOf K H (.ref a) (.type "list")
  | tup {a : Addr} {xs : List V} (e : H a = some (.tup xs)) : TyOf K H (.ref a) (.type "tuple")
  | dK {a : Addr} {kvs : List (Key × V)} (e : H a = some (.dK kvs)) : TyOf K H (.ref a) (.type "dict")
  | dT {a : Addr} {kvs : List (List Key × V)} (e : H a = some (.dT kvs)) : TyOf K H (.ref a) (.type "dict")
  | ins {a C dx : Addr} {fs : List (Str × V)} (e : H a = some (.ins C dx fs)) (cl : Cls K C) (ha : PySem.W.findIn K (.ref C) "__class__" = some (some (.builtin "object.__class__")))
      (hn : PySem.W.specialIn K (.builtin "object.__class__") "__get__" = some (some (.builtin "getset_descriptor.__get__"))) (htk : PySem.W.takesIn K (.builtin "object.__class__") = some true)
      (hm : PySem.W.mroIn K C (.type "object") = some true) : TyOf K H (.ref a) (.ref C)
/-- isinstance(x, c) for one class c, a built-in or an own one: kitOne's answer -/
theorem isinst_ok {x : V} {u t : Value} (I : Inv X pins σ H s) (rx : RelV x u) (ty : TyOf X.K H x t) (e : PySem.W.kitOne X.K t c = some b) (h : ∀ tk, Q (.bool b) { s with toks := tk }) :
    wpAny (model X.prog X.w) A (call (.builtin "isinstance") [u, c]) Q E s := by
  cases ty with
  | non => cases (show u = Value.none from rx); exact PySem.W.kia_one PySem.W.kitx_none I.kIn True.intro e (fun z => nomatch z) h
  | bl y => cases (show u = Value.bool y from rx); exact PySem.W.kia_one PySem.W.kitx_bool I.kIn True.intro e (fun z => nomatch z) h
  | int i => obtain ⟨t, q⟩ := (show ∃ t, u = Value.int i t from rx); cases q; exact PySem.W.kia_one PySem.W.kitx_int I.kIn True.intro e (fun z => nomatch z) h
  | str y => obtain ⟨t, q⟩ := (show ∃ t, u = Value.str y t from rx); cases q; exact PySem.W.kia_one PySem.W.kitx_str I.kIn True.intro e (fun z => nomatch z) h
  | flt y => obtain ⟨t, q⟩ := (show ∃ t, u = Value.float y t from rx); cases q; exact PySem.W.kia_one PySem.W.kitx_float I.kIn True.intro e (fun z => nomatch z) h
  | @lst a xs ea =>
    cases (show u = Value.ref a from rx)
    obtain ⟨_, _, n, _, h1⟩ := (show ObjOk X.prog X.w H s.heap a (.lst xs) from I.hok a _ ea)
    exact PySem.W.kia_one PySem.W.kitx_list I.kIn ⟨_, h1, rfl⟩ e (fun z => nomatch z) h
  | @frz a ob xs ea =>
    cases (show u = Value.ref a from rx)
    obtain ⟨_, _, _, n, _, h1⟩ := (show ObjOk X.prog X.w H s.heap a (.frz ob (.lst xs)) from I.hok a _ ea)
    exact PySem.W.kia_one PySem.W.kitx_list I.kIn ⟨_, h1, rfl⟩ e (fun z => nomatch z) h
  | @tup a xs ea =>
    cases (show u = Value.ref a from rx)
    obtain ⟨_, _, _, p⟩ := (show ObjOk X.prog X.w H s.heap a (.tup xs) from I.hok a _ ea)
    obtain ⟨o, h1, h2, _⟩ := p
    exact PySem.W.kia_one PySem.W.kitx_tuple I.kIn ⟨o, h1, h2⟩ e (fun z => nomatch z) h
  | @dK a kvs ea =>
    cases (show u = Value.ref a from rx)
    obtain ⟨_, _, vs, _, p⟩ := (show ObjOk X.prog X.w H s.heap a (.dK kvs) from I.hok a _ ea)
    obtain ⟨o, es, ep, h1, h2, _⟩ := p
    exact PySem.W.kia_one PySem.W.kitx_dict I.kIn ⟨o, h1, h2.1⟩ e (fun z => nomatch z) h
  | @dT a kvs ea =>
    cases (show u = Value.ref a from rx)
    obtain ⟨_, _, xs, _, o, es, ep, h1, h2, _⟩ := (show ObjOk X.prog X.w H s.heap a (.dT kvs) from I.hok a _ ea)
    exact PySem.W.kia_one PySem.W.kitx_dict I.kIn ⟨o, h1, h2.1⟩ e (fun z => nomatch z) h
  | @ins a C dx fs ea cl ha hn htk hm =>
    cases (show u = Value.ref a from rx)
    obtain ⟨mA, O, _⟩ := ins_get I.hok ea
    obtain ⟨od, J, _⟩ := O.look
    exact PySem.W.kia_one (PySem.W.kitx_own (cl.get _) cl.hd ha hn htk hm) I.kIn J e (fun z => nomatch z) h
end
end L2

namespace L2
open PySem PySem.Spec PyProof.Rows

/-! ### room -/
structure Room (k : Nat) (A : Around) : Prop where
  hd : A.handled = none
  dp : A.depth + 3 * k + 5 < recursionLimit
  un : A.units + 16 * k + 200 < cLine
theorem Room.mono {j k : Nat} {A : Around} (r : Room k A) (h : j ≤ k) : Room j A := ⟨r.hd, by have := r.dp; omega, by have := r.un; omega⟩
theorem Room.deeper {k : Nat} {A : Around} (r : Room (k + 1) A) (env : Env) : Room k (A.deeper env) :=
  ⟨r.hd, by have := r.dp; show A.depth + 1 + 3 * k + 5 < _; omega, by have := r.un; show A.units + 3 + 16 * k + 200 < _; omega⟩
theorem make_depth {A : Around} {C : Addr} {us : List Value} {kw : List (Str × Value)} : (A.under (.builtin "type.__call__" ⟨.ref C :: us, kw⟩)).depth = A.depth + 1 := by
  first | rfl | simp [Around.under, Code.weight, Code.isCreation, Code.isGuard, Code.isCaller, Code.frames, Code.isFrame, guardIds]
theorem make_units {A : Around} {C : Addr} {us : List Value} {kw : List (Str × Value)} : (A.under (.builtin "type.__call__" ⟨.ref C :: us, kw⟩)).units = A.units + 1 := by
  first | rfl | simp [Around.under, Code.cUnits, Code.frames, Code.isFrame]
theorem Room.make {k : Nat} {A : Around} (r : Room (k + 1) A) (C : Addr) (us : List Value) (kw : List (Str × Value)) : Room k (A.under (.builtin "type.__call__" ⟨.ref C :: us, kw⟩)) :=
  ⟨r.hd, by have := r.dp; rw [make_depth]; omega, by have := r.un; rw [make_units]; omega⟩
theorem Room.depth {k : Nat} {A : Around} (r : Room k A) : A.depth < recursionLimit := by have := r.dp; omega
/-! ### argument lists and displays -/
def tNil : TA := fun _ H Q => Q [] H
def tCons (ta : TE) (tr : TA) : TA := fun σ H Q => ta σ H fun x H1 => tr σ H1 fun xs H2 => Q (x :: xs) H2
section
variable {X : Cx} {e : Expr} {es : List Expr} {te : TE} {t : TA} {pos : Pos}
theorem pa_nil : PA X [] tNil := fun _ _ _ _ H Q I h => Calls.spliced_nil ⟨[], H, I, .nil, h⟩
theorem pa_cons (ha : PE X e te) (hr : PA X es t) (hs : starEach (e :: es) X.env = (false, eval e X.env) :: starEach es X.env := by rfl) : PA X (e :: es) (tCons te t) := by
  intro pos pins s σ H Q I h
  rw [hs]
  show wpAny _ _ (spliced ((false, eval e X.env) :: backTo pos (starEach es X.env))) _ _ s
  refine Calls.spliced_cons (thn (ha pins s σ H _ I h) fun u s1 ⟨x, H1, I1, r1, q1⟩ => ?_)
  exact thn (hr pos pins s1 σ H1 _ I1 q1) fun us s2 ⟨xs, H2, I2, r2, q2⟩ => ⟨x :: xs, H2, I2, .cons r1 r2, q2⟩

/-- a tuple, a list of written items -/
def tTup (t : TA) : TE := fun σ H Q => t σ H fun xs H1 => xs.length ≤ sizeLine ∧ ∀ p, H1 p = none → Q (.ref p) (upd H1 p (.tup xs))
def tLst (t : TA) : TE := fun σ H Q => t σ H fun xs H1 => xs.length ≤ sizeLine ∧ ∀ p, H1 p = none → Q (.ref p) (upd H1 p (.lst xs))
theorem pe_tup {x1} (h : PA X es t) : PE X (.Tuple es x1 pos) (tTup t) := by
  intro pins s σ H Q I hq
  refine wpAny_Tuple_spliced (thn (h pos pins s σ H _ I hq) fun us s1 ⟨xs, H1, I1, r, z, q⟩ => ⟨by rw [← r.length]; exact z, ?_⟩)
  have hf : H1 s1.heap.objs.size = none := I1.hok.fresh (Nat.le_refl _)
  refine ⟨.ref s1.heap.objs.size, upd H1 s1.heap.objs.size (.tup xs), I1.laid (t' := s1.toks) (fun b u e => Heap.get?_push_of_some _ e) (Nat.le_refl _) ?_, rfl, q _ hf⟩
  exact ⟨z, us, r, ⟨_, Heap.get?_push_size _ rfl, rfl, _, rfl⟩⟩
theorem pe_lst (h : PA X es t) : PE X (.List es pos) (tLst t) := by
  intro pins s σ H Q I hq
  refine wpAny_List_spliced (thn (h pos pins s σ H _ I hq) fun us s1 ⟨xs, H1, I1, r, z, q⟩ => ⟨by rw [← r.length]; exact z, ?_⟩)
  have hf : H1 s1.heap.objs.size = none := I1.hok.fresh (Nat.le_refl _)
  refine ⟨.ref s1.heap.objs.size, upd H1 s1.heap.objs.size (.lst xs), I1.laid (t' := s1.toks) (fun b u e => Heap.get?_push_of_some _ e) (Nat.le_refl _) ?_, rfl, q _ hf⟩
  exact ⟨z, us, 0, r, Heap.get?_push_size _ rfl⟩
end

/-! ### what a def promises -/
/-- a def's promise: the bound arguments in the parameters' order, the heap, the wanted end, the wanted exception -/
abbrev Sp := List V → Hp → VK → XK → Prop
/-- how an exception lies behind a call (file 08 gives it): the callers' frames, abstract heap and state ahead of the call, the wish, the exception, the state -/
abbrev CXT := List Env → Hp → Shared → XK → Value → Shared → Prop

/-- the state at a call -/
structure Env0 (P : Program) (w : World) (K : PySem.W.Frag) (mg : Str → Option Value) (base : Heap) (A : Around) (outer : List Env) (s : Shared) (H : Hp) : Prop where
  frames : A.frames = some outer
  mod : Mod K mg base
  bs : ∀ b o, base.get? b = some o → s.heap.get? b = some o ∧ H b = none
  bsz : base.objs.size ≤ s.heap.objs.size
  funs : s.heap.FunFrames base outer
  frf : ∀ b ∈ frs outer, H b = none
  hok : HOk P w H s.heap
  bare : AllBare s.gens
/-- a call's end -/
def CE (outer : List Env) (P : Program) (w : World) (H : Hp) (s : Shared) (Q : VK) (u : Value) (s' : Shared) : Prop :=
  ∃ v H', s'.os = s.os ∧ AllBare s'.gens ∧ Un (frs outer) [] H H' s.heap s'.heap ∧ HOk P w H' s'.heap ∧ RelV v u ∧ Q v H'
def CR (CX : CXT) (outer : List Env) (P : Program) (w : World) (H : Hp) (s : Shared) (Q : VK) (E : XK) (r : Result) (s' : Shared) : Prop :=
  match r with
  | .ok (.ret u) => CE outer P w H s Q u s'
  | .ok _ => False
  | .error e => CX outer H s E e s'
structure FnOk (P : Program) (w : World) (K : PySem.W.Frag) (mg : Str → Option Value) (base : Heap) (CX : CXT) (k : Nat) (f : Addr) (fd : FuncData) (ps : List Str) (sp : Sp) : Prop where
  len : ∀ vs H Q E, sp vs H Q E → vs.length = ps.length
  run : ∀ (A : Around) (outer : List Env) (s : Shared) (H : Hp) (args : Args) (us : List Value) (vs : List V) (Q : VK) (E : XK), Room k A → Env0 P w K mg base A outer s H → BindsTo s fd args (ps.zip us) → Vals vs us → sp vs H Q E →
    codeAny (model P w) A (.call (.ref f) args) (CR CX outer P w H s Q E) s
/-- a weaker promise -/
theorem FnOk.imp {P : Program} {w : World} {K : PySem.W.Frag} {mg : Str → Option Value} {base : Heap} {CX : CXT} {k : Nat} {f : Addr} {fd : FuncData} {ps : List Str} {sp sp' : Sp} (F : FnOk P w K mg base CX k f fd ps sp)
    (h : ∀ vs H Q E, sp' vs H Q E → sp vs H Q E) : FnOk P w K mg base CX k f fd ps sp' :=
  ⟨fun vs H Q E q => F.len vs H Q E (h _ _ _ _ q), fun A outer s H args us vs Q E hr he hb hv hs => F.run A outer s H args us vs Q E hr he hb hv (h _ _ _ _ hs)⟩

theorem Env0.make {P : Program} {w : World} {K : PySem.W.Frag} {mg : Str → Option Value} {base : Heap} {A : Around} {outer : List Env} {s : Shared} {H : Hp} (e : Env0 P w K mg base A outer s H) (C : Addr) (us : List Value) (kw : List (Str × Value)) :
    Env0 P w K mg base (A.under (.builtin "type.__call__" ⟨.ref C :: us, kw⟩)) outer s H := ⟨by first | exact e.frames | (simpa [Around.under, Code.envs, Code.isFrame, pushEnvs] using e.frames), e.mod, e.bs, e.bsz, e.funs, e.frf, e.hok, e.bare⟩
section
variable {X : Cx} {pins : List (Addr × Obj)} {σ : St} {H : Hp} {s s' : Shared}
/-- from a body: what a callee wants -/
theorem Inv.env0 (I : Inv X pins σ H s) : Env0 X.prog X.w X.K X.mg X.base X.A X.stack s H :=
  ⟨I.ok.frames, I.ok.mod, I.bs, Nat.le_trans I.ok.bsz I.sz, I.stack, I.stkFree, I.hok, I.bare⟩
/-- behind a call -/
theorem Inv.after {Q : VK} {u : Value} (I : Inv X pins σ H s) (h : CE X.stack X.prog X.w H s Q u s') : EP X pins σ Q u s' := by
  obtain ⟨v, H', os, bare, un, hok, r, q⟩ := h
  obtain ⟨hh, g, d, t, os'⟩ := s'
  obtain rfl : os' = s.os := os
  exact ⟨v, H', I.call (h' := hh) (g' := g) (d' := d) (t' := t) (ch := []) un hok bare (fun b z => absurd z (by simp)), r, q⟩
end

/-! ### calls -/
/-- f(..): the written arguments, then the defaults dvs; E: what is wanted of an exception -/
def tCall (sp : Sp) (dvs : List V) (E : XK) (t : TA) : TE := fun σ H Q => t σ H fun vs H1 => sp (vs ++ dvs) H1 Q E
/-- C(..): a new instance and its dict, then __init__ -/
def tMake (C : Addr) (sp : Sp) (dvs : List V) (E : XK) (t : TA) : TE := fun σ H Q => t σ H fun vs H1 => ∀ x dx, H1 x = none → H1 dx = none → dx ≠ x →
  sp (.ref x :: (vs ++ dvs)) (upd (upd H1 dx (.own x)) x (.ins C dx [])) (fun v H2 => v = .non ∧ Q (.ref x) H2) E

/-- how the parameters are bound: us the positional arguments, kw the keywords' values by name, ds the defaults that fill up -/
def Binds (K : PySem.W.Frag) (fd : FuncData) (ps : List Str) (ds : List Value) : Prop :=
  ∀ (s : Shared) (us : List Value), K.In s.heap → (us ++ ds).length = ps.length → BindsTo s fd ⟨us, []⟩ (ps.zip (us ++ ds))
/-- every parameter is given -/
theorem Binds.all {K : PySem.W.Frag} {fd : FuncData} {ps : List Str} (h : ∀ us : List Value, us.length = ps.length → bindArgs fd ⟨us, []⟩ = pure (ps.zip us)) : Binds K fd ps [] := fun s us _ hl => by
  rw [List.append_nil] at hl ⊢
  exact .of_eq (h us hl)

/-- an exception of a callee reaches what this body wants of exceptions -/
def Passes (CX : CXT) (X : Cx) (E : XK) : Prop := ∀ (pins : List (Addr × Obj)) (σ : St) (H : Hp) (s : Shared) (e : Value) (s' : Shared), Inv X pins σ H s → CX X.stack H s E e s' → X.xe e s'

section
variable {X : Cx} {CX : CXT} {k : Nat} {f C : Addr} {fd : FuncData} {ps : List Str} {sp : Sp} {dvs : List V} {ds : List Value} {E : XK} {x m : Str} {p pos apos : Pos} {e o : Expr} {es : List Expr} {ta : TE} {t : TA}

/-- the callee runs -/
theorem run_fn {pins : List (Addr × Obj)} {σ : St} {H : Hp} {s : Shared} {Q : VK} {us : List Value} {vs : List V} (F : FnOk X.prog X.w X.K X.mg X.base CX k f fd ps sp) (hr : Room k X.A) (hb : Binds X.K fd ps ds) (hd : Vals dvs ds) (hx : Passes CX X E)
    (I : Inv X pins σ H s) (r : Vals vs us) (h : sp (vs ++ dvs) H Q E) : wpAny (model X.prog X.w) X.A (call (.ref f) us) (EP X pins σ Q) X.xe s := by
  have r2 : Vals (vs ++ dvs) (us ++ ds) := r.append hd
  have hl : (us ++ ds).length = ps.length := by rw [← r2.length]; exact F.len _ _ _ _ h
  refine wpAny_call (codeAny_mono (F.run X.A X.stack s H ⟨us, []⟩ (us ++ ds) (vs ++ dvs) Q E hr I.env0 (hb s us I.kIn hl) r2 h) fun r s' hq => ?_)
  cases r with
  | error e => exact hx pins σ H s e s' I hq
  | ok fl =>
    cases fl with
    | ret u => exact I.after hq
    | next => exact False.elim hq
    | brk => exact False.elim hq
    | cont => exact False.elim hq

theorem pe_call (F : FnOk X.prog X.w X.K X.mg X.base CX k f fd ps sp) (hr : Room k X.A) (hg : Gl X x) (hm : X.mg x = some (.ref f)) (hk : PySem.W.keepIn X.K (.ref f) = true) (hb : Binds X.K fd ps ds) (hd : Vals dvs ds) (hx : Passes CX X E)
    (ha : PA X (e :: es) t) (hdb : (x == ("__debug__" : Str)) = false := by decide) (he : starEach (e :: es) X.env = (false, eval e X.env) :: starEach es X.env := by rfl) (hpl : (backTo pos (starEach es X.env)).any (·.1) = false := by rfl) :
    PE X (.Call (.Name x p) (e :: es) [] pos) (tCall sp dvs E t) := by
  intro pins s σ H Q I h
  refine wpAny_Call_Name_kw (ld_glob I hg hm ?_ hdb)
  refine PySem.W.callWith_K (h₀ := X.base) I.ok.mod.kin hk (thn (ha pos pins s σ H _ I h) fun us s1 ⟨vs, H1, I1, r, q⟩ => ⟨I1.kIn, ?_⟩) he hpl
  exact run_fn F hr hb hd hx I1 r q
/-- what a class must have to be made -/
structure Mk (K : PySem.W.Frag) (C f : Addr) : Prop where
  makes : PySem.W.makesIn K C = true
  init : PySem.W.findIn K (.ref C) "__init__" = some (some (.ref f))
  fn : PySem.W.isFn K (.ref f) = true
  kp : PySem.W.keepIn K (.ref C) = true

theorem run_make {pins : List (Addr × Obj)} {σ : St} {H : Hp} {s : Shared} {Q : VK} {us : List Value} {vs : List V} (M : Mk X.K C f) (F : FnOk X.prog X.w X.K X.mg X.base CX k f fd ps sp) (hr : Room (k + 1) X.A) (hb : Binds X.K fd ps ds) (hd : Vals dvs ds)
    (hx : Passes CX X E) (I : Inv X pins σ H s) (r : Vals vs us)
    (h : ∀ x dx, H x = none → H dx = none → dx ≠ x → sp (.ref x :: (vs ++ dvs)) (upd (upd H dx (.own x)) x (.ins C dx [])) (fun v H2 => v = .non ∧ Q (.ref x) H2) E) :
    wpAny (model X.prog X.w) X.A (call (.ref C) us) (EP X pins σ Q) X.xe s := by
  have hq := h (s.heap.objs.size + 1) s.heap.objs.size (I.hok.fresh (Nat.le_succ _)) (I.hok.fresh (Nat.le_refl _)) (Nat.ne_of_lt (Nat.lt_succ_self _))
  have I2 := Inv.made (C := C) I
  have r2 : Vals (V.ref (s.heap.objs.size + 1) :: (vs ++ dvs)) (Value.ref (s.heap.objs.size + 1) :: (us ++ ds)) := .cons rfl (r.append hd)
  have hl : (Value.ref (s.heap.objs.size + 1) :: us ++ ds).length = ps.length := by
    have e := r2.length
    rw [F.len _ _ _ _ hq] at e
    exact e.symm
  refine wpAny_call (make_map (f := f) I.kIn M.makes M.init (beq_iff_eq.mp M.fn) (codeAny_mono (F.run _ X.stack _ _ ⟨Value.ref (s.heap.objs.size + 1) :: us, []⟩ (Value.ref (s.heap.objs.size + 1) :: (us ++ ds)) _ _ E (hr.make C us [])
    (I2.env0.make C us []) (hb _ (Value.ref (s.heap.objs.size + 1) :: us) I2.kIn hl) r2 hq) fun r s' hq' => ?_))
  cases r with
  | error e => exact hx pins σ _ _ e s' I2 hq'
  | ok fl =>
    cases fl with
    | ret u =>
      obtain ⟨v, H', I3, rv, ev, q3⟩ := I2.after hq'
      subst ev
      exact ⟨rv, ⟨V.ref (s.heap.objs.size + 1), H', I3, rfl, q3⟩⟩
    | next => exact False.elim hq'
    | brk => exact False.elim hq'
    | cont => exact False.elim hq'
theorem pe_make (M : Mk X.K C f) (F : FnOk X.prog X.w X.K X.mg X.base CX k f fd ps sp) (hr : Room (k + 1) X.A) (hg : Gl X x) (hm : X.mg x = some (.ref C)) (hb : Binds X.K fd ps ds) (hd : Vals dvs ds) (hx : Passes CX X E)
    (ha : PA X (e :: es) t) (hdb : (x == ("__debug__" : Str)) = false := by decide) (he : starEach (e :: es) X.env = (false, eval e X.env) :: starEach es X.env := by rfl) (hpl : (backTo pos (starEach es X.env)).any (·.1) = false := by rfl) :
    PE X (.Call (.Name x p) (e :: es) [] pos) (tMake C sp dvs E t) := by
  intro pins s σ H Q I h
  refine wpAny_Call_Name_kw (ld_glob I hg hm ?_ hdb)
  refine PySem.W.callWith_K (h₀ := X.base) I.ok.mod.kin M.kp (thn (ha pos pins s σ H _ I h) fun us s1 ⟨vs, H1, I1, r, q⟩ => ⟨I1.kIn, ?_⟩) he hpl
  exact run_make M F hr hb hd hx I1 r q
end

/-! ### keywords -/
section
variable {X : Cx} {CX : CXT} {k : Nat} {f C : Addr} {fd : FuncData} {ps ks : List Str} {sp : Sp} {E : XK} {x m : Str} {p pos apos kpos : Pos} {e o : Expr} {es : List Expr} {kws : List Keyword} {te ta : TE} {t tk : TA} {nm : Option Str}
/-- how a call with keywords binds: g puts the positional values us and the keywords' values ws (names ks) in the parameters' order, defaults among them -/
structure KBinds (K : PySem.W.Frag) (fd : FuncData) (ps ks : List Str) (g : List Value → List Value → List Value) (gV : List V → List V → List V) : Prop where
  to : ∀ (s : Shared) (us ws : List Value), K.In s.heap → (g us ws).length = ps.length → BindsTo s fd ⟨us, ks.zip ws⟩ (ps.zip (g us ws))
  rel : ∀ {vs : List V} {us : List Value} {zs : List V} {ws : List Value}, Vals vs us → Vals zs ws → Vals (gV vs zs) (g us ws)
variable {g : List Value → List Value → List Value} {gV : List V → List V → List V}
end

/-! ### a def's body keeps its promise -/
/-- names: the parameters first -/
structure FnScope (N P : List Str) (sc : Scope) : Prop where
  kind : sc.kind = .function
  co : sc.isCoroutine = false
  gen : sc.isGenerator = false
  nd : N.Nodup
  pre : N.take P.length = P
  par : ∀ x ∈ P, sc.names.lookup x = some .local ∨ sc.names.lookup x = some .cell
  nofree : ∀ y ∈ sc.names, y.2 ≠ .free

theorem bindL_out {kindOf : Str → Option NameKind} {x : Str} : ∀ {binds : List (Str × Value)} {m : Str → Option Value}, (∀ v, (x, v) ∉ binds) → bindL kindOf binds m x = m x
  | [], _, _ => rfl
  | (n, v) :: r, m, h => by
    unfold bindL
    rw [bindL_out fun w hw => h w (List.mem_cons_of_mem _ hw)]
    split
    · have : x ≠ n := by rintro rfl; exact h v List.mem_cons_self
      simp [this]
    · rfl
theorem bindC_out {kindOf : Str → Option NameKind} {x : Str} : ∀ {binds : List (Str × Value)} {m : Str → Option Value}, (∀ v, (x, v) ∉ binds) → bindC kindOf binds m x = m x
  | [], _, _ => rfl
  | (n, v) :: r, m, h => by
    unfold bindC
    rw [bindC_out fun w hw => h w (List.mem_cons_of_mem _ hw)]
    split
    · rfl
    · have : x ≠ n := by rintro rfl; exact h v List.mem_cons_self
      simp [this]
theorem bindL_get {kindOf : Str → Option NameKind} {x : Str} {v : Value} : ∀ {P : List Str} {vs : List Value} {i : Nat} {m : Str → Option Value}, P.Nodup → P[i]? = some x → vs[i]? = some v → kindOf x = some .local →
    bindL kindOf (P.zip vs) m x = some v
  | [], _, _, _, _, h, _, _ => by simp at h
  | _ :: _, [], _, _, _, _, h, _ => by simp at h
  | p :: P, w :: vs, 0, m, nd, h1, h2, hk => by
    simp at h1 h2; subst h1; subst h2
    show bindL kindOf ((p, w) :: P.zip vs) m p = _
    unfold bindL
    rw [bindL_out fun v hv => (List.nodup_cons.mp nd).1 (List.of_mem_zip hv).1, if_pos hk]
    simp
  | p :: P, w :: vs, i + 1, m, nd, h1, h2, hk => by
    show bindL kindOf ((p, w) :: P.zip vs) m x = _
    unfold bindL
    exact bindL_get (i := i) (List.nodup_cons.mp nd).2 (by simpa using h1) (by simpa using h2) hk
theorem bindC_get {kindOf : Str → Option NameKind} {x : Str} {v : Value} : ∀ {P : List Str} {vs : List Value} {i : Nat} {m : Str → Option Value}, P.Nodup → P[i]? = some x → vs[i]? = some v → kindOf x ≠ some .local →
    bindC kindOf (P.zip vs) m x = some v
  | [], _, _, _, _, h, _, _ => by simp at h
  | _ :: _, [], _, _, _, _, h, _ => by simp at h
  | p :: P, w :: vs, 0, m, nd, h1, h2, hk => by
    simp at h1 h2; subst h1; subst h2
    show bindC kindOf ((p, w) :: P.zip vs) m p = _
    unfold bindC
    rw [bindC_out fun v hv => (List.nodup_cons.mp nd).1 (List.of_mem_zip hv).1, if_neg hk]
    simp
  | p :: P, w :: vs, i + 1, m, nd, h1, h2, hk => by
    show bindC kindOf ((p, w) :: P.zip vs) m x = _
    unfold bindC
    exact bindC_get (i := i) (List.nodup_cons.mp nd).2 (by simpa using h1) (by simpa using h2) hk

/-- the names' values at the entry -/
def start (N : List Str) (vs : List V) : St := vs.map some ++ List.replicate (N.length - vs.length) none

/-- the context of a def's body, at its entry; an exception leaves the frame, then lies as CX says -/
def cxOf (CX : CXT) (P : Program) (w : World) (K : PySem.W.Frag) (mg : Str → Option Value) (base : Heap) (N : List Str) (qual : Str) (scope : Scope) (f : Addr) (cd : Value) (A : Around) (outer : List Env) (s : Shared) (H : Hp) (E : XK) : Cx where
  prog := P
  w := w
  K := K
  mg := mg
  base := base
  A := A.deeper (envOfC qual scope s.heap.objs.size f cd)
  N := N
  s₀ := s
  H₀ := H
  env := envOfC qual scope s.heap.objs.size f cd
  outer := outer
  stack := envOfC qual scope s.heap.objs.size f cd :: outer
  ex := []
  calm := true
  fn := fun _ => true
  pn := []
  xe := fun e s' => wpAny (model P w) (A.deeper (envOfC qual scope s.heap.objs.size f cd)) (leaving (envOfC qual scope s.heap.objs.size f cd) e) (fun _ s'' => CX outer H s E e s'') (fun e' s'' => CX outer H s E e' s'') s'

theorem cell_has {sc : Scope} {n : Nat} {x : Str} (h : sc.names.lookup x = some .cell) : ∃ c, (cellsFrom n sc.names []).lookup x = some c := by
  have q := PySem.W.cellsFrom_some sc.names n [] (.inl h)
  exact Option.isSome_iff_exists.mp q

theorem inv_start {CX : CXT} {P : Program} {w : World} {K : PySem.W.Frag} {mg : Str → Option Value} {base : Heap} {N ps : List Str} {qual : Str} {scope : Scope} {f : Addr} {cd : Value} {A : Around} {outer : List Env} {s s1 : Shared} {H : Hp} {E : XK} {us : List Value} {vs : List V}
    (S : FnScope N ps scope) (hd : A.handled = none) (e0 : Env0 P w K mg base A outer s H) (hl : vs.length = ps.length) (r : Vals vs us)
    (x : InCallC s s.heap.objs.size (bindL (envOfC qual scope s.heap.objs.size f cd).kindOf (ps.zip us) fun _ => none) (cellsFrom (s.heap.objs.size + 1) scope.names []) (bindC (envOfC qual scope s.heap.objs.size f cd).kindOf (ps.zip us) fun _ => none) s1) :
    Inv (cxOf CX P w K mg base N qual scope f cd A outer s H E) [] (start N vs) H s1 := by
  have hpl : ps.length ≤ N.length := by have := congrArg List.length S.pre; rw [List.length_take] at this; omega
  obtain ⟨h1, tk, rfl, hk⟩ := x.done
  have noA : ∀ b : Addr, b ∉ (cxOf CX P w K mg base N qual scope f cd A outer s H E).ex := fun b z => absurd (show b ∈ ([] : List Addr) from z) (by simp)
  refine ⟨⟨e0.mod, S.kind, rfl, rfl, Nat.le_refl _, fun y z c h1 h2 => ?_, fun y hy => ?_, fun y c _ h => ?_, fun _ => hd, Around.frames_deeper e0.frames, .inr ⟨rfl, rfl⟩, fun b z => absurd z (noA b), e0.bs, e0.bsz, fun b _ _ => noA b, fun b z => absurd z (noA b), e0.funs, e0.frf⟩,
    rfl, e0.bare, Un.kept hk, ⟨_, x.toInCall.ns, fun i y v h1 h2 h3 => ?_⟩, fun y c h => ⟨_, x.cell y c h⟩, e0.hok.fresh (Nat.le_refl _), fun y c h => ?_, fun p hp => absurd (show p ∈ ([] : List (Addr × Obj)) from hp) (by simp), e0.hok.kept hk, ?_⟩
  · exact name_of_addr x.apart (PySem.mem_of_lookup h1) (PySem.mem_of_lookup h2)
  · have hy : scope.names.lookup y = some .cell ∨ scope.names.lookup y = some .free := hy
    rcases hy with hy | hy
    · exact cell_has hy
    · exact absurd rfl (S.nofree _ (PySem.mem_of_lookup hy))
  · exact Nat.le_of_lt (x.above y c (PySem.mem_of_lookup h))
  · have hi : i < vs.length := by
      unfold start at h2
      by_cases hi : i < vs.length
      · exact hi
      · rw [List.getElem?_append_right (by simpa using hi)] at h2
        rw [List.getElem?_replicate] at h2
        split at h2 <;> cases h2
    have ha : vs[i]? = some v := by
      unfold start at h2
      rw [List.getElem?_append_left (by simpa using hi), List.getElem?_map] at h2
      cases e : vs[i]? with
      | none => rw [e] at h2; cases h2
      | some a => rw [e] at h2; cases h2; rfl
    obtain ⟨u, hu, rv⟩ := r.get ha
    have hp : ps[i]? = some y := by
      rw [← S.pre, List.getElem?_take_of_lt (by omega)]; exact h1
    have ndP : ps.Nodup := by rw [← S.pre]; exact S.nd.sublist (List.take_sublist _ _)
    refine ⟨u, rv, ?_⟩
    rcases S.par y (List.mem_of_getElem? hp) with k | k
    · exact .inl ⟨k, bindL_get ndP hp hu k⟩
    · obtain ⟨c, e⟩ := cell_has (n := s.heap.objs.size + 1) k
      refine .inr ⟨.inl k, c, e, ?_⟩
      have q := x.cell y c e
      rw [bindC_get ndP hp hu (by show scope.names.lookup y ≠ _; rw [k]; decide)] at q
      exact q
  · exact e0.hok.fresh (Nat.le_of_lt (x.above y c (PySem.mem_of_lookup h)))
  · unfold start
    show _ = N.length
    rw [List.length_append, List.length_map, List.length_replicate]
    omega

/-- THE RULE: a def (or a method) of the text, by its body. The body's reading t is chosen for each entry; it is run at the parameters' values -/
theorem fn_of {CX : CXT} {P : Program} {w : World} {K : PySem.W.Frag} {mg : Str → Option Value} {base : Heap} {k : Nat} {f : Addr} {name qual : Str} {params : Arguments} {body : List Stmt} {scope : Scope} {dV kV doc pm cdv ct oc : Value} {an od : Option Addr}
    {osl : Array (Option Value)} {N ps : List Str} {sp : Sp} (lk : K.lookup f = some ⟨oc, od, .func (PySem.W.fnOf name qual params body scope dV kV doc pm an cdv ct), osl⟩) (hcd : PySem.W.codeIn K cdv qual = true) (S : FnScope N ps scope)
    (len : ∀ vs H Q E, sp vs H Q E → vs.length = ps.length)
    (hbody : ∀ (A : Around) (outer : List Env) (s : Shared) (H : Hp) (vs : List V) (Q : VK) (E : XK), Room k (A.deeper (envOfC qual scope s.heap.objs.size f cdv)) → sp vs H Q E →
      ∃ t, PSs (cxOf CX P w K mg base N qual scope f cdv A outer s H E) body t ∧ t { nx := fun _ H' => Q .non H', rt := Q } (start N vs) H) :
    FnOk P w K mg base CX (k + 1) f (PySem.W.fnOf name qual params body scope dV kV doc pm an cdv ct) ps sp := by
  refine ⟨len, fun A outer s H args us vs Q E hr e0 hb r hsp => ?_⟩
  have hl := len _ _ _ _ hsp
  have KX : K.In s.heap := e0.mod.kin.keeps fun b o e => (e0.bs b o e).1
  have lim : s.heap.NoLimit := e0.mod.nolimit.keeps fun b o e => (e0.bs b o e).1
  have hkind : ∀ y ∈ ps.zip us, scope.names.lookup y.1 = some .local ∨ (scope.names.lookup y.1 = some .cell ∧ ((cellsFrom (s.heap.objs.size + 1) scope.names []).lookup y.1).isSome = true) := fun ⟨n, v⟩ hy => by
    rcases S.par n (List.of_mem_zip hy).1 with q | q
    · exact .inl q
    · exact .inr ⟨q, PySem.W.cellsFrom_some _ _ _ (.inl q)⟩
  refine codeAny_call_function hr.depth (KX _ _ lk) rfl S.co S.gen rfl (PySem.W.codeRec_of KX hcd) (hb _ _ _ _ ?_)
  refine wpAny_newFunctionEnv_cells S.kind hkind fun env he s1 x => ?_
  subst he
  refine ⟨lim.keeps x.toInCall.keep, codeAny_func ?_⟩
  obtain ⟨t, ht, hq⟩ := hbody A outer s H vs Q E (hr.deeper _) hsp
  have I : Inv (cxOf CX P w K mg base N qual scope f cdv A outer s H E) [] (start N vs) H s1 := inv_start S hr.hd e0 hl r x
  refine wpAny_mono (ht [] s1 (start N vs) H _ I hq) (fun fl s' hs => ?_) fun e s' hs => hs
  have fin : ∀ {σ' : St} {H' : Hp} {v : V} {u : Value}, Inv (cxOf CX P w K mg base N qual scope f cdv A outer s H E) [] σ' H' s' → RelV v u → Q v H' → CE outer P w H s Q u s' :=
    fun {σ' H' v u} J rv q => ⟨v, H', J.os, J.bare, J.base, J.hok, rv, q⟩
  cases fl with
  | ret u =>
    obtain ⟨v, σ', H', J, rv, q⟩ := hs
    exact fin J rv q
  | next =>
    obtain ⟨σ', H', J, q⟩ := hs
    exact fin (v := V.non) (u := Value.none) J rfl q
  | brk =>
    obtain ⟨_, _, _, q⟩ := hs
    exact False.elim q
  | cont =>
    obtain ⟨_, _, _, q⟩ := hs
    exact False.elim q
end L2

namespace L2
open PySem PySem.Spec PyProof.Rows
section
variable {X : Cx} {x : Str} {p pos : Pos} {e : Expr} {es : List Expr} {t : TA} {id T : String} {r : List V → Hp → VK → Prop}

def tCB (r : List V → Hp → VK → Prop) (t : TA) : TE := fun σ H Q => t σ H fun vs H1 => r vs H1 Q
/-- f(e, ..), f a built-in function -/
theorem pe_callB (hc : CallR X (.builtin id) r) (hg : Gl X x) (hm : X.mg x = none) (hv : bootBuiltins x = some (.builtin id)) (ha : PA X (e :: es) t) (hn : x ≠ "__name__" := by decide) (hdb : (x == ("__debug__" : Str)) = false := by decide)
    (he : starEach (e :: es) X.env = (false, eval e X.env) :: starEach es X.env := by rfl) (hpl : (backTo pos (starEach es X.env)).any (·.1) = false := by rfl) : PE X (.Call (.Name x p) (e :: es) [] pos) (tCB r t) := by
  intro pins s σ H Q I h
  refine wpAny_Call_Name_kw (ld_blt I hg hm hv ?_ hn hdb)
  exact PyProof.Rows.callWith_builtin1 (thn (ha pos pins s σ H _ I h) fun us s1 ⟨vs, H1, I1, r1, q1⟩ => hc pins s1 σ H1 vs us Q I1 r1 q1) he hpl
/-- T(e, ..), T a built-in type -/
theorem pe_callTy (hc : CallR X (.type T) r) (hg : Gl X x) (hm : X.mg x = none) (hv : bootBuiltins x = some (.type T)) (ha : PA X (e :: es) t) (hn : x ≠ "__name__" := by decide) (hdb : (x == ("__debug__" : Str)) = false := by decide)
    (he : starEach (e :: es) X.env = (false, eval e X.env) :: starEach es X.env := by rfl) (hpl : (backTo pos (starEach es X.env)).any (·.1) = false := by rfl) : PE X (.Call (.Name x p) (e :: es) [] pos) (tCB r t) := by
  intro pins s σ H Q I h
  refine wpAny_Call_Name_kw (ld_blt I hg hm hv ?_ hn hdb)
  exact PyProof.Rows.callWith_type1 (thn (ha pos pins s σ H _ I h) fun us s1 ⟨vs, H1, I1, r1, q1⟩ => hc pins s1 σ H1 vs us Q I1 r1 q1) he hpl
end
end L2

namespace HT
open PySem PyProof.Rows

section
open PySem.SeqAt
open PySem.AutoSeq1 (wpAny_loadPart')
open PySem.MeetsSeq PySem.MeetsSeq2 PySem.MeetsSeq3

end

section
variable {prog : Program} {w : World} {A : Around} {E : Value → Shared → Prop} {s : Shared}

/-- t + u, t not empty -/
theorem cat_tup {t b : Addr} {vs ws : List Value} {Q : Value → Shared → Prop} (ht : IsTup s.heap t vs.toArray) (hb : IsTup s.heap b ws.toArray) (hv : vs ≠ [])
    (h1 : ws = [] → Q (.ref t) s) (h2 : ws ≠ [] → Q (.ref s.heap.objs.size) { s with heap := s.heap.push { cls := .type "tuple", data := .seq (vs ++ ws).toArray } })
    (hsz : vs.length + ws.length ≤ sizeLine) : wpAny (model prog w) A (binaryOp .Add (.ref t) (.ref b)) Q E s := by
  obtain ⟨⟨cls, dd, data, sl⟩, ho, hc, n, hd⟩ := id ht
  obtain ⟨⟨cls2, dd2, data2, sl2⟩, ho2, hc2, n2, hd2⟩ := id hb
  simp only at hc hd hc2 hd2
  subst hc hd hc2 hd2
  have e : vs.toArray ++ ws.toArray = (vs ++ ws).toArray := by simp
  by_cases hw : ws = []
  · exact concat_meets ⟨_, ho, rfl⟩ ⟨_, ho2, rfl⟩ noFill_tuple_add seq_tuple_add PySem.F.slot_tuple_add PySem.F.entry_tuple_add (PySem.F.args_tuple_add_2 _ _)
      (tuple_addW1 t b vs.toArray ws.toArray n n2 dd dd2 sl sl2 (by simpa using hv) (by simp [hw])) ⟨ho, ho2, h1 hw⟩
  · refine concat_meets ⟨_, ho, rfl⟩ ⟨_, ho2, rfl⟩ noFill_tuple_add seq_tuple_add PySem.F.slot_tuple_add PySem.F.entry_tuple_add (PySem.F.args_tuple_add_2 _ _)
      (tuple_addW2 t b vs.toArray ws.toArray n n2 dd dd2 sl sl2 (by simpa using hv) (by simpa using hw) (by rw [List.size_toArray, List.size_toArray]; exact hsz)) ⟨ho, ho2, ?_⟩
    rw [e]
    exact h2 hw

/-! ### t[a:b], not the whole -/
/-- a slice's bound as a place among n (d where it is left out) -/
def sIx (n d : Nat) : Option Int → Nat
  | none => d
  | some v => if v < 0 then (v + (n : Int)).toNat else min v.toNat n
theorem sIx_none (n d : Nat) : sIx n d none = d := rfl
end
end HT

namespace L2
open PySem PySem.Spec PyProof.Rows

/-! ### the parts of a slice -/
abbrev TO := St → Hp → (Option Int → Hp → Prop) → Prop
/-- a slice's part (left out, or an int) -/
def PO (X : Cx) (e : Option Expr) (t : TO) : Prop :=
  ∀ (pins : List (Addr × Obj)) (s : Shared) (σ : St) (H : Hp) (Q : Option Int → Hp → Prop), Inv X pins σ H s → t σ H Q →
    wpAny (model X.prog X.w) X.A (evalPart e X.env) (fun u s' => ∃ o H', Inv X pins σ H' s' ∧ IsPart u o ∧ Q o H') X.xe s
def tNoPart : TO := fun _ H Q => Q none H
def tPart (t : TE) : TO := fun σ H Q => t σ H fun x H1 => ∃ i, x = .int i ∧ Q (some i) H1

section
variable {X : Cx} {e : Expr} {te : TE} {lo hi : Option Expr} {tl th : TO} {pos p2 : Pos}

theorem po_none : PO X none tNoPart := by
  intro pins s σ H Q I h
  rw [evalPart_none]
  exact wpAny_pure ⟨none, H, I, .none, h⟩
theorem po_some (h : PE X e te) : PO X (some e) (tPart te) := by
  intro pins s σ H Q I hw
  rw [evalPart_some]
  refine thn (h pins s σ H _ I hw) fun u s1 ⟨x, H1, I1, r1, q1⟩ => ?_
  obtain ⟨i, rfl, q⟩ := q1
  obtain ⟨t, rfl⟩ := r1
  exact ⟨some i, H1, I1, .int i t, q⟩

/-- what a slice of a value is, by values: the slice object stands at sl -/
def SlR (X : Cx) (r : V → Option Int → Option Int → Hp → VK → Prop) : Prop :=
  ∀ (pins : List (Addr × Obj)) (s : Shared) (σ : St) (H : Hp) (x : V) (v vl vu : Value) (lo hi : Option Int) (sl : Addr) (Q : VK), Inv X pins σ H s → RelV x v → s.heap.IsSliceOf sl vl vu .none → IsPart vl lo → IsPart vu hi → r x lo hi H Q →
    ∃ T id, typeLookup (.type T) "__getitem__" = pure (some (.builtin id)) ∧ s.TypeIs v T ∧ wpAny (model X.prog X.w) X.A (getItem v (.ref sl)) (EP X pins σ Q) X.xe s
def tSl (r : V → Option Int → Option Int → Hp → VK → Prop) (te : TE) (tl th : TO) : TE := fun σ H Q => te σ H fun x H1 => tl σ H1 fun l H2 => th σ H2 fun u H3 => r x l u H3 Q
/-- a[lo:hi], any a -/
theorem pe_slice {r : V → Option Int → Option Int → Hp → VK → Prop} (hr : SlR X r) (he : PE X e te) (hl : PO X lo tl) (hu : PO X hi th) : PE X (.Subscript e (.Slice lo hi none p2) pos) (tSl r te tl th) := by
  intro pins s σ H Q I h
  refine Subscript_ (thn (he pins s σ H _ I h) fun v s1 ⟨x, H1, I1, r1, q1⟩ => ?_)
  refine wpAny_Slice (thn (hl pins s1 σ H1 _ I1 q1) fun vl s2 ⟨l, H2, I2, pl, q2⟩ => thn (hu pins s2 σ H2 _ I2 q2) fun vu s3 ⟨u, H3, I3, pu, q3⟩ => ?_)
  rw [evalPart_none]
  refine wpAny_pure ?_
  have I4 : Inv X pins σ H3 { s3 with heap := s3.heap.push { cls := .type "slice", data := .fields #[vl, vu, .none] } } := I3.kept (t' := s3.toks) fun b ob q => Heap.get?_push_of_some _ q
  obtain ⟨T, id, hT, ht, hg⟩ := hr pins { s3 with heap := s3.heap.push { cls := .type "slice", data := .fields #[vl, vu, .none] } } σ H3 x v vl vu l u s3.heap.objs.size Q I4 r1 (Heap.IsSliceOf.new ..) pl pu q3
  show wpAny (model X.prog X.w) X.A (subscriptTail e (.Slice lo hi none p2) v (.ref s3.heap.objs.size)) (EP X pins σ Q) X.xe { s3 with heap := s3.heap.push { cls := .type "slice", data := .fields #[vl, vu, .none] } }
  exact tail_any (ops := [.ref s3.heap.objs.size, v]) ht hT hg (by with_unfolding_all rfl)

/-- the items of xs[lo:hi] -/
def cutV (xs : List V) (lo hi : Option Int) : List V := (xs.drop (HT.sIx xs.length 0 lo)).take (HT.sIx xs.length xs.length hi - HT.sIx xs.length 0 lo)
theorem cutV_length (xs : List V) (lo hi : Option Int) : (cutV xs lo hi).length ≤ xs.length := by
  unfold cutV
  rw [List.length_take, List.length_drop]
  omega
/-! ### t < u, t + u -/
/-- t + u, t not empty: u empty gives t itself -/
def rCatT (K : PySem.W.Frag) : R2 := fun x y H Q => ∃ a b xs ys, x = .ref a ∧ y = .ref b ∧ SqT K H a xs ∧ SqT K H b ys ∧ xs ≠ [] ∧ xs.length + ys.length ≤ sizeLine ∧
  (ys = [] → Q (.ref a) H) ∧ (ys ≠ [] → ∀ p, H p = none → Q (.ref p) (upd H p (.tup (xs ++ ys))))
theorem Vals.nil_iff {xs : List V} {us : List Value} (r : Vals xs us) : us = [] ↔ xs = [] := by
  cases r with
  | nil => simp
  | cons _ _ => simp
theorem op_catT : OpR X (binaryOp .Add) (rCatT X.K) := by
  intro pins s σ H x y v u Q I rx ry h
  obtain ⟨a, b, xs, ys, rfl, rfl, ha, hb, hx, hz, q1, q2⟩ := h
  cases rx
  cases ry
  obtain ⟨its, r1, p1, _⟩ := I.tuple ha
  obtain ⟨its2, r2, p2, _⟩ := I.tuple hb
  refine HT.cat_tup p1 p2 (fun z => hx (r1.nil_iff.mp z)) (fun z => ⟨.ref a, H, I, rfl, q1 (r2.nil_iff.mp z)⟩) (fun z => ?_) (by rw [← r1.length, ← r2.length]; exact hz)
  refine ⟨.ref s.heap.objs.size, _, I.laid (t' := s.toks) (o := .tup (xs ++ ys)) (fun b ob q => Heap.get?_push_of_some _ q) (Nat.le_refl _) ?_, rfl, q2 (fun w => z (r2.nil_iff.mpr w)) _ (I.hok.fresh (Nat.le_refl _))⟩
  exact ⟨by rw [List.length_append]; exact hz, _, r1.append r2, IsTup.new _ _⟩
end
end L2

namespace L2
open PySem PySem.Spec PyProof.Rows

/-! ### places -/
/-- the place that an index of any sign means -/
def ixN (n : Nat) (i : Int) : Option Nat := if 0 ≤ i then (if i < n then some i.toNat else none) else if -(n : Int) ≤ i then some (i + n).toNat else none
def atI {α : Type} (xs : List α) (i : Int) : Option α := (ixN xs.length i).bind fun j => xs[j]?
theorem ixN_seq {n : Nat} {i : Int} {j : Nat} (h : ixN n i = some j) : seqIndex? i n = some j ∧ j < n ∧ -(n : Int) ≤ i ∧ i < n := by
  unfold ixN at h
  by_cases h0 : 0 ≤ i
  · rw [if_pos h0] at h
    by_cases h1 : i < n
    · rw [if_pos h1] at h
      have e : i.toNat = j := Option.some.inj h
      exact ⟨by rw [seqIndex_of h0 h1, e], by omega, by omega, h1⟩
    · rw [if_neg h1] at h; cases h
  · rw [if_neg h0] at h
    by_cases h1 : -(n : Int) ≤ i
    · rw [if_pos h1] at h
      have e : (i + n).toNat = j := Option.some.inj h
      exact ⟨by rw [seqIndex_neg (by omega) h1, e], by omega, h1, by omega⟩
    · rw [if_neg h1] at h; cases h
theorem atI_get {α : Type} {xs : List α} {i : Int} {v : α} (h : atI xs i = some v) : ∃ j, seqIndex? i xs.length = some j ∧ xs[j]? = some v ∧ j < xs.length ∧ -(xs.length : Int) ≤ i ∧ i < xs.length := by
  unfold atI at h
  cases e : ixN xs.length i with
  | none => rw [e] at h; cases h
  | some j =>
    rw [e] at h
    obtain ⟨h1, h2, h3, h4⟩ := ixN_seq e
    exact ⟨j, h1, h, h2, h3, h4⟩
/-! ### what may be subscripted -/
/-- what stands as an index of a plain subscript -/
def PlainIx (b : Expr) : Prop := ∀ o i, subscripted b false o i = operate [o, i] (getItem o i)
/-- a subscript by values -/
def IxR (X : Cx) (r : R2) : Prop :=
  ∀ (value slice : Expr) (pins : List (Addr × Obj)) (s : Shared) (σ : St) (H : Hp) (x y : V) (v u : Value) (Q : VK), Inv X pins σ H s → RelV x v → RelV y u → r x y H Q →
    subscripted slice false v u = operate [v, u] (getItem v u) → wpAny (model X.prog X.w) X.A (subscriptTail value slice v u) (EP X pins σ Q) X.xe s
/-- a call of a builtin's method by values: the receiver, the arguments -/
def MtR (X : Cx) (id : String) (r : V → List V → Hp → VK → Prop) : Prop :=
  ∀ (pins : List (Addr × Obj)) (s : Shared) (σ : St) (H : Hp) (x : V) (xs : List V) (v : Value) (us : List Value) (Q : VK), Inv X pins σ H s → RelV x v → Vals xs us → r x xs H Q →
    wpAny (model X.prog X.w) X.A (call (.builtin id) (v :: us)) (EP X pins σ Q) X.xe s
section
variable {X : Cx} {a b : Expr} {ta tb : TE} {pos : Pos}
/-- a[b] -/
theorem pe_ix {r : R2} (hr : IxR X r) (ha : PE X a ta) (hb : PE X b tb) (hs : PlainIx b) : PE X (.Subscript a b pos) (tOp r ta tb) := by
  intro pins s σ H Q I h
  exact Subscript_ (binT ha hb I h fun v u s2 x y H2 I2 rx ry q => hr a b pins s2 σ H2 x y v u Q I2 rx ry q (hs _ _))

def rIxL (K : PySem.W.Frag) : R2 := fun x y H Q => ∃ p xs i v, x = .ref p ∧ y = .int i ∧ SqL K H p xs ∧ atI xs i = some v ∧ Q v H
def rIxT (K : PySem.W.Frag) : R2 := fun x y H Q => ∃ p xs i v, x = .ref p ∧ y = .int i ∧ SqT K H p xs ∧ atI xs i = some v ∧ Q v H
theorem ix_list : IxR X (rIxL X.K) := by
  intro value slice pins s σ H x y v u Q I rx ry h hs
  obtain ⟨p, xs, i, z, rfl, rfl, hq, he, q⟩ := h
  cases rx
  obtain ⟨t, rfl⟩ := ry
  obtain ⟨its, r, pl, hz⟩ := I.list hq
  obtain ⟨j, h1, h2, h3, h4, h5⟩ := atI_get he
  obtain ⟨w, ew, rw'⟩ := r.get h2
  have hl := r.length
  have hn := line63
  have fin : EP X pins σ Q w s := ⟨z, H, I, rw', q⟩
  by_cases h0 : 0 ≤ i
  · have hj : i.toNat = j := by
      rw [seqIndex_of h0 h5] at h1
      exact Option.some.inj h1
    exact item_listR pl.isList h0 (by omega) (by rw [hj]; simpa using ew) fin hs
  · have hj : (i + (its.toArray.size : Int)).toNat = j := by
      rw [seqIndex_neg (by omega) h4] at h1
      rw [List.size_toArray, ← hl]
      exact Option.some.inj h1
    exact subscriptTail_builtinR (x := w) pl.isList.typeIs slot_list_getitem.lookup
      (wpAny_getItem_list_neg (Q := fun r s' => r = w ∧ EP X pins σ Q r s') pl.isList (by omega) (by rw [List.size_toArray] <;> omega) (by omega) (by rw [hj]; simpa using ew) ⟨rfl, fin⟩) hs
theorem ix_tup : IxR X (rIxT X.K) := by
  intro value slice pins s σ H x y v u Q I rx ry h hs
  obtain ⟨p, xs, i, z, rfl, rfl, hq, he, q⟩ := h
  cases rx
  obtain ⟨t, rfl⟩ := ry
  obtain ⟨its, r, pl, hz⟩ := I.tuple hq
  obtain ⟨j, h1, h2, h3, h4, h5⟩ := atI_get he
  obtain ⟨w, ew, rw'⟩ := r.get h2
  have hl := r.length
  have hn := line63
  have fin : EP X pins σ Q w s := ⟨z, H, I, rw', q⟩
  exact subscriptTail_builtinR (x := w) pl.typeIs slot_tuple_getitem.lookup
    (getItem_tuple (j := j) (Q := fun r s' => r = w ∧ EP X pins σ Q r s') pl (by omega) (by omega) (by rw [List.size_toArray, ← hl]; exact h1) (by simpa using ew) ⟨rfl, fin⟩) hs
/-! ### xs[i] = v, any sign -/
/-- the list's object behind a store -/
theorem mapSeq_set (its : List Value) (n j : Nat) (u : Value) : Obj.mapSeq (·.setIfInBounds j u) { cls := .type "list", data := .seq its.toArray n } = { cls := .type "list", data := .seq (its.set j u).toArray n } := by
  simp [Obj.mapSeq]
theorem Inv.lst {pins : List (Addr × Obj)} {σ : St} {H : Hp} {s : Shared} {p : Addr} {xs : List V} (I : Inv X pins σ H s) (h : H p = some (.lst xs)) :
    ∃ (its : List Value) (n : Nat), Vals xs its ∧ s.heap.get? p = some { cls := .type "list", data := .seq its.toArray n } ∧ xs.length ≤ sizeLine := by
  obtain ⟨z, its, n, r, e⟩ := I.hok p _ h
  exact ⟨its, n, r, e, z⟩
/-- the list at p is written by an update of its object -/
theorem Inv.lstUpd {pins : List (Addr × Obj)} {σ : St} {H : Hp} {s : Shared} {p : Addr} {xs ys : List V} {its its' : List Value} {n n' : Nat} {f : Obj → Obj} (I : Inv X pins σ H s) (h : H p = some (.lst xs))
    (ho : s.heap.get? p = some { cls := .type "list", data := .seq its.toArray n }) (hf : f { cls := .type "list", data := .seq its.toArray n } = { cls := .type "list", data := .seq its'.toArray n' }) (r : Vals ys its') (hz : ys.length ≤ sizeLine) (t : Nat) :
    Inv X pins σ (upd H p (.lst ys)) { s with heap := s.heap.update p f, toks := t } := by
  have e : (s.heap.update p f).get? p = some { cls := .type "list", data := .seq its'.toArray n' } := by
    rw [Heap.get?_update_self f ho (by rw [hf] <;> rfl), hf]
  refine I.write (x := p) (e := p) (by rw [h]; trivial) (.inl rfl) (fun b u hb q => (Heap.get?_update_other _ _ (Ne.symm hb)).trans q) ⟨_, e⟩ ?_
  exact ⟨hz, its', n', r, e⟩
def rSetL : V → V → V → Hp → (Hp → Prop) → Prop := fun o i v H Q => ∃ p xs k j, o = .ref p ∧ i = .int k ∧ H p = some (.lst xs) ∧ ixN xs.length k = some j ∧ Q (upd H p (.lst (xs.set j v)))
theorem set_list : PSet X rSetL := by
  intro pins s σ H o i v ov iv u Q I ro ri rv h
  obtain ⟨p, xs, k, j, rfl, rfl, hp, hj, q⟩ := h
  cases ro
  obtain ⟨t, rfl⟩ := ri
  obtain ⟨its, n, r, ho, hz⟩ := I.lst hp
  obtain ⟨h1, h2, h3, h4⟩ := ixN_seq hj
  have hl := r.length
  have hn := line63
  have I' : Inv X pins σ (upd H p (.lst (xs.set j v))) { s with heap := s.heap.update p (Obj.mapSeq (·.setIfInBounds j u)) } :=
    I.lstUpd hp ho (mapSeq_set its n j u) (r.set rv j) (by rw [List.length_set]; exact hz) s.toks
  by_cases h0 : 0 ≤ k
  · have hk : k.toNat = j := by
      rw [seqIndex_of h0 h4] at h1
      exact Option.some.inj h1
    exact PySem.W.ki_setAt ho h0 (by omega) (by rw [List.size_toArray, ← hl]; exact h4) (by rw [hk]; exact ⟨_, I', q⟩)
  · have hk : (k + (its.toArray.size : Int)).toNat = j := by
      rw [seqIndex_neg (by omega) h3] at h1
      rw [List.size_toArray, ← hl]
      exact Option.some.inj h1
    exact PySem.W.ki_setBack ho (by omega) (by rw [List.size_toArray, ← hl]; exact h3) (by omega) (by rw [hk]; exact ⟨_, I', q⟩)

/-! ### slices -/
theorem slice_bounds (lo hi : Option Int) (n : Nat) : (sliceBounds lo hi none n).1 = ((HT.sIx n 0 lo : Nat) : Int) ∧ (sliceBounds lo hi none n).2.1 = ((HT.sIx n n hi : Nat) : Int) ∧ (sliceBounds lo hi none n).2.2 = 1 := by
  refine ⟨?_, ?_, rfl⟩
  · cases lo with
    | none => simp [sliceBounds, HT.sIx]
    | some i =>
      simp only [sliceBounds, HT.sIx, Option.getD_none, show (1 : Int) > 0 by decide, if_true]
      by_cases h : i < 0
      · simp only [h, if_true] <;> omega
      · simp only [h, if_false] <;> omega
  · cases hi with
    | none => simp [sliceBounds, HT.sIx]
    | some i =>
      simp only [sliceBounds, HT.sIx, Option.getD_none, show (1 : Int) > 0 by decide, if_true]
      by_cases h : i < 0
      · simp only [h, if_true] <;> omega
      · simp only [h, if_false] <;> omega
theorem slicePick_cut (its : List Value) (lo hi : Option Int) : slicePick its.toArray lo hi none = ((its.drop (HT.sIx its.length 0 lo)).take (HT.sIx its.length its.length hi - HT.sIx its.length 0 lo)).toArray := by
  obtain ⟨h1, h2, h3⟩ := slice_bounds lo hi its.toArray.size
  unfold slicePick
  rw [h1, h2, h3]
  simp only [sliceRange_one, pick_run, List.size_toArray] <;> rfl
/-- xs[lo:hi] of a list: a new list -/
def rSlL (K : PySem.W.Frag) : V → Option Int → Option Int → Hp → VK → Prop := fun x lo hi H Q => ∃ a xs, x = .ref a ∧ SqL K H a xs ∧ ∀ p, H p = none → Q (.ref p) (upd H p (.lst (cutV xs lo hi)))
theorem sl_list : SlR X (rSlL X.K) := by
  intro pins s σ H x v vl vu lo hi sl Q I rx hs pl pu h
  obtain ⟨a, xs, rfl, hx, q⟩ := h
  cases rx
  obtain ⟨its, r, ht, hz⟩ := I.list hx
  have hlen := r.length
  refine ⟨"list", _, slot_list_getitem.lookup, ht.isList.typeIs, ?_⟩
  refine wpAny_getItem_list_slice ht.isList hs pl pu .none (by simp) ?_ (by rw [List.size_toArray] <;> omega)
  rw [slicePick_cut, ← hlen]
  refine ⟨.ref s.heap.objs.size, _, I.laid (t' := s.toks) (o := .lst (cutV xs lo hi)) (fun b ob q => Heap.get?_push_of_some _ q) (Nat.le_refl _) ?_, rfl, q _ (I.hok.fresh (Nat.le_refl _))⟩
  exact ⟨Nat.le_trans (cutV_length xs lo hi) hz, _, 0, (r.drop (HT.sIx xs.length 0 lo)).take (HT.sIx xs.length xs.length hi - HT.sIx xs.length 0 lo), Heap.get?_push_size _ rfl⟩

/-! ### in, not in: flat items -/
def flatV : V → Bool
  | .non => true
  | .bl _ => true
  | .int _ => true
  | .str _ => true
  | _ => false
/-- == of flat values -/
def eqV : V → V → Bool
  | .non, .non => true
  | .bl a, .bl b => a == b
  | .bl a, .int b => (if a then 1 else 0) == b
  | .int a, .bl b => a == (if b then 1 else 0)
  | .int a, .int b => a == b
  | .str a, .str b => a == b
  | _, _ => false
theorem eqAt_V {A : Around} {s : Shared} {y x : V} {u v : Value} (ry : RelV y u) (rx : RelV x v) (fy : flatV y = true) (fx : flatV x = true) : SeqAt.EqAt A s u v (eqV y x) := by
  cases y with
  | non =>
    cases ry
    cases x with
    | non => cases rx; exact SeqAt.EqAt.same _
    | bl b => cases rx; exact SeqAt.EqAt.none_bool b
    | int b => obtain ⟨t, rfl⟩ := rx; exact SeqAt.EqAt.none_int b t
    | str b => obtain ⟨t, rfl⟩ := rx; exact SeqAt.EqAt.none_str b t
    | _ => exact absurd (show false = true from fx) Bool.false_ne_true
  | bl a =>
    cases ry
    cases x with
    | non => cases rx; exact SeqAt.EqAt.bool_none a
    | bl b => cases rx; exact SeqAt.EqAt.bool_bool a b
    | int b => obtain ⟨t, rfl⟩ := rx; exact SeqAt.EqAt.bool_int a b t
    | str b => obtain ⟨t, rfl⟩ := rx; exact SeqAt.EqAt.bool_str a b t
    | _ => exact absurd (show false = true from fx) Bool.false_ne_true
  | int a =>
    obtain ⟨t', rfl⟩ := ry
    cases x with
    | non => cases rx; exact SeqAt.EqAt.int_none a t'
    | bl b => cases rx; exact SeqAt.EqAt.int_bool a t' b
    | int b => obtain ⟨t, rfl⟩ := rx; exact SeqAt.EqAt.int_int a t' b t
    | str b => obtain ⟨t, rfl⟩ := rx; exact SeqAt.EqAt.int_str a t' b t
    | _ => exact absurd (show false = true from fx) Bool.false_ne_true
  | str a =>
    obtain ⟨t', rfl⟩ := ry
    cases x with
    | non => cases rx; exact SeqAt.EqAt.str_none a t'
    | bl b => cases rx; exact SeqAt.EqAt.str_bool a t' b
    | int b => obtain ⟨t, rfl⟩ := rx; exact SeqAt.EqAt.str_int a t' b t
    | str b => obtain ⟨t, rfl⟩ := rx; exact SeqAt.EqAt.str_str a t' b t
    | _ => exact absurd (show false = true from fx) Bool.false_ne_true
  | _ => exact absurd (show false = true from fy) Bool.false_ne_true
/-- the items' answers, read off the values (a value's own answer does not lean on its token) -/
def eqU (x : V) (u : Value) : Bool := match u with
  | .none => eqV .non x
  | .bool b => eqV (.bl b) x
  | .int i _ => eqV (.int i) x
  | .str z _ => eqV (.str z) x
  | _ => false
theorem eqU_of {x y : V} {u : Value} (r : RelV y u) (f : flatV y = true) : eqU x u = eqV y x := by
  cases y with
  | non => cases r; rfl
  | bl b => cases r; rfl
  | int i => obtain ⟨t, rfl⟩ := r; rfl
  | str z => obtain ⟨t, rfl⟩ := r; rfl
  | _ => exact absurd (show false = true from f) Bool.false_ne_true
theorem any_eqU {x : V} : ∀ {xs : List V} {us : List Value}, Vals xs us → xs.all flatV = true → us.any (eqU x) = xs.any fun y => eqV y x
  | _, _, .nil, _ => rfl
  | y :: xs, u :: us, .cons r t, f => by
    rw [List.all_cons, Bool.and_eq_true] at f
    rw [List.any_cons, List.any_cons, eqU_of r f.1, any_eqU t f.2]
theorem mem_eqAt {A : Around} {s : Shared} {x : V} {v : Value} (rx : RelV x v) (fx : flatV x = true) : ∀ {xs : List V} {us : List Value}, Vals xs us → xs.all flatV = true → ∀ u ∈ us, SeqAt.EqAt A s u v (eqU x u)
  | _, _, .nil, _ => fun u hu => by cases hu
  | y :: xs, u :: us, .cons r t, f => fun u' hu => by
    rw [List.all_cons, Bool.and_eq_true] at f
    rcases List.mem_cons.mp hu with rfl | hu
    · rw [eqU_of r f.1]; exact eqAt_V r rx f.1 fx
    · exact mem_eqAt rx fx t f.2 u' hu
def inV (x : V) (xs : List V) : Bool := xs.any fun y => eqV y x
/-- x in a list or tuple of flat items -/
def rIn (K : PySem.W.Frag) (neg : Bool) : R2 := fun x y H Q => ∃ p xs, y = .ref p ∧ (SqL K H p xs ∨ SqT K H p xs) ∧ flatV x = true ∧ xs.all flatV = true ∧ Q (.bl (if neg then !inV x xs else inV x xs)) H
theorem op_in_seq : OpR X (compareOp .In) (rIn X.K false) := by
  intro pins s σ H x y v u Q I rx ry h
  obtain ⟨p, xs, rfl, hq, fx, fs, q⟩ := h
  cases ry
  rcases hq with hq | hq
  · obtain ⟨its, r, pl, hz⟩ := I.list hq
    refine SeqAt.in_listAt (eqU x) pl.isList (fun w hw => mem_eqAt rx fx r fs w (by simpa using hw)) ⟨.bl _, H, I, rfl, ?_⟩
    rw [show its.toArray.any (eqU x) = its.any (eqU x) by simp, any_eqU r fs]
    exact q
  · obtain ⟨its, r, pl, hz⟩ := I.tuple hq
    refine SeqAt.in_tupleAt (eqU x) pl (fun w hw => mem_eqAt rx fx r fs w (by simpa using hw)) ⟨.bl _, H, I, rfl, ?_⟩
    rw [show its.toArray.any (eqU x) = its.any (eqU x) by simp, any_eqU r fs]
    exact q
theorem op_notIn_seq : OpR X (compareOp .NotIn) (rIn X.K true) := by
  intro pins s σ H x y v u Q I rx ry h
  obtain ⟨p, xs, rfl, hq, fx, fs, q⟩ := h
  cases ry
  rcases hq with hq | hq
  · obtain ⟨its, r, pl, hz⟩ := I.list hq
    refine SeqAt.notIn_listAt (eqU x) pl.isList (fun w hw => mem_eqAt rx fx r fs w (by simpa using hw)) ⟨.bl _, H, I, rfl, ?_⟩
    rw [show its.toArray.any (eqU x) = its.any (eqU x) by simp, any_eqU r fs]
    exact q
  · obtain ⟨its, r, pl, hz⟩ := I.tuple hq
    refine SeqAt.notIn_tupleAt (eqU x) pl (fun w hw => mem_eqAt rx fx r fs w (by simpa using hw)) ⟨.bl _, H, I, rfl, ?_⟩
    rw [show its.toArray.any (eqU x) = its.any (eqU x) by simp, any_eqU r fs]
    exact q
/-! ### len, list(x), tuple(x) of any list or tuple that is read -/
theorem call_len_seq : CallR X (.builtin "len") (fun xs H Q => ∃ p ys, xs = [.ref p] ∧ (SqL X.K H p ys ∨ SqT X.K H p ys) ∧ Q (.int ys.length) H) := by
  intro pins s σ H xs us Q I r h
  obtain ⟨p, ys, rfl, hq, q⟩ := h
  obtain ⟨u, rfl, rx⟩ := vals1 r
  cases rx
  have hn := line63
  rcases hq with hq | hq
  · obtain ⟨its, r', pl, hz⟩ := I.list hq
    have hlen := r'.length
    exact Calls.call_len_list pl.isList (by simp only [List.size_toArray] <;> omega) ⟨.int ys.length, H, I.tok _, ⟨s.toks + 1, by rw [List.size_toArray, hlen]⟩, q⟩
  · obtain ⟨its, r', pl, hz⟩ := I.tuple hq
    have hlen := r'.length
    exact len_tuple pl (by simp only [List.size_toArray] <;> omega) ⟨.int ys.length, H, I.tok _, ⟨s.toks + 1, by rw [List.size_toArray, hlen]⟩, q⟩
theorem call_list_of : CallR X (.type "list") (fun xs H Q => ∃ p ys, xs = [.ref p] ∧ (SqL X.K H p ys ∨ SqT X.K H p ys) ∧ ∀ l, H l = none → Q (.ref l) (upd H l (.lst ys))) := by
  intro pins s σ H xs us Q I r h
  obtain ⟨p, ys, rfl, hq, q⟩ := h
  obtain ⟨u, rfl, rx⟩ := vals1 r
  cases rx
  have fin : ∀ (its : List Value), Vals ys its → ys.length ≤ sizeLine → ∀ (h' : Heap) (c' : Nat), (∀ b o', s.heap.get? b = some o' → h'.get? b = some o') →
      h'.get? s.heap.objs.size = some { cls := .type "list", dict := none, data := .seq its.toArray c', slots := #[] } → EP X pins σ Q (.ref s.heap.objs.size) { s with heap := h' } := fun its r' hz h' c' kp e =>
    ⟨.ref s.heap.objs.size, _, I.laid (t' := s.toks) kp (Nat.le_refl _) (show ObjOk X.prog X.w _ h' _ (.lst ys) from ⟨hz, its, c', r', e⟩), rfl, q _ (I.hok.fresh (Nat.le_refl _))⟩
  rcases hq with hq | hq
  · obtain ⟨its, r', pl, hz⟩ := I.list hq
    have hlen := r'.length
    obtain ⟨o, ho, hc, n, hd⟩ := pl.isList
    exact call_list_seq p (.inl rfl) ho hc hd (fun h' c' kp e => fin its r' hz h' c' kp e) (by simp only [List.size_toArray] <;> omega)
  · obtain ⟨its, r', pl, hz⟩ := I.tuple hq
    have hlen := r'.length
    obtain ⟨o, ho, hc, n, hd⟩ := pl
    exact call_list_seq p (.inr rfl) ho hc hd (fun h' c' kp e => fin its r' hz h' c' kp e) (by simp only [List.size_toArray] <;> omega)
theorem call_tuple_of : CallR X (.type "tuple") (fun xs H Q => ∃ p ys, xs = [.ref p] ∧ ((SqL X.K H p ys ∧ ∀ l, H l = none → Q (.ref l) (upd H l (.tup ys))) ∨ (SqT X.K H p ys ∧ Q (.ref p) H))) := by
  intro pins s σ H xs us Q I r h
  obtain ⟨p, ys, rfl, h⟩ := h
  obtain ⟨u, rfl, rx⟩ := vals1 r
  cases rx
  rcases h with ⟨hq, q⟩ | ⟨hq, q⟩
  · obtain ⟨its, r', pl, hz⟩ := I.list hq
    have hlen := r'.length
    refine call_tuple_list pl.isList (fun h' kp => ?_) (by simp only [List.size_toArray] <;> omega)
    have I1 : Inv X pins σ H { s with heap := h' } := I.kept (t' := s.toks) kp
    have I2 : Inv X pins σ (upd H h'.objs.size (.tup ys)) { s with heap := h'.push { cls := .type "tuple", data := .seq its.toArray } } :=
      I1.laid (t' := s.toks) (fun b o e => Heap.get?_push_of_some _ e) (Nat.le_refl _) (show ObjOk X.prog X.w _ _ _ (.tup ys) from ⟨hz, its, r', IsTup.new _ _⟩)
    exact ⟨.ref h'.objs.size, _, I2, rfl, q _ (I1.hok.fresh (Nat.le_refl _))⟩
  · obtain ⟨its, r', pl, hz⟩ := I.tuple hq
    exact call_tuple_same pl ⟨.ref p, H, I, rfl, q⟩

/-! ### the call of a builtin's method: o.m(..) -/
/-- the value is of that builtin type -/
def tyV (K : PySem.W.Frag) (T : String) (x : V) (H : Hp) : Prop := match x with
  | .str _ => T = "str"
  | .int _ => T = "int"
  | .ref p => (T = "list" ∧ ∃ xs, SqL K H p xs) ∨ (T = "tuple" ∧ ∃ o, K.lookup p = some o ∧ o.cls = .type "tuple" ∧ o.dict = none) ∨
      (T = "dict" ∧ ((∃ kvs, H p = some (.dK kvs)) ∨ ∃ kvs, H p = some (.dT kvs))) ∨ (T = "set" ∧ ∃ S n, H p = some (.set S n))
  | _ => False
theorem tyV_is {pins : List (Addr × Obj)} {σ : St} {H : Hp} {s : Shared} {T : String} {x : V} {v : Value} (I : Inv X pins σ H s) (r : RelV x v) (ty : tyV X.K T x H) :
    s.TypeIs v T ∧ ∀ a, v = .ref a → ∃ ob, s.heap.get? a = some ob ∧ ob.dict = none := by
  cases x with
  | str z =>
    obtain ⟨t, rfl⟩ := r
    cases (show T = "str" from ty)
    exact ⟨typeIs_str s z t, fun _ e => nomatch e⟩
  | int i =>
    obtain ⟨t, rfl⟩ := r
    cases (show T = "int" from ty)
    exact ⟨typeIs_int s i t, fun _ e => nomatch e⟩
  | ref p =>
    cases r
    rcases ty with ⟨rfl, xs, hq⟩ | ⟨rfl, o, hk, hc, hd⟩ | ⟨rfl, hk⟩ | ⟨rfl, S, n, hk⟩
    · obtain ⟨its, _, pl, _⟩ := I.list hq
      refine ⟨pl.isList.typeIs, fun a e => ?_⟩
      cases e
      obtain ⟨o, n, e, c, hd, _⟩ := pl
      exact ⟨o, e, hd⟩
    · refine ⟨⟨o, I.kIn p o hk, hc⟩, fun a e => ?_⟩
      cases e
      exact ⟨o, I.kIn _ o hk, hd⟩
    · have z : ∃ o, s.heap.get? p = some o ∧ o.ExactDict := by
        rcases hk with ⟨kvs, hk⟩ | ⟨kvs, hk⟩
        · obtain ⟨_, _, _, _, o, _, _, e, ex, _⟩ := I.hok p _ hk
          exact ⟨o, e, ex⟩
        · obtain ⟨_, _, _, _, o, _, _, e, ex, _⟩ := I.hok p _ hk
          exact ⟨o, e, ex⟩
      obtain ⟨o, e, ex⟩ := z
      refine ⟨⟨o, e, ex.1⟩, fun a e2 => ?_⟩
      cases e2
      exact ⟨o, e, ex.2.1⟩
    · obtain ⟨o, _, _, _, e, ex, _⟩ := I.hok p _ hk
      refine ⟨⟨o, e, ex.1⟩, fun a e2 => ?_⟩
      cases e2
      exact ⟨o, e, ex.2.1⟩
  | _ => exact False.elim ty
def tBM (K : PySem.W.Frag) (T : String) (r : V → List V → Hp → VK → Prop) (to : TE) (t : TA) : TE := fun σ H Q => to σ H fun x H1 => tyV K T x H1 ∧ t σ H1 fun xs H2 => r x xs H2 Q
variable {o e : Expr} {es : List Expr} {to : TE} {t : TA} {name : Str} {apos cpos : Pos} {T id : String} {r : V → List V → Hp → VK → Prop}
theorem pe_bm (pa : PlainAttrs T) (slot : Slot T name id) (hty : typeOf (.builtin id) = pure (.type "method_descriptor")) (hm : MtR X id r) (ho : PE X o to) (ha : PA X (e :: es) t)
    (hbase : attributeBase o name X.env (eval o X.env) = eval o X.env := by rfl)
    (hfew : ((backTo cpos (starEach (e :: es) X.env)).all (fun x => !x.1) && (backToKw cpos (keywordEach [] X.env)).all (fun x => x.1.isSome)
      && decide ((e :: es).length + ([] : List Keyword).length + (if ([] : List Keyword).isEmpty then 0 else 1) < 30)) = true := by rfl)
    (hline : (apos.endLine == cpos.line) = true := by rfl) (hs : starEach (e :: es) X.env = (false, eval e X.env) :: starEach es X.env := by rfl) (hplain : (backTo cpos (starEach es X.env)).any (·.1) = false := by rfl) :
    PE X (.Call (.Attribute o name apos) (e :: es) [] cpos) (tBM X.K T r to t) := by
  intro pins s σ H Q I h
  refine wpAny_Call_method_late hbase hfew hline rfl (thn (ho pins s σ H _ I h) fun v s1 ⟨x, H1, I1, r1, ty, q1⟩ => ?_)
  obtain ⟨h1, h2⟩ := tyV_is I1 r1 ty
  refine ⟨T, id, pa, slot, hty, h1, h2, ?_⟩
  have hA := ha cpos pins s1 σ H1 _ I1 q1
  rw [hs] at hA ⊢
  refine Calls.callWith_builtin (by show (false || (backTo cpos (starEach es X.env)).any (·.1)) = false; rw [hplain] <;> rfl) (Calls.evalArgs_plain ?_)
  exact thn hA fun us s2 ⟨vs, H2, I2, r2, q2⟩ => hm pins s2 σ H2 x vs v us Q I2 r1 r2 q2
/- xs.append(e), list.index on a module's tuple .. are MtR facts of 06m -/
end
end L2

namespace L2
open PySem PySem.Spec PyProof.Rows

def MtM (X : Cx) (id : String) (r : V → List V → Hp → VK → Prop) : Prop :=
  ∀ (pins : List (Addr × Obj)) (s : Shared) (σ : St) (H : Hp) (x : V) (xs : List V) (v : Value) (us : List Value) (Q : VK), Inv X pins σ H s → RelV x v → Vals xs us → r x xs H Q →
    wpAny (model X.prog X.w) X.A (call (.builtin id) (v :: us)) (EP X pins σ Q) X.xe s

/-! ### lists of values -/
theorem Vals.one : ∀ {x : V} {us : List Value}, Vals [x] us → ∃ u, us = [u] ∧ RelV x u
  | _, _, .cons r .nil => ⟨_, rfl, r⟩
theorem Vals.eraseIdx : ∀ {xs : List V} {us : List Value} (i : Nat), Vals xs us → Vals (xs.eraseIdx i) (us.eraseIdx i)
  | _, _, _, .nil => .nil
  | _, _, 0, .cons _ t => t
  | _, _, i + 1, .cons r t => .cons r (Vals.eraseIdx i t)
theorem Vals.rep {xs : List V} {us : List Value} (h : Vals xs us) : ∀ k : Nat, Vals (List.replicate k xs).flatten (List.replicate k us).flatten
  | 0 => .nil
  | k + 1 => by
    rw [List.replicate_succ, List.replicate_succ, List.flatten_cons, List.flatten_cons]
    exact Vals.append h (Vals.rep h k)
theorem len_erase {α : Type} : ∀ (l : List α) (i : Nat), (l.eraseIdx i).length ≤ l.length
  | [], _ => Nat.le_refl _
  | _ :: _, 0 => Nat.le_succ _
  | _ :: r, i + 1 => Nat.succ_le_succ (len_erase r i)
theorem foldl_rep (its : List Value) : ∀ (k : Nat) (acc : List Value),
    List.foldl (fun x1 x2 => x1 ++ x2) acc.toArray (List.replicate k its.toArray) = (acc ++ (List.replicate k its).flatten).toArray
  | 0, acc => by simp
  | k + 1, acc => by
    have e : acc.toArray ++ its.toArray = (acc ++ its).toArray := by simp
    have e2 : (acc ++ its) ++ (List.replicate k its).flatten = acc ++ (List.replicate (k + 1) its).flatten := by
      rw [List.replicate_succ, List.flatten_cons, List.append_assoc]
    rw [← e2, ← foldl_rep its k (acc ++ its), ← e, List.replicate_succ, List.foldl_cons]

section
variable {X : Cx} {pins : List (Addr × Obj)} {σ : St} {H : Hp} {s : Shared} {l b : Addr} {xs ys zs : List V}

/-! ### the two steps: a tracked list is rewritten, a new list is laid -/
theorem Inv.lset {its its' : List Value} {n : Nat} {f : Array Value → Array Value} {t' : Nat} (I : Inv X pins σ H s) (hH : H l = some (.lst xs))
    (e : s.heap.get? l = some { cls := .type "list", data := .seq its.toArray n }) (hf : f its.toArray = its'.toArray) (hv : Vals ys its') (hz : ys.length ≤ sizeLine) :
    Inv X pins σ (upd H l (.lst ys)) { s with heap := s.heap.update l (Obj.mapSeq f), toks := t' } := by
  have q := PySem.IsL.update e f
  rw [hf] at q
  refine I.write (x := l) (e := l) (by rw [hH]; exact trivial) (.inl rfl) (fun b' u hb hu => (Heap.get?_update_other s.heap (Obj.mapSeq f) (Ne.symm hb)).trans hu) ⟨_, q⟩ ?_
  exact ⟨hz, its', _, hv, q⟩
theorem Inv.lnew {its : List Value} {t' : Nat} (I : Inv X pins σ H s) (hv : Vals ys its) (hz : ys.length ≤ sizeLine) :
    Inv X pins σ (upd H s.heap.objs.size (.lst ys)) { s with heap := s.heap.push { cls := .type "list", data := .seq its.toArray }, toks := t' } :=
  I.laid (fun _ _ q => Heap.get?_push_of_some _ q) (Nat.le_refl _) ⟨hz, its, 0, hv, Heap.get?_push_size _ rfl⟩
theorem Inv.fresh (I : Inv X pins σ H s) : H s.heap.objs.size = none := I.hok.fresh (Nat.le_refl _)
theorem Inv.lstM (I : Inv X pins σ H s) (hH : H l = some (.lst xs)) : xs.length ≤ sizeLine ∧ ∃ (its : List Value) (n : Nat), Vals xs its ∧ xs.length = its.length ∧ s.heap.get? l = some { cls := .type "list", data := .seq its.toArray n } := by
  obtain ⟨z, its, n, r, e⟩ := I.hok l _ hH
  exact ⟨z, its, n, r, r.length, e⟩

theorem notLongL {n : Nat} (h : n ≤ sizeLine) : Builtin.List.listTooLong n = false := by
  unfold Builtin.List.listTooLong
  exact decide_eq_false (by omega)
end

section
variable {X : Cx}

/-! ### methods -/
def rAppend : V → List V → Hp → VK → Prop := fun x vs H Q => ∃ l xs y, x = .ref l ∧ vs = [y] ∧ H l = some (.lst xs) ∧ xs.length < sizeLine ∧ Q .non (upd H l (.lst (xs ++ [y])))
theorem mt_append : MtM X "list.append" rAppend := by
  intro pins s σ H x vs v us Q I rx rv h
  obtain ⟨l, xs, y, rfl, rfl, hH, hz, q⟩ := h
  cases rx
  obtain ⟨u, rfl, ru⟩ := rv.one
  obtain ⟨z, its, n, r, hl, e⟩ := I.lstM hH
  refine call_meets F.slot_list_append ⟨_, e, rfl⟩ F.entry_list_append (F.args_list_append_2 _ _) (PySem.list_append l its.toArray n u (by rw [List.size_toArray]; omega)) ⟨e, ?_⟩
  refine ⟨.non, _, I.lset (its' := its ++ [u]) hH e (by simp) (r.append (.cons ru .nil)) ?_, rfl, q⟩
  rw [List.length_append, List.length_singleton]
  omega

def rExtend : V → List V → Hp → VK → Prop := fun x vs H Q => ∃ l b xs zs, x = .ref l ∧ vs = [.ref b] ∧ H l = some (.lst xs) ∧ H b = some (.lst zs) ∧ xs.length + zs.length ≤ sizeLine ∧ Q .non (upd H l (.lst (xs ++ zs)))
theorem mt_extend : MtM X "list.extend" rExtend := by
  intro pins s σ H x vs v us Q I rx rv h
  obtain ⟨l, b, xs, zs, rfl, rfl, hH, hB, hz, q⟩ := h
  cases rx
  obtain ⟨u, rfl, ru⟩ := rv.one
  cases ru
  obtain ⟨z, its, n, r, hl, e⟩ := I.lstM hH
  obtain ⟨z2, its2, n2, r2, hl2, e2⟩ := I.lstM hB
  have hsz : its.toArray.size + its2.toArray.size ≤ sizeLine := by rw [List.size_toArray, List.size_toArray]; omega
  have hlong : ¬ (!its.toArray.isEmpty && Builtin.List.listTooLong (its.toArray.size + its2.toArray.size)) = true := by
    rw [notLongL hsz, Bool.and_false]
    exact Bool.false_ne_true
  refine call_meets F.slot_list_extend ⟨_, e, rfl⟩ F.entry_list_extend (F.args_list_extend_2 _ _)
    (AutoSeq1.list_extend_list_list_0 l its.toArray n b its2.toArray n2 hlong (by rw [List.size_toArray]; omega) (by omega)) ⟨e, e2, ?_⟩
  refine ⟨.non, _, I.lset (its' := its ++ its2) hH e (by simp) (r.append r2) ?_, rfl, q⟩
  rw [List.length_append]
  omega

def rPopAt : V → List V → Hp → VK → Prop := fun x vs H Q => ∃ l xs i k y, x = .ref l ∧ vs = [.int i] ∧ H l = some (.lst xs) ∧ -(2 ^ 63) ≤ i ∧ i < 2 ^ 63 ∧ seqIndex? i xs.length = some k ∧ xs[k]? = some y ∧ Q y (upd H l (.lst (xs.eraseIdx k)))
theorem mt_popAt : MtM X "list.pop" rPopAt := by
  intro pins s σ H x vs v us Q I rx rv h
  obtain ⟨l, xs, i, k, y, rfl, rfl, hH, h1, h2, hk, hy, q⟩ := h
  cases rx
  obtain ⟨u, rfl, ru⟩ := rv.one
  obtain ⟨t, rfl⟩ := ru
  obtain ⟨z, its, n, r, hl, e⟩ := I.lstM hH
  obtain ⟨w, hw, rw'⟩ := r.get hy
  refine call_meets F.slot_list_pop ⟨_, e, rfl⟩ F.entry_list_pop (F.args_list_pop_2 _ _)
    (MeetsSeq.list_pop_at l its.toArray n i t k w (fitsIndex_both h1 h2) (by rw [List.size_toArray, ← hl]; exact hk) (by rw [← Array.getElem?_toList]; exact hw) (by rw [List.size_toArray]; omega)) ⟨e, ?_⟩
  refine ⟨y, _, I.lset (its' := its.eraseIdx k) hH e ?_ (r.eraseIdx k) ?_, rw', q⟩
  · show its.toArray.eraseIdxIfInBounds k = (its.eraseIdx k).toArray
    rw [List.eraseIdxIfInBounds_toArray]
  · have := len_erase xs k
    omega

/-! ### list + list, list += list, list * int -/
def rCat : R2 := fun x y H Q => ∃ l b xs zs, x = .ref l ∧ y = .ref b ∧ H l = some (.lst xs) ∧ H b = some (.lst zs) ∧ xs.length + zs.length ≤ sizeLine ∧ ∀ p, H p = none → Q (.ref p) (upd H p (.lst (xs ++ zs)))
theorem op_cat : OpR X (binaryOp .Add) rCat := by
  intro pins s σ H x y v u Q I rx ry h
  obtain ⟨l, b, xs, zs, rfl, rfl, hH, hB, hz, q⟩ := h
  cases rx
  cases ry
  obtain ⟨z, its, n, r, hl, e⟩ := I.lstM hH
  obtain ⟨z2, its2, n2, r2, hl2, e2⟩ := I.lstM hB
  refine PySem.P.add_list e e2 ?_ (by rw [List.size_toArray, List.size_toArray]; omega)
  have ea : its.toArray ++ its2.toArray = (its ++ its2).toArray := by simp
  rw [ea]
  exact ⟨.ref _, _, I.lnew (t' := s.toks) (r.append r2) (by rw [List.length_append]; omega), rfl, q _ I.fresh⟩
/-- a list times an int (a negative one is nothing) -/
def rRep : R2 := fun x y H Q => ∃ l k xs, x = .ref l ∧ y = .int k ∧ H l = some (.lst xs) ∧ -(2 ^ 63) ≤ k ∧ k < 2 ^ 63 ∧ xs.length * k.toNat ≤ sizeLine ∧
  ∀ p, H p = none → Q (.ref p) (upd H p (.lst (List.replicate k.toNat xs).flatten))
theorem len_rep {α : Type} (xs : List α) (k : Nat) : (List.replicate k xs).flatten.length = k * xs.length := by
  induction k with
  | zero => simp
  | succ k ih => rw [List.replicate_succ, List.flatten_cons, List.length_append, ih, Nat.succ_mul, Nat.add_comm]
theorem op_rep : OpR X (binaryOp .Mult) rRep := by
  intro pins s σ H x y v u Q I rx ry h
  obtain ⟨l, k, xs, rfl, rfl, hH, h1, h2, hz, q⟩ := h
  cases rx
  obtain ⟨t, rfl⟩ := ry
  obtain ⟨z, its, n, r, hl, e⟩ := I.lstM hH
  have hlen : its.toArray.size * k.toNat ≤ sizeLine := by rw [List.size_toArray, ← hl]; exact hz
  have hcap : ¬ its.toArray.size * k.toNat > (2 ^ 63 - 1) / 8 := by
    have : (sizeLine : Nat) ≤ (2 ^ 63 - 1) / 8 := by decide
    omega
  have hfit : ¬ (!Builtin.List.listFitsIndex k) = true := by
    rw [fitsIndex_both h1 h2]
    exact Bool.false_ne_true
  have hlong : ¬ Builtin.List.listTooLong (its.toArray.size * k.toNat) = true := by
    rw [notLongL hlen]
    exact Bool.false_ne_true
  have hnew : List.foldl (fun x1 x2 => x1 ++ x2) #[] (List.replicate (if its.toArray.isEmpty = true then 0 else k.toNat) its.toArray) = (List.replicate k.toNat its).flatten.toArray := by
    have f0 : ∀ m : Nat, List.foldl (fun x1 x2 => x1 ++ x2) #[] (List.replicate m its.toArray) = (List.replicate m its).flatten.toArray := fun m => by
      have := foldl_rep its m []
      rw [List.nil_append] at this
      exact this
    rw [f0]
    cases its with
    | nil => simp
    | cons a r' => rw [if_neg (by simp)]
  refine wpAny_binaryOp_repeat_ref (T := "list") (U := "int") (by decide) ⟨_, e, rfl⟩ (fun s' => typeIs_int s' k t) noFill_list_mul F.fills_int_mul F.slot_int_rmul repeat_list F.slot_int_index.lookup
    (call_meets F.slot_int_rmul (typeIs_int s k t) F.entry_int_rmul (F.args_int_rmul_2 _ _) (int___rmul___int_list k t l its.toArray n)
      ⟨e, rfl, ⟨_, e, rfl⟩, call_meets F.slot_list_mul ⟨_, e, rfl⟩ F.entry_list_mul (F.args_list_mul_2 _ _) (AutoListH.list___mul___list_int_3 l its.toArray n k t hfit hcap hlong) ⟨e, ?_⟩⟩)
  rw [hnew]
  exact ⟨.ref _, _, I.lnew (t' := s.toks) (r.rep k.toNat) (by rw [len_rep, Nat.mul_comm]; exact hz), rfl, q _ I.fresh⟩

/-! ### del xs[i] -/
end

/-! ### xs[a:b] = ys -/
section
variable {prog : Program} {w : World} {A : Around} {E : Value → Shared → Prop} {s : Shared}
end

section
variable {X : Cx}
end
end L2

namespace L2
open PySem PySem.Spec PyProof.Rows

/-! ### lists of pairs as tables -/
section
variable {κ : Type} [DecidableEq κ]
theorem RelO.getD {o : Option V} {u : Option Value} {d : V} {d' : Value} (r : RelO o u) (rd : RelV d d') : RelV (o.getD d) (u.getD d') := by
  cases o with
  | none => cases u with
    | none => exact rd
    | some _ => exact (show False from r).elim
  | some _ => cases u with
    | none => exact (show False from r).elim
    | some _ => exact r

theorem KV.length {kvs : List (κ × V)} {vs : List (κ × Value)} (r : KV kvs vs) : kvs.length = vs.length := Paired.length r
end


/-! ### a tracked dict, its keys ints and texts or tuples of these -/
section
variable {P : Program} {w : World} {H : Hp} {h : Heap} {a : Addr}
end

section
variable {X : Cx} {pins : List (Addr × Obj)} {σ : St} {H : Hp} {s : Shared} {a : Addr} {y v : V} {u r : Value} {o : Option V} {A : Around} {E : Value → Shared → Prop}

end

section
variable {X : Cx} {pins : List (Addr × Obj)} {σ : St} {H : Hp} {s : Shared} {a : Addr} {kvs : List (Key × V)} {k : Key} {u : Value} {A : Around} {E : Value → Shared → Prop}
end


/-! ### readings and rules -/
section
variable {X : Cx} {o i e value : Expr} {pos pos' tpos : Pos} {td ty tv : TE}
end


/-! ### displays -/
section
variable {X : Cx} {pos : Pos}
end

/-! ### methods -/
/-- a method call o.m(e) of a built-in, with one argument: what must be seen of the text -/
structure M1 (X : Cx) (o : Expr) (m : Str) (apos : Pos) (e : Expr) (cpos : Pos) : Prop where
  base : attributeBase o m X.env (eval o X.env) = eval o X.env
  few : ((backTo cpos (starEach [e] X.env)).all (fun x => !x.1) && (backToKw cpos (keywordEach [] X.env)).all (fun x => x.1.isSome)
    && decide (([e] : List Expr).length + ([] : List Keyword).length + (if ([] : List Keyword).isEmpty then 0 else 1) < 30)) = true
  line : (apos.endLine == cpos.line) = true
  trees : backTo cpos (starEach [e] X.env) = [(false, eval e X.env)]
structure M2 (X : Cx) (o : Expr) (m : Str) (apos : Pos) (e f : Expr) (cpos : Pos) : Prop where
  base : attributeBase o m X.env (eval o X.env) = eval o X.env
  few : ((backTo cpos (starEach [e, f] X.env)).all (fun x => !x.1) && (backToKw cpos (keywordEach [] X.env)).all (fun x => x.1.isSome)
    && decide (([e, f] : List Expr).length + ([] : List Keyword).length + (if ([] : List Keyword).isEmpty then 0 else 1) < 30)) = true
  line : (apos.endLine == cpos.line) = true
  trees : backTo cpos (starEach [e, f] X.env) = [(false, eval e X.env), (false, eval f X.env)]

section
variable {X : Cx} {pins : List (Addr × Obj)} {σ : St} {H : Hp} {s : Shared} {a : Addr} {y d : V} {u r : Value} {o : Option V} {A : Around} {E : Value → Shared → Prop}
end

section
variable {X : Cx} {o e f : Expr} {apos cpos : Pos} {td ty tx : TE}
end

/-! ### dict(d): a copy -/
section
variable {X : Cx} {pins : List (Addr × Obj)} {σ : St} {H : Hp} {s : Shared} {a : Addr} {kvs : List (Key × V)} {A : Around} {E : Value → Shared → Prop}
end


section
variable {X : Cx} {pins : List (Addr × Obj)} {σ : St} {H : Hp} {s : Shared} {a : Addr} {y : V} {u : Value} {A : Around} {E : Value → Shared → Prop}
end
end L2


namespace Att
open PySem PySem.W PySem.Calls PyProof.Rows

/-! ### the script -/
theorem ints_of_wellAll {P : Params} {h : Heap} : ∀ (ns : List Int) (vs : List Value), WellAll P h vs (ns.map WData.int) → IntsAre vs ns := by
  intro ns
  induction ns with
  | nil =>
    intro vs w
    rw [List.map_nil] at w
    cases w
    exact .nil
  | cons n ns ih =>
    intro vs w
    rw [List.map_cons] at w
    cases w with
    | cons a b =>
      cases a
      exact .cons _ _ (ih _ b)

theorem script_of {l : OpenLaw} {n : Nat} (hn : l.most = some n) {P : Params} {h : Heap} {args : List WData} {vals : List Value}
    (hpre : l.row.toRowW.claim.pre args = true) (hwl : WellAll P h vals args) :
    ∃ a vs ns, vals = [Value.ref a] ∧ args = [WData.list (ns.map WData.int)] ∧ h.get? a = some { cls := .type "list", data := .seq vs.toArray } ∧ IntsAre vs ns ∧ ns.length ≤ n := by
  have hsh : WShape.hasAll [] args [.list .int] = true := (pre_splitW hpre).1
  have hc : l.pre.holds [] { args := args } = true := (pre_splitW hpre).2
  obtain ⟨d, r, rfl, h1, h2⟩ := hasAllW_cons hsh
  obtain rfl := hasAllW_nil h2
  obtain ⟨xs, rfl, h3⟩ := hasW_list h1
  obtain ⟨ns, rfl⟩ := items_int h3
  have hlen : ns.length ≤ n := by
    unfold OpenLaw.pre at hc
    have h4 : (WTm.not (.lt (.lit (.int (n : Int))) (.len (.arg 0)))).holds [] { args := [.list (ns.map .int)] } = true := by
      have h4 := (holds_andW hc).1
      rw [hn] at h4
      exact h4
    have h5 := condW_of h4 (w_not (w_lt w_lit (w_len_list (w_arg rfl))))
    rw [List.length_map] at h5
    refine Nat.le_of_not_lt fun q => ?_
    have q' : (n : Int) < ((ns.length : Nat) : Int) := by omega
    first
      | (rw [decide_eq_true q'] at h5; exact absurd h5 (by decide))
      | (simp at h5; omega)
  cases hwl with
  | cons w1 w2 =>
    cases w2
    cases w1 with
    | list ho hall => exact ⟨_, _, ns, rfl, rfl, ho, ints_of_wellAll ns _ hall, hlen⟩

theorem post_true (l : OpenLaw) (args : List WData) : l.row.toRowW.claim.post args (.bool true) args = true :=
  postW_of (r := l.row.toRowW) (X := (true == true))
    (show WShape.has [] (.bool true) .bool = true by first | rfl | decide | simp [WShape.has, WShape.arms, WShape.armsAll])
    (show (WTm.eq .res (.lit (.bool true))).value [] { args := args, res := some (.bool true), after := args } = some (.bool (true == true)) from w_eq_bool (w_res rfl) w_lit) rfl

/-! ### the attachment: holds_open's last premise (the goal 'hc' behind k_head) from a wpAny of the law's body -/
/-- the same from a codeAny of the CALL (for a layer whose function contracts speak of calls) -/
theorem attach_call {l : OpenLaw} {n : Nat} {q : Program} {loose : List Str} {XP : (Str → Option Value) → Heap → Prop} {YP : World → Heap → Prop} {d : DefRec}
    (hn : l.most = some n) (hdf : d.params.defaults = [])
    (call : ∀ (w : World) (s₀ s₁ : Shared) (mg mb : Str → Option Value) (fa : Addr) (o : Obj) (pm cd doc : Value) (a : Addr) (vs : List Value) (ns : List Int),
      Ground q loose [] XP w s₀ mg mb s₁.heap → YP w s₁.heap →
      s₁.heap.get? fa = some o → o.data = .func (docDef d.name d.params d.body d.scope pm cd doc) → s₁.heap.CodeRec cd d.name → mg d.name = some (.ref fa) →
      s₁.heap.get? a = some { cls := .type "list", data := .seq vs.toArray } → IntsAre vs ns → ns.length ≤ n → s₁.gens = #[] →
      codeAny (model l.prog w) callerA (.call (.ref fa) ⟨[.ref a], []⟩) (fun r s' => r = .ok (.ret (.bool true)) ∧ OldK s₁.heap s'.heap ∧ s'.os = s₁.os ∧ AllBare s'.gens) s₁) :
    WalkO q loose XP YP l.row.toRowW d [] (fun f vs => PySem.call f vs) := by
  intro w s₀ s₁ mg mb G Y fa o pm cd doc dV kV ho hd hcd hD hmg hg args vals as hpre hlay hrd hwl hlo
  obtain rfl : dV = .none := Dflts.none hD hdf
  obtain rfl : kV = .none := Dflts.noKw hD
  obtain ⟨a, vs, ns, rfl, rfl, hobj, hints, hlen⟩ := script_of hn hpre hwl
  refine enter_call (codeAny_mono (call w s₀ s₁ mg mb fa o pm cd doc a vs ns G Y ho (fd_plain hd) hcd hmg hobj hints hlen hg) fun r s' hq => ?_)
  obtain ⟨rfl, h2, h3, h4⟩ := hq
  exact ⟨.inl ⟨.bool true, .bool true, [], rfl, fun _ => rfl, .bool true, post_true l _, fun _ => ⟨List.Pairwise.nil, fun _ hm => (nomatch hm)⟩⟩, h2, h3, h4⟩

/-! ### rules over ANY heap (no ledger) from facts about the written part K: the library's own take a ledger (News) for what they write -/
section
variable {prog : Program} {w : World} {A : Around} {E : Value → Shared → Prop} {s : Shared} {K : Frag}

/-! the whole heap as the ledger: makes every rule that writes through a ledger a rule over any heap -/
def ledger (h : Heap) (L d : Addr) : List (Addr × Obj) := (List.range h.objs.size).filterMap fun a => if a = L ∨ a = d then none else (h.get? a).map fun o => (a, o)
end
end Att

namespace L2
open PySem PySem.Spec PyProof.Rows

theorem vals_ints : ∀ {vs : List Value} {ns : List Int}, IntsAre vs ns → Vals (ns.map V.int) vs
  | _, _, .nil => .nil
  | _, _, .cons n t h => .cons ⟨t, rfl⟩ (vals_ints h)

/-- nothing is tracked but the script, known to the object (or it is an object of the module) -/
def Only (H : Hp) : Prop := ∀ b, H b = none ∨ ∃ o xs, H b = some (.frz o (.lst xs))

/-- THE HEAD: the law's promise, at the heap behind the top. F, the promise of the law's def, may use that base is part of the heap (so K.In base, base.Ns mainGlobals mg stand in Mod) -/
theorem law_call {P : Program} {w : World} {K : PySem.W.Frag} {mg mb : Str → Option Value} {CX : CXT} {k : Nat} {fa a : Addr} {fd : FuncData} {x : Str} {sp : Sp} {s₁ : Shared} {vs : List Value} {ns : List Int}
    (KX : K.In s₁.heap) (hns : s₁.heap.Ns mainGlobals mg) (hb : s₁.heap.Ns builtinsNs mb) (hbb : ∀ x : Str, x ≠ "__name__" → mb x = bootBuiltins x) (hlim : s₁.heap.NoLimit) (hg : s₁.gens = #[])
    (ha : s₁.heap.get? a = some { cls := .type "list", data := .seq vs.toArray }) (hi : IntsAre vs ns) (hl : ns.length ≤ sizeLine) (hr : Room k callerA)
    (F : ∀ base : Heap, K.In base → base.Ns mainGlobals mg → FnOk P w K mg base CX k fa fd [x] sp) (hbind : ∀ (s : Shared) (u : Value), BindsTo s fd ⟨[u], []⟩ [(x, u)])
    (hsp : ∀ H : Hp, Only H → SqL K H a (ns.map V.int) → sp [.ref a] H (fun v _ => v = .bl true) fun _ _ _ => False)
    (hCX : ∀ H e s', CX [] H s₁ (fun _ _ _ => False) e s' → False) :
    codeAny (model P w) callerA (.call (.ref fa) ⟨[.ref a], []⟩) (fun r s' => r = .ok (.ret (.bool true)) ∧ OldK s₁.heap s'.heap ∧ s'.os = s₁.os ∧ AllBare s'.gens) s₁ := by
  have rv := vals_ints hi
  have lenV := hi.length
  -- from an abstract heap in which nothing but the script may be tracked
  have core : ∀ H : Hp, Only H → SqL K H a (ns.map V.int) → HOk P w H s₁.heap → (∀ b, H b ≠ none → b = a) → (H a ≠ none → K.lookup a = none) →
      codeAny (model P w) callerA (.call (.ref fa) ⟨[.ref a], []⟩) (fun r s' => r = .ok (.ret (.bool true)) ∧ OldK s₁.heap s'.heap ∧ s'.os = s₁.os ∧ AllBare s'.gens) s₁ := by
    intro H hO hS hok hA hK
    have base_of : ∀ {b : Addr} {o : Obj}, s₁.heap.get? b = some o → H b = none → (hidT s₁.heap H).get? b = some o := fun e n => hidT_get e n
    have noA : ∀ {b : Addr} {o : Obj} {es : Array DictEntry} {ep : Nat}, s₁.heap.get? b = some o → o.data = .dict es ep → H b = none := fun {b o es ep} e d => by
      cases q : H b with
      | none => rfl
      | some u =>
        have e' : b = a := hA b (by rw [q]; simp)
        subst e'
        rw [ha] at e; cases e
        have d' : Data.seq vs.toArray _ = Data.dict es ep := d
        cases d'
    have nsK : ∀ {b : Addr} {m : Str → Option Value}, s₁.heap.Ns b m → (hidT s₁.heap H).Ns b m := fun {b m} ⟨o, es, ep, e, d, r⟩ => ⟨o, es, ep, base_of e (noA e d), d, r⟩
    have hKb : K.In (hidT s₁.heap H) := fun b o e => base_of (KX b o e) (by
      cases q : H b with
      | none => rfl
      | some u =>
        have e' : b = a := hA b (by rw [q]; simp)
        subst e'
        rw [hK (by rw [q]; simp)] at e; cases e)
    have hM : Mod K mg (hidT s₁.heap H) := ⟨hKb, nsK hns, ⟨mb, nsK hb, hbb⟩, let ⟨mc, h1, h2⟩ := hlim; ⟨mc, nsK h1, h2⟩⟩
    have e0 : Env0 P w K mg (hidT s₁.heap H) callerA [] s₁ H := ⟨rfl, hM, fun b o e => of_hidT e, Nat.le_of_eq (hidT_size _ _), trivial, fun b hb => absurd (show b ∈ ([] : List Addr) from hb) (by simp), hok, .of_eq hg⟩
    refine codeAny_mono ((F _ hKb (nsK hns)).run callerA [] s₁ H ⟨[.ref a], []⟩ [.ref a] [.ref a] _ _ hr e0 (hbind s₁ (.ref a)) (.cons rfl .nil) (hsp H hO hS)) fun r s' h => ?_
    cases r with
    | error e => exact (hCX H e s' h).elim
    | ok fl =>
      cases fl with
      | next => exact False.elim h
      | brk => exact False.elim h
      | cont => exact False.elim h
      | ret u =>
        obtain ⟨v, H', os, bare, un, hok', r', q⟩ := h
        have q' : v = .bl true := q
        subst q'
        obtain rfl : u = Value.bool true := r'
        refine ⟨rfl, OldK.of_keep fun b o e => ?_, os, bare⟩
        cases q : H b with
        | none => exact un.keep b o e q (by intro z; exact absurd (show b ∈ ([] : List Addr) from z) (by simp)) (by simp)
        | some u =>
          rcases hO b with z | ⟨ob, xs, z⟩
          · rw [q] at z; cases z
          · have z2 := un.frzs b ob _ z
            obtain ⟨e1, _⟩ := hok b _ z
            obtain ⟨e2, _⟩ := hok' b _ z2
            rw [e] at e1; cases e1
            exact e2
  cases hk : K.lookup a with
  | some o =>
    -- the script is one of the module's own objects
    have e := KX a o hk
    rw [ha] at e
    cases e
    refine core (fun _ => none) (fun _ => .inl rfl) (.inr ⟨_, vs.toArray, _, hk, rfl, rfl, rfl, by rw [List.size_toArray, lenV]; exact hl, by simpa using rv⟩) (fun b u z => by have z' : (none : Option HO) = some u := z; cases z') (fun b z => absurd rfl z) fun z => absurd rfl z
  | none =>
    refine core (fun b => if b = a then some (.frz { cls := .type "list", data := .seq vs.toArray } (.lst (ns.map V.int))) else none) (fun b => ?_) (.inl (.inr ⟨{ cls := .type "list", data := .seq vs.toArray }, if_pos rfl⟩)) (fun b u z => ?_) (fun b z => ?_) fun _ => hk
    · by_cases hb : b = a
      · exact .inr ⟨_, _, if_pos hb⟩
      · exact .inl (if_neg hb)
    · by_cases hb : b = a
      · have z' := (if_pos hb).symm.trans z
        cases z'
        subst hb
        exact ⟨ha, by rw [List.length_map]; exact hl, vs, _, rv, ha⟩
      · have z' := (if_neg hb).symm.trans z
        cases z'
    · by_cases hb : b = a
      · exact hb
      · exact absurd (if_neg hb) z
end L2

namespace L2
open PySem PySem.Spec PyProof.Rows

abbrev KOf {K : PySem.W.Frag} {h : Heap} (_ : K.In h) : PySem.W.Frag := K

/-- the goal that k_head leaves (case hc), from the law's promise. F gives the function object fd (K's own) once, then the promise over every base -/
theorem walk_of {l : PySem.W.OpenLaw} {n k : Nat} {q : Program} {loose : List Str} {XP : (Str → Option Value) → Heap → Prop} {YP : World → Heap → Prop} {d : DefRec} {K : Params → PySem.W.Frag} {CX : World → CXT} {sp : World → Sp} {x : Str}
    (hn : l.most = some n) (hn2 : n ≤ sizeLine) (hdf : d.params.defaults = []) (hr : Room k callerA)
    (hY : ∀ (w : World) (h : Heap), YP w h → (K w.params).In h)
    (F : ∀ (w : World) (mg : Str → Option Value) (fa : Addr) (h : Heap), (K w.params).In h → h.Ns mainGlobals mg → mg d.name = some (.ref fa) →
      ∃ fd : FuncData, (∀ (s : Shared) (u : Value), BindsTo s fd ⟨[u], []⟩ [(x, u)]) ∧
        ∀ base : Heap, (K w.params).In base → base.Ns mainGlobals mg → FnOk l.prog w (K w.params) mg base (CX w) k fa fd [x] (sp w))
    (hsp : ∀ (w : World) (H : Hp) (a : Addr) (ns : List Int), ns.length ≤ n → Only H → SqL (K w.params) H a (ns.map V.int) → sp w [.ref a] H (fun v _ => v = .bl true) fun _ _ _ => False)
    (hCX : ∀ (w : World) (H : Hp) (s : Shared) (e : Value) (s' : Shared), CX w [] H s (fun _ _ _ => False) e s' → False) :
    PySem.W.WalkO q loose XP YP l.row.toRowW d [] (fun f vs => PySem.call f vs) := by
  refine Att.attach_call hn hdf fun w s₀ s₁ mg mb fa o pm cd doc a vs ns G Y ho hd hcd hmg hobj hints hlen hg => ?_
  have KX := hY w _ Y
  obtain ⟨fd, hb, hF⟩ := F w mg fa _ KX G.T.g hmg
  exact law_call KX G.T.g G.T.b G.T.builtins G.T.nolimit hg hobj hints (Nat.le_trans hlen hn2) hr hF hb (fun H hO hS => hsp w H a ns hlen hO hS) fun H e s' => hCX w H s₁ e s'
/-- the same where the promise hangs on the written part alone: (sp := My.sp_law), no hole under a binder -/
theorem walk_ofK {l : PySem.W.OpenLaw} {n k : Nat} {q : Program} {loose : List Str} {XP : (Str → Option Value) → Heap → Prop} {YP : World → Heap → Prop} {d : DefRec} {K : Params → PySem.W.Frag} {CX : CXT} {sp : PySem.W.Frag → Sp} {x : Str}
    (hn : l.most = some n) (hn2 : n ≤ sizeLine) (hdf : d.params.defaults = []) (hr : Room k callerA)
    (hY : ∀ (w : World) (h : Heap), YP w h → (K w.params).In h)
    (F : ∀ (w : World) (mg : Str → Option Value) (fa : Addr) (h : Heap), (K w.params).In h → h.Ns mainGlobals mg → mg d.name = some (.ref fa) →
      ∃ fd : FuncData, (∀ (s : Shared) (u : Value), BindsTo s fd ⟨[u], []⟩ [(x, u)]) ∧
        ∀ base : Heap, (K w.params).In base → base.Ns mainGlobals mg → FnOk l.prog w (K w.params) mg base CX k fa fd [x] (sp (K w.params)))
    (hsp : ∀ (K : PySem.W.Frag) (H : Hp) (a : Addr) (ns : List Int), ns.length ≤ n → Only H → SqL K H a (ns.map V.int) → sp K [.ref a] H (fun v _ => v = .bl true) fun _ _ _ => False)
    (hCX : ∀ (H : Hp) (s : Shared) (e : Value) (s' : Shared), CX [] H s (fun _ _ _ => False) e s' → False) :
    PySem.W.WalkO q loose XP YP l.row.toRowW d [] (fun f vs => PySem.call f vs) :=
  walk_of (K := K) (CX := fun _ => CX) (sp := fun w => sp (K w.params)) hn hn2 hdf hr hY F (fun w H a ns h1 h2 h3 => hsp (K w.params) H a ns h1 h2 h3) fun _ H s e s' => hCX H s e s'
end L2

/- THE LAST THEOREM (shape; LID, My.* are yours):
   My.Adr: a structure of the addresses that your layer names (classes, functions); My.Txt K t: a structure (Prop) of the equations over K;
   My.txt_mk : {K} {implicit addresses ..} (e1 : nsIn K mainGlobals "law" = some (some (.ref f))) (e2 : K.lookup f = some ⟨oc, od, .func (fnOf "law" "law" params body scope dV kV doc pm an cdv ct), sl⟩) (e3 : codeIn K cdv "law" = true) .. : ∃ t, My.Txt K t

set_option maxRecDepth 100000 in
set_option maxHeartbeats 0 in
theorem PySem.Challenge.cw_LID_holds : PySem.Challenge.rw_LID.Holds := by
  w_on; o_law; k_head; (case hw => w_witness2)
  k_fill
  refine L2.walk_of (l := PySem.Challenge.rw_LID) (n := 63) (k := 40) (x := "script") (CX := fun w => ..) (sp := fun _ => My.sp_law) rfl (by decide) rfl ⟨rfl, by decide, by decide⟩ (fun w h Y => PySem.W.kIn_of Y) ?F ?S ?C
  case F =>
    intro w mg fa h KX G hmg
    have T : ∃ t, My.Txt (L2.KOf KX) t := by
      dsimp only [L2.KOf]                          -- K must stand as «<heap const> w.params» for k_is
      refine' My.txt_mk ?e1 ?e2 ?e3 ..
      (case e1 => PySem.W.k_is)                    -- in the order: a name -> its address -> its object -> its parts
      (case e2 => PySem.W.k_is)
      ..
    obtain ⟨t, T⟩ := T
    have e0 := hmg.symm.trans (PySem.W.mg_of KX G T.law)
    cases e0                                       -- fa is the law's own address
    exact ⟨_, fun s u => .of_eq rfl, fun base kb nb => My.law_fn T kb nb⟩     -- if «.of_eq rfl» comes too early: refine' ⟨_, ?b, fun base kb nb => My.law_fn T kb nb⟩; exact fun s u => .of_eq rfl
  case S => exact fun w H a ns hl hO hS => ..
  case C => exact ..
(the tactic k_is has no namespace: write k_is) -/

/-! SHORT WORDS over the layer: a def of the text, its body, what a loop and a test want. -/
namespace L2
open PySem PySem.Spec PyProof.Rows

/-! ### the text by places -/
/-- the j-th statement of a class's body -/
def inClass (s : Stmt) (j : Nat) : Stmt := match s with
  | .ClassDef _ _ _ body _ _ _ _ _ _ _ => body.getD j (.Pass ⟨0, 0, 0, 0⟩)
  | _ => .Pass ⟨0, 0, 0, 0⟩
def defArgs (s : Stmt) : Arguments := match s with
  | .FunctionDef _ a _ _ _ _ _ _ _ _ => a
  | _ => { posonlyargs := [], args := [], vararg := none, kwonlyargs := [], kw_defaults := [], kwarg := none, defaults := [] }
def defBody (s : Stmt) : List Stmt := match s with
  | .FunctionDef _ _ b _ _ _ _ _ _ _ => b
  | _ => []
def defScope (s : Stmt) : Scope := match s with
  | .FunctionDef _ _ _ _ _ _ sc _ _ _ => sc
  | _ => { kind := .function, names := [], isGenerator := false, isCoroutine := false }

/-! ### no exception leaves a def -/
abbrev CX0 : CXT := fun _ _ _ _ _ _ => False
abbrev E0 : XK := fun _ _ _ => False
theorem pass0 {X : Cx} : Passes CX0 X E0 := fun _ _ _ _ _ _ _ h => h.elim

/-! ### a def (or method) of the text as it stands behind the top -/
structure Fun (K : PySem.W.Frag) (x qual : Str) (st : Stmt) (f : Addr) (fd : FuncData) : Prop where
  ex : ∃ (oc : Value) (od : Option Addr) (kV doc pm : Value) (an : Option Addr) (cdv ct : Value) (osl : Array (Option Value)),
    fd = PySem.W.fnOf x qual (defArgs st) (defBody st) (defScope st) .none kV doc pm an cdv ct ∧ K.lookup f = some ⟨oc, od, .func fd, osl⟩ ∧ PySem.W.codeIn K cdv qual = true
  kp : PySem.W.keepIn K (.ref f) = true
section
variable {P : Program} {w : World} {K : PySem.W.Frag} {mg : Str → Option Value} {base : Heap}
/-- THE RULE for a def: its body as a term of rules, and the reading of that term -/
theorem Fun.ok {x qual : Str} {st : Stmt} {f : Addr} {fd : FuncData} {N ps : List Str} {k : Nat} {sp : Sp} (F : Fun K x qual st f fd) (S : FnScope N ps (defScope st)) (len : ∀ vs H Q E, sp vs H Q E → vs.length = ps.length)
    (hbody : ∀ (cdv : Value) (A : Around) (outer : List Env) (s : Shared) (H : Hp) (vs : List V) (Q : VK) (E : XK), Room k (A.deeper (envOfC qual (defScope st) s.heap.objs.size f cdv)) → sp vs H Q E →
      ∃ t, PSs (cxOf CX0 P w K mg base N qual (defScope st) f cdv A outer s H E).nox (defBody st) t ∧ t { nx := fun _ H' => Q .non H', rt := Q } (start N vs) H) : FnOk P w K mg base CX0 (k + 1) f fd ps sp := by
  obtain ⟨oc, od, kV, doc, pm, an, cdv, ct, osl, rfl, lk, hcd⟩ := F.ex
  refine fn_of lk hcd S len fun A outer s H vs Q E hr hsp => ?_
  obtain ⟨t, h, q⟩ := hbody cdv A outer s H vs Q E hr hsp
  exact ⟨t, h.nox, q⟩
/-- how its arguments bind (no defaults): h is «fun _ _ _ _ _ _ us hl => match us, hl with | [_, _], _ => rfl», one _ a parameter -/
theorem Fun.binds {x qual : Str} {st : Stmt} {f : Addr} {fd : FuncData} {ps : List Str} (F : Fun K x qual st f fd)
    (h : ∀ (kV doc pm : Value) (an : Option Addr) (cdv ct : Value) (us : List Value), us.length = ps.length → bindArgs (PySem.W.fnOf x qual (defArgs st) (defBody st) (defScope st) .none kV doc pm an cdv ct) ⟨us, []⟩ = pure (ps.zip us)) : Binds K fd ps [] := by
  obtain ⟨oc, od, kV, doc, pm, an, cdv, ct, osl, rfl, lk, hcd⟩ := F.ex
  exact .all (h kV doc pm an cdv ct)
theorem fun_mk {x qual : Str} {st : Stmt} {f : Addr} {oc : Value} {od an : Option Addr} {osl : Array (Option Value)} {kV doc pm cdv ct : Value} (l : K.lookup f = some ⟨oc, od, .func (PySem.W.fnOf x qual (defArgs st) (defBody st) (defScope st) .none kV doc pm an cdv ct), osl⟩)
    (c : PySem.W.codeIn K cdv qual = true) (k : PySem.W.keepIn K (.ref f) = true) : Fun K x qual st f (PySem.W.fnOf x qual (defArgs st) (defBody st) (defScope st) .none kV doc pm an cdv ct) := ⟨⟨oc, od, kV, doc, pm, an, cdv, ct, osl, rfl, l, c⟩, k⟩
end
/-! ### expressions in short: the name that stands in the i-th slot -/
section
variable {X : Cx}
theorem pv (i : Nat) {x : Str} {pos : Pos} (hN : X.N[i]? = some x := by rfl) (hv : Vis X.env.scope x := by first | exact Or.inl rfl | exact Or.inr (Or.inl rfl) | exact Or.inr (Or.inr rfl)) (hd : (x == ("__debug__" : Str)) = false := by decide)
    (hcd : (x == ("__classdict__" : Str)) = false := by decide) : PE X (.Name x pos) (tVar i) := pe_var hN hv hd hcd
end

/-! ### tests -/
theorem iteF {A B : Prop} (h : B) : if false = true then A else B := by
  rw [if_neg Bool.false_ne_true]
  exact h
theorem iteT {A B : Prop} (h : A) : if true = true then A else B := by
  rw [if_pos rfl]
  exact h
theorem ite2 {c A B : Prop} [Decidable c] (h1 : c → A) (h2 : ¬ c → B) : if c then A else B := by
  by_cases h : c
  · rw [if_pos h]
    exact h1 h
  · rw [if_neg h]
    exact h2 h
/-! ### heaps -/
/-- all that was tracked is as it was -/
def Same (H H' : Hp) : Prop := ∀ b o, H b = some o → H' b = some o
theorem Same.refl (H : Hp) : Same H H := fun _ _ h => h
theorem Same.trans {H H1 H2 : Hp} (a : Same H H1) (b : Same H1 H2) : Same H H2 := fun c o h => b c o (a c o h)
theorem Same.free {H H' : Hp} (e : Same H H') {l : Addr} (h : H' l = Option.none) : H l = Option.none := by
  cases q : H l with
  | none => rfl
  | some o =>
    rw [e l o q] at h
    cases h
theorem Same.seq {K : PySem.W.Frag} {H H' : Hp} {a : Addr} {xs : List V} (e : Same H H') (h : SqL K H a xs) : SqL K H' a xs := by
  rcases h with (h | ⟨o, h⟩) | h
  · exact .inl (.inl (e _ _ h))
  · exact .inl (.inr ⟨o, e _ _ h⟩)
  · exact .inr h

end L2


/-! ## comprehensions, over the layer -/
namespace L2
open PySem PySem.Spec PyProof.Rows

/-- the tests of a comprehension -/
def PTs (X : Cx) (ifs : List Expr) (t : TT) : Prop :=
  ∀ (pins : List (Addr × Obj)) (s : Shared) (σ : St) (H : Hp) (Q : Bool → Hp → Prop), Inv X pins σ H s → t σ H Q →
    wpAny (model X.prog X.w) X.A (forIn ifs true fun c r => if r = true then do let ok ← isTrue c X.env (eval c X.env); pure (ForInStep.yield ok) else pure (ForInStep.yield r)) (TP X pins σ Q) X.xe s
def tYes : TT := fun _ H Q => Q true H
theorem pts_nil {X : Cx} : PTs X [] tYes := fun _ _ _ H _ I h => wpAny_tests_nil ⟨H, I, h⟩
theorem pts_one {X : Cx} {c : Expr} {t : TT} (hc : PT X c t) : PTs X [c] t := fun pins s σ H Q I h => wpAny_tests_one (hc pins s σ H Q I h)

/-- a comprehension's turn, whatever the iterator keeps -/
theorem compLoop_any {prog : Program} {w : World} {A : Around} {s : Shared} {R : Result → Shared → Prop} {elt target iter : Expr} {ifs : List Expr} {scope : Scope} {pos : Pos} {it acc : Value} {env : Env} (J : Nat → Shared → Prop)
    (turn : ∀ n s, J n s → wpAny (model prog w) A (pyNext it) (fun r s1 => match r with
      | none => R (.ok .next) s1
      | some v => wpAny (model prog w) A (letOwnedTupleGo target it v) (fun _ s2 => wpAny (model prog w) A (assign target env v) (fun _ s3 =>
          wpAny (model prog w) A (forIn ifs true fun c r => if r = true then do let ok ← isTrue c env (eval c env); pure (ForInStep.yield ok) else pure (ForInStep.yield r)) (fun ok s4 =>
            if ok = true then wpAny (model prog w) A (eval elt env) (fun x s5 =>
              wpAny (model prog w) A (call (.builtin "list.append") [acc, x]) (fun _ s6 => ∃ m, m < n ∧ J m s6) (fun _ _ => False) s5) (fun _ _ => False) s4
            else ∃ m, m < n ∧ J m s4) (fun _ _ => False) s3) (fun _ _ => False) s2) (fun _ _ => False) s1) (fun _ _ => False) s)
    (n : Nat) (h : J n s) : codeAny (model prog w) A (.compLoop (.ListComp elt [⟨target, iter, ifs, 0⟩] scope pos) 0 it acc env) R s := by
  refine codeAny_loop rfl J (fun n s hI => ?_) n h
  show wpAny _ A ((compTurn (.ListComp elt [⟨target, iter, ifs, 0⟩] scope pos) 0 it acc env).onRaise (fun x => do noteFrame x env; theTreesLotGoes x)) _ _ s
  refine wpAny_noted ?_
  rw [compTurn_list]
  refine wpAny_bind (wpAny_standAt (wpAny_bind (wpAny_mono (turn n s hI) (fun r s1 h1 => ?_) fun _ _ z => z.elim)))
  cases r with
  | none => exact wpAny_pure h1
  | some v =>
    refine wpAny_bind (wpAny_mono h1 (fun _ s2 h2 => ?_) fun _ _ z => z.elim)
    refine wpAny_bind (wpAny_mono h2 (fun _ s3 h3 => wpAny_bind (wpAny_mono h3 (fun ok s4 h4 => ?_) fun _ _ z => z.elim)) fun _ _ z => z.elim)
    cases ok with
    | false => exact wpAny_pure ⟨rfl, h4⟩
    | true =>
      exact wpAny_bind (wpAny_bind (wpAny_mono h4 (fun x s5 h5 => wpAny_bind (wpAny_mono h5 (fun _ s6 h6 => wpAny_pure (wpAny_pure ⟨rfl, h6⟩)) fun _ _ z => z.elim)) fun _ _ z => z.elim))

/-! ### the cells that a block sees -/
def closL (cells : List (Str × Addr)) : List (Str × NameKind) → List (Str × Addr) → List (Str × Addr)
  | [], acc => acc
  | (n, k) :: r, acc => if k == .free then closL cells r ((n, (cells.lookup n).getD 0) :: acc) else closL cells r acc
theorem closure_go {env : Env} : ∀ (names : List (Str × NameKind)) (acc : List (Str × Addr)), (∀ y ∈ names, y.2 = .free → ∃ c, env.cells.lookup y.1 = some c) →
    (forIn names acc fun (x : Str × NameKind) (cs : List (Str × Addr)) => (if (x.2 == .free) = true then do let a ← cellOf env x.1; pure (ForInStep.yield ((x.1, a) :: cs)) else pure (ForInStep.yield cs) : Sem (ForInStep (List (Str × Addr))))) = pure (closL env.cells names acc)
  | [], acc, _ => rfl
  | (n, k) :: r, acc, h => by
    have ih := fun acc => closure_go r acc fun y hy => h y (List.mem_cons_of_mem _ hy)
    rw [List.forIn_cons]
    unfold closL
    by_cases hk : (k == NameKind.free) = true
    · obtain ⟨c, hc⟩ := h (n, k) List.mem_cons_self (by simpa using hk)
      have e : cellOf env n = pure c := by
        unfold cellOf
        rw [show env.cells.lookup n = some c from hc]
      simp only [hk, if_true, e, pure_bind]
      rw [ih, show env.cells.lookup n = some c from hc]
      rfl
    · simp only [hk, Bool.false_eq_true, if_false, pure_bind]
      exact ih acc
theorem closure_of {env : Env} {scope : Scope} (h : ∀ y ∈ scope.names, y.2 = .free → ∃ c, env.cells.lookup y.1 = some c) : closureFor scope env = pure (closL env.cells scope.names []) := by
  have e := closure_go scope.names [] h
  unfold closureFor
  simp only [bind_pure] at e ⊢
  exact e
theorem closL_sub {env : Env} : ∀ (names : List (Str × NameKind)) (acc : List (Str × Addr)), (∀ y ∈ names, y.2 = .free → ∃ c, env.cells.lookup y.1 = some c) → (∀ x c, acc.lookup x = some c → env.cells.lookup x = some c) →
    ∀ x c, (closL env.cells names acc).lookup x = some c → env.cells.lookup x = some c
  | [], acc, _, ha, x, c, e => ha x c e
  | (n, k) :: r, acc, h, ha, x, c, e => by
    unfold closL at e
    by_cases hk : (k == NameKind.free) = true
    · rw [if_pos hk] at e
      obtain ⟨d, hd⟩ := h (n, k) List.mem_cons_self (by simpa using hk)
      refine closL_sub r _ (fun y hy => h y (List.mem_cons_of_mem _ hy)) (fun y b q => ?_) x c e
      rw [List.lookup_cons] at q
      by_cases hy : (y == n) = true
      · rw [hy] at q
        have hy' : y = n := by simpa using hy
        have hd' : env.cells.lookup n = some d := hd
        rw [hd'] at q
        have q' : d = b := Option.some.inj q
        rw [hy', hd', q']
      · have hy' : (y == n) = false := by simpa using hy
        rw [hy'] at q
        exact ha y b q
    · rw [if_neg hk] at e
      exact closL_sub r acc (fun y hy => h y (List.mem_cons_of_mem _ hy)) ha x c e
theorem closL_acc {cells : List (Str × Addr)} : ∀ (names : List (Str × NameKind)) (acc : List (Str × Addr)) (x : Str), (acc.lookup x).isSome = true → ((closL cells names acc).lookup x).isSome = true
  | [], _, _, h => h
  | (n, k) :: r, acc, x, h => by
    unfold closL
    by_cases hk : (k == NameKind.free) = true
    · rw [if_pos hk]
      refine closL_acc r _ x ?_
      rw [List.lookup_cons]
      by_cases hx : (x == n) = true
      · rw [hx]; rfl
      · have hx' : (x == n) = false := by simpa using hx
        rw [hx']; exact h
    · rw [if_neg hk]
      exact closL_acc r acc x h
theorem closL_has {cells : List (Str × Addr)} : ∀ (names : List (Str × NameKind)) (acc : List (Str × Addr)) (x : Str), (x, NameKind.free) ∈ names → ((closL cells names acc).lookup x).isSome = true
  | [], _, _, h => nomatch h
  | (n, k) :: r, acc, x, h => by
    unfold closL
    rcases List.mem_cons.mp h with e | h
    · cases e
      rw [if_pos (by rfl)]
      refine closL_acc r _ _ ?_
      rw [List.lookup_cons]
      simp
    · by_cases hk : (k == NameKind.free) = true
      · rw [if_pos hk]; exact closL_has r _ x h
      · rw [if_neg hk]; exact closL_has r _ x h
theorem lookup_relabel {env : Env} : ∀ {names : List (Str × NameKind)} {x : Str} {k : NameKind}, (names.map fun (n, k) => if (k == NameKind.free && env.scope.kind == .function && env.kindOf n == some .cell) then (n, NameKind.cell) else (n, k)).lookup x = some k →
    (k = .cell ∨ k = .free) → (x, NameKind.free) ∈ names ∨ (x, NameKind.cell) ∈ names
  | [], _, _, h, _ => by simp at h
  | (n, q) :: r, x, k, h, hk => by
    have h' : List.lookup x ((if (q == NameKind.free && env.scope.kind == .function && env.kindOf n == some .cell) = true then (n, NameKind.cell) else (n, q)) :: r.map fun (n, k) => if (k == NameKind.free && env.scope.kind == .function && env.kindOf n == some .cell) then (n, NameKind.cell) else (n, k)) = some k := h
    by_cases hc : (q == NameKind.free && env.scope.kind == .function && env.kindOf n == some .cell) = true
    · rw [if_pos hc, List.lookup_cons] at h'
      have hq : q = .free := by
        simp only [Bool.and_eq_true, beq_iff_eq] at hc
        exact hc.1.1
      by_cases hx : (x == n) = true
      · have hx' : x = n := by simpa using hx
        subst hx'; subst hq
        exact .inl List.mem_cons_self
      · have hx' : (x == n) = false := by simpa using hx
        rw [hx'] at h'
        rcases lookup_relabel (env := env) h' hk with z | z
        · exact .inl (List.mem_cons_of_mem _ z)
        · exact .inr (List.mem_cons_of_mem _ z)
    · rw [if_neg hc, List.lookup_cons] at h'
      by_cases hx : (x == n) = true
      · rw [hx] at h'
        have hx' : x = n := by simpa using hx
        subst hx'
        have e : q = k := Option.some.inj h'
        subst e
        rcases hk with rfl | rfl
        · exact .inr List.mem_cons_self
        · exact .inl List.mem_cons_self
      · have hx' : (x == n) = false := by simpa using hx
        rw [hx'] at h'
        rcases lookup_relabel (env := env) h' hk with z | z
        · exact .inl (List.mem_cons_of_mem _ z)
        · exact .inr (List.mem_cons_of_mem _ z)
theorem relabel_free {env : Env} : ∀ {names : List (Str × NameKind)} {x : Str}, names.lookup x = some .free →
    (names.map fun (n, k) => if (k == NameKind.free && env.scope.kind == .function && env.kindOf n == some .cell) then (n, NameKind.cell) else (n, k)).lookup x = some .cell ∨
    (names.map fun (n, k) => if (k == NameKind.free && env.scope.kind == .function && env.kindOf n == some .cell) then (n, NameKind.cell) else (n, k)).lookup x = some .free
  | [], _, h => by simp at h
  | (n, q) :: r, x, h => by
    show List.lookup x ((if (q == NameKind.free && env.scope.kind == .function && env.kindOf n == some .cell) = true then (n, NameKind.cell) else (n, q)) :: _) = _ ∨ List.lookup x ((if (q == NameKind.free && env.scope.kind == .function && env.kindOf n == some .cell) = true then (n, NameKind.cell) else (n, q)) :: _) = _
    rw [List.lookup_cons] at h
    by_cases hc : (q == NameKind.free && env.scope.kind == .function && env.kindOf n == some .cell) = true
    · rw [if_pos hc, List.lookup_cons]
      by_cases hx : (x == n) = true
      · rw [hx]; exact .inl rfl
      · have hx' : (x == n) = false := by simpa using hx
        rw [hx'] at h ⊢
        exact relabel_free h
    · rw [if_neg hc, List.lookup_cons]
      by_cases hx : (x == n) = true
      · rw [hx] at h ⊢; exact .inr h
      · have hx' : (x == n) = false := by simpa using hx
        rw [hx'] at h ⊢
        exact relabel_free h

/-! ### the block -/
/-- the context of a comprehension's block -/
def cxC (X : Cx) (N' : List Str) (scope : Scope) (C : Addr) (s : Shared) (H : Hp) (fp : List Addr) : Cx where
  prog := X.prog
  w := X.w
  K := X.K
  mg := X.mg
  base := X.base
  A := X.A
  N := N'
  s₀ := s
  H₀ := H
  env := compEnvC scope (closL X.env.cells scope.names []) C X.env
  outer := X.stack
  stack := X.stack
  ex := fp
  fn := fun _ => false
  calm := X.calm
  pn := []
  xe := fun _ _ => False
/-- the block's values at a turn's start: its own names unknown, the seen ones as they are -/
def σC (o : Nat) (fr : List Nat) (σ : St) : St := List.replicate o none ++ fr.map fun j => (σ[j]?).join
/-- what the text must be like: sc0, N: the scope and the names around; names N' of the block, its o own ones first, behind them those it sees, at the places fr of N -/
structure CompScope (sc0 : Scope) (N N' : List Str) (o : Nat) (fr : List Nat) (scope : Scope) : Prop where
  kind : scope.kind = .function
  nocell : (scope.names.all fun y => y.2 != .cell) = true
  loc : (scope.names.all fun y => y.2 != .local || scope.names.lookup y.1 == some .local) = true
  free : (scope.names.all fun y => y.2 != .free || sc0.names.lookup y.1 == some .cell || sc0.names.lookup y.1 == some .free) = true
  len : N'.length = o + fr.length
  sees : ((List.range fr.length).all fun j => match fr[j]? with
    | none => false
    | some y => match N[y]? with
      | none => false
      | some x => N'[o + j]? == some x && scope.names.lookup x == some .free) = true
/-- the reading. W: turn, measure, the items so far, heap -/
def LcR (J : It) (g : TG) (tt : TT) (te : TE) (o : Nat) (fr : List Nat) (σ : St) (H1 : Hp) (Q : VK) : Prop := ∃ W : Nat → Nat → List V → Hp → Prop, (∃ m, W 0 m [] H1) ∧ ∀ i m ys H, W i m ys H →
  (J.stop i H ∧ ys.length ≤ sizeLine ∧ ∀ p, H p = none → Q (.ref p) (upd H p (.lst ys))) ∨
  (J.go i H ∧ ys.length < sizeLine ∧ ∀ x H', J.yld i H x H' → g x (σC o fr σ) H' fun σ2 H2 => tt σ2 H2 fun b H3 => if b = true then te σ2 H3 fun y H4 => ∃ m', m' < m ∧ W (i + 1) m' (ys ++ [y]) H4 else ∃ m', m' < m ∧ W (i + 1) m' ys H3)
def tLc (wi : TI) (g : TG) (tt : TT) (te : TE) (o : Nat) (fr : List Nat) : TE := fun σ H Q => wi σ H fun J H1 => LcR J g tt te o fr σ H1 Q
/-- a target that stores into the own names alone -/
def OwnG (o : Nat) (g : TG) : Prop := ∀ (x : V) (ow fr : St) (H : Hp) (Q : St → Hp → Prop), ow.length = o → g x (ow ++ fr) H Q → g x (ow ++ fr) H fun σ2 H2 => (∃ ow', ow'.length = o ∧ σ2 = ow' ++ fr) ∧ Q σ2 H2
theorem own_name {o i : Nat} (h : i < o) : OwnG o (gName i) := fun x ow fr H Q hl q => ⟨⟨ow.set i (some x), by rw [List.length_set]; exact hl, by rw [List.set_append_left _ _ (by omega)]⟩, q⟩
def OwnGs (o : Nat) (g : TGs) : Prop := ∀ (xs : List V) (ow fr : St) (H : Hp) (Q : St → Hp → Prop), ow.length = o → g xs (ow ++ fr) H Q → g xs (ow ++ fr) H fun σ2 H2 => (∃ ow', ow'.length = o ∧ σ2 = ow' ++ fr) ∧ Q σ2 H2
theorem own_nil {o : Nat} : OwnGs o gNil := fun _ ow _ _ _ hl ⟨e, q⟩ => ⟨e, ⟨ow, hl, rfl⟩, q⟩
theorem own_cons {o i : Nat} {u : TGs} (h : i < o) (h2 : OwnGs o u) : OwnGs o (gCons (gName i) u) := by
  rintro xs ow fr H Q hl ⟨v, r, rfl, q⟩
  refine ⟨v, r, rfl, ?_⟩
  have q' : u r ((ow ++ fr).set i (some v)) H Q := q
  show u r ((ow ++ fr).set i (some v)) H _
  rw [List.set_append_left _ _ (by omega)] at q' ⊢
  exact h2 r (ow.set i (some v)) fr H Q (by rw [List.length_set]; exact hl) q'
theorem own_tup {K : PySem.W.Frag} {o n : Nat} {u : TGs} (h : OwnGs o u) : OwnG o (gTup K n u) := by
  rintro x ow fr H Q hl ⟨a, xs, rfl, hs, hn, q⟩
  exact ⟨a, xs, rfl, hs, hn, h xs ow fr H Q hl q⟩

section
variable {X : Cx} {pins : List (Addr × Obj)} {σ : St} {H : Hp} {s : Shared} {N' : List Str} {o : Nat} {fr : List Nat} {scope : Scope} {fp : List Addr}
abbrev accObj (us : List Value) : Obj := { cls := .type "list", data := .seq us.toArray us.length }
theorem CompScope.nocell' {sc0 : Scope} {N : List Str} (S : CompScope sc0 N N' o fr scope) : ∀ y ∈ scope.names, y.2 ≠ .cell := fun y hy e => by
  have q := List.all_eq_true.mp S.nocell y hy
  rw [e] at q
  exact absurd q (by decide)
theorem CompScope.loc' {sc0 : Scope} {N : List Str} (S : CompScope sc0 N N' o fr scope) : ∀ y ∈ scope.names, y.2 = .local → scope.names.lookup y.1 = some .local := fun y hy e => by
  have q := List.all_eq_true.mp S.loc y hy
  rw [e] at q
  simpa using q
theorem CompScope.free' {sc0 : Scope} {N : List Str} (S : CompScope sc0 N N' o fr scope) (hs : X.env.scope = sc0) : ∀ y ∈ scope.names, y.2 = .free → X.env.kindOf y.1 = some .cell ∨ X.env.kindOf y.1 = some .free := fun y hy e => by
  have q := List.all_eq_true.mp S.free y hy
  rw [e] at q
  show X.env.scope.names.lookup y.1 = _ ∨ X.env.scope.names.lookup y.1 = _
  rw [hs]
  simpa using q
theorem CompScope.sees' {sc0 : Scope} {N : List Str} (S : CompScope sc0 N N' o fr scope) : ∀ j y, fr[j]? = some y → ∃ x, N[y]? = some x ∧ N'[o + j]? = some x ∧ scope.names.lookup x = some .free := fun j y e => by
  have hj : j < fr.length := (List.getElem?_eq_some_iff.mp e).1
  have q := List.all_eq_true.mp S.sees j (List.mem_range.mpr hj)
  rw [e] at q
  dsimp only at q
  cases ex : N[y]? with
  | none => rw [ex] at q; cases q
  | some x =>
    rw [ex] at q
    dsimp only at q
    rw [Bool.and_eq_true, beq_iff_eq, beq_iff_eq] at q
    exact ⟨x, rfl, q.1, q.2⟩
theorem CompScope.cells {sc0 : Scope} {N0 : List Str} (S : CompScope sc0 N0 N' o fr scope) (hs : X.env.scope = sc0) (I : Inv X pins σ H s) : ∀ y ∈ scope.names, y.2 = .free → ∃ c, X.env.cells.lookup y.1 = some c := fun y hy e => I.ok.has y.1 (S.free' hs y hy e)
theorem CompScope.sub {sc0 : Scope} {N0 : List Str} (S : CompScope sc0 N0 N' o fr scope) (hs : X.env.scope = sc0) (I : Inv X pins σ H s) : ∀ x c, (closL X.env.cells scope.names []).lookup x = some c → X.env.cells.lookup x = some c :=
  closL_sub (env := X.env) scope.names [] (S.cells hs I) (fun _ _ z => nomatch z)
/-- the block's entry: the list at D, the block's names at C -/
theorem Inv.block {sc0 : Scope} {N0 : List Str} (S : CompScope sc0 N0 N' o fr scope) (hs : X.env.scope = sc0) (hN : X.N = N0) (I : Inv X pins σ H s) (hf : ∀ b ∈ fp, FpOk X pins H b) (hfl : ∀ b ∈ fp, b < s.heap.objs.size) {h1 : Heap} {C D : Addr} {m : Str → Option Value} {us : List Value} {t : Nat}
    (hC : s.heap.objs.size ≤ C) (hD : s.heap.objs.size ≤ D) (hDC : D ≠ C)
    (old : ∀ b ob, s.heap.get? b = some ob → h1.get? b = some ob) (hn : h1.Ns C m) (ha : h1.get? D = some (accObj us)) : Inv (cxC X N' scope C s H fp) [(D, accObj us)] (σC o fr σ) H { s with heap := h1, toks := t } := by
  have sub := S.sub hs I
  have frC : ∀ b ∈ frs X.stack, b < s.heap.objs.size := fun b hb => by
    obtain ⟨_, ob, ho, _⟩ := I.stack.mem hb
    exact Heap.lt_size ho
  refine ⟨⟨I.ok.mod, S.kind, I.ok.glob, I.ok.blt, hC, fun x y c h1 h2 => I.ok.inj x y c (sub x c h1) (sub y c h2), fun x hx => ?_, fun x c hfx _ => (nomatch hfx), I.ok.hd, I.ok.frames, .inl rfl, fun b hb => ?_, I.bs, Nat.le_trans I.ok.bsz I.sz, fun b ob e hb => ?_, fun b hb hb' => ?_, I.stack, I.stkFree⟩,
    rfl, I.bare, Un.kept old, ⟨m, hn, fun i x v e1 e2 e3 => ?_⟩, fun x c e => ?_, I.hok.fresh hC, fun x c e => I.freeC x c (sub x c e), fun p hp => ?_, I.hok.kept old, ?_⟩
  · have hx' : (relabel scope X.env).names.lookup x = some .cell ∨ (relabel scope X.env).names.lookup x = some .free := hx
    have key : (x, NameKind.free) ∈ scope.names := by
      rcases hx' with z | z
      · rcases lookup_relabel (env := X.env) z (.inl rfl) with q | q
        · exact q
        · exact absurd rfl (S.nocell' _ q)
      · rcases lookup_relabel (env := X.env) z (.inr rfl) with q | q
        · exact q
        · exact absurd rfl (S.nocell' _ q)
    exact Option.isSome_iff_exists.mp (closL_has (cells := X.env.cells) scope.names [] x key)
  · obtain ⟨f0, f1, f2, f3, f4, f5⟩ := hf b hb
    exact ⟨Nat.ne_of_lt (Nat.lt_of_lt_of_le (hfl b hb) hC), fun x c e => f4 x c (sub x c e)⟩
  · obtain ⟨f0, f1, f2, f3, f4, f5⟩ := hf b hb
    rcases f3 with z | z
    · exact I.ok.noex b ob e z
    · exact absurd (Nat.lt_of_lt_of_le (Heap.lt_size e) (Nat.le_trans I.ok.bsz z)) (Nat.lt_irrefl _)
  · obtain ⟨f0, f1, f2, f3, f4, f5⟩ := hf b hb
    rcases List.mem_cons.mp (I.stkSub b hb') with z | z
    · exact f1 z
    · exact f2 z
  · unfold σC at e2
    by_cases hi : i < o
    · rw [List.getElem?_append_left (by rw [List.length_replicate]; exact hi), List.getElem?_replicate, if_pos hi] at e2
      cases e2
    · rw [List.getElem?_append_right (by rw [List.length_replicate]; exact Nat.not_lt.mp hi), List.length_replicate, List.getElem?_map] at e2
      cases hy : fr[i - o]? with
      | none => rw [hy] at e2; cases e2
      | some y =>
        rw [hy] at e2
        have e2' : (σ[y]?).join = some v := Option.some.inj e2
        have e3' : σ[y]? = some (some v) := by
          cases q : σ[y]? with
          | none => rw [q] at e2'; cases e2'
          | some z => rw [q] at e2'; exact congrArg some e2'
        obtain ⟨x', s2, s1, s3⟩ := S.sees' (i - o) y hy
        rw [← hN] at s2
        rw [show o + (i - o) = i by omega] at s1
        have ex : x = x' := by
          have e1' : N'[i]? = some x := e1
          rw [e1'] at s1
          exact Option.some.inj s1
        subst ex
        have hmem := PySem.mem_of_lookup s3
        obtain ⟨m0, _, hl⟩ := I.loc
        have hk := S.free' hs (x, .free) hmem rfl
        obtain ⟨u, ru, lk⟩ := hl y x v s2 e3' (by rcases hk with z | z; exact .inr (.inl z); exact .inr (.inr z))
        refine ⟨u, ru, .inr ⟨relabel_free (env := X.env) s3, ?_⟩⟩
        obtain ⟨c', hc'⟩ := Option.isSome_iff_exists.mp (closL_has (cells := X.env.cells) scope.names [] x hmem)
        refine ⟨c', hc', ?_⟩
        rcases lk with ⟨z, _⟩ | ⟨_, c, e, ob, ho, hd⟩
        · rcases hk with z' | z'
          · rw [z] at z'; cases z'
          · rw [z] at z'; cases z'
        · have ec : c = c' := by
            have := sub x c' hc'
            rw [e] at this
            exact Option.some.inj this
          subst ec
          exact ⟨ob, old _ _ ho, hd⟩
  · obtain ⟨v, ob, ho, hd⟩ := I.cell x c (sub x c e)
    exact ⟨v, ob, old _ _ ho, hd⟩
  · have e : p = (D, accObj us) := by simpa using (show p ∈ ([] : List (Addr × Obj)) ++ [(D, accObj us)] from hp)
    subst e
    refine ⟨ha, I.hok.fresh hD, hDC, fun z => absurd (Nat.lt_of_lt_of_le (frC D z) hD) (Nat.lt_irrefl _), fun v z => nomatch z⟩
  · show (σC o fr σ).length = N'.length
    unfold σC
    rw [List.length_append, List.length_replicate, List.length_map, S.len]
/-- the block's end, seen from the def: the new list is tracked, the block's names are pinned -/
theorem Inv.unblock (I : Inv X pins σ H s) (hf : ∀ b ∈ fp, FpOk X pins H b) {C D : Addr} {us : List Value} {ys : List V} {σ' : St} {H' : Hp} {s' : Shared} (hC : s.heap.objs.size ≤ C) (hD : s.heap.objs.size ≤ D) (hDC : D ≠ C)
    (I' : Inv (cxC X N' scope C s H fp) [(D, accObj us)] σ' H' s') (r : Vals ys us) (hz : ys.length ≤ sizeLine) : ∃ oC m, s'.heap.get? C = some oC ∧ s'.heap.Ns C m ∧ Inv X (pins ++ [(C, oC)]) σ (upd H' D (.lst ys)) s' := by
  obtain ⟨aD, nD, _, _, _⟩ := I'.pin (D, accObj us) (by simp)
  have aD : s'.heap.get? D = some (accObj us) := aD
  have nD : H' D = none := nD
  have un : Un (frs X.stack) fp H H' s.heap s'.heap := I'.base
  have lt : ∀ b u, H b = some u → b ≠ D := fun b u e => Nat.ne_of_lt (Nat.lt_of_lt_of_le (I.hok.lt e) hD)
  have un2 : Un (frs X.stack) fp H (upd H' D (.lst ys)) s.heap s'.heap := by
    refine ⟨un.keep, un.slot, fun b ob e n hx => ?_, un.there, fun b xs e => ?_, fun b ob u e => ?_, fun b ps e => ?_⟩
    · rw [upd_ne (Nat.ne_of_lt (Nat.lt_of_lt_of_le (Heap.lt_size e) hD))]
      exact un.free b ob e n hx
    · rw [upd_ne (lt b _ e)]; exact un.tups b xs e
    · rw [upd_ne (lt b _ e)]; exact un.frzs b ob u e
    · obtain ⟨more, q⟩ := un.tbls b ps e
      exact ⟨more, by rw [upd_ne (lt b _ e)]; exact q⟩
  have hok : HOk X.prog X.w (upd H' D (.lst ys)) s'.heap := fun b u e => by
    by_cases hb : b = D
    · subst hb
      rw [upd_same] at e
      cases e
      exact ⟨hz, us, us.length, r, aD⟩
    · rw [upd_ne hb] at e
      exact (I'.hok b u e).stay (fun c v _ q => q) (fun c q => by rw [upd_ne (ne_of_none q nD)]; exact q) fun c xs q => by rw [upd_ne (ne_of_none q nD)]; exact q
  have os : s'.os = s.os := I'.os
  have J : Inv X pins σ (upd H' D (.lst ys)) s' := I.call' (ch := fp) os un2 hok I'.bare fun b hb => by
    obtain ⟨f0, f1, f2, f3, f4, f5⟩ := hf b hb
    exact ⟨f3, f1, f4, f5⟩
  obtain ⟨m, hn, _⟩ := I'.loc
  have hn : s'.heap.Ns C m := hn
  obtain ⟨oC, es, ep, hoC, hdC, _⟩ := id hn
  refine ⟨oC, m, hoC, hn, J.pins_of fun p hp => ?_⟩
  rcases List.mem_append.mp hp with z | z
  · exact J.pin p (List.mem_append_right _ z)
  · have e : p = (C, oC) := by simpa using z
    subst e
    have nC : H' C = none := I'.free
    refine ⟨hoC, by rw [upd_ne (Ne.symm hDC)]; exact nC, Nat.ne_of_gt (Nat.lt_of_lt_of_le I.lt hC), I.nofs hC, fun v z => ?_⟩
    have z' : oC.data = .cell v := z
    rw [hdC] at z'
    cases z'
end

section
variable {X : Cx} {N' : List Str} {o : Nat} {fr : List Nat} {scope : Scope} {elt tg iter : Expr} {ifs : List Expr} {pos : Pos} {wi : TI} {g : TG} {tt : TT} {te : TE}
/-- a comprehension runs; use: what is done with the list while the block's names still stand -/
theorem lc_run (hc : X.calm = true) {sc0 : Scope} {N0 : List Str} (S : CompScope sc0 N0 N' o fr scope) (hi : PI X tg iter wi) (ho : OwnG o g)
    (hg : ∀ (C : Addr) (s : Shared) (H : Hp) (fp : List Addr), PG (cxC X N' scope C s H fp) tg g)
    (ht : ∀ (C : Addr) (s : Shared) (H : Hp) (fp : List Addr), PTs (cxC X N' scope C s H fp) ifs tt)
    (he : ∀ (C : Addr) (s : Shared) (H : Hp) (fp : List Addr), PE (cxC X N' scope C s H fp) elt te)
    (hs : ∀ x, foldedSetIterable iter X.env x = pure x) (hsc : X.env.scope = sc0) (hN0 : X.N = N0) {pins : List (Addr × Obj)} {s : Shared} {σ : St} {H : Hp} {Qv : VK} (I : Inv X pins σ H s) (h : tLc wi g tt te o fr σ H Qv)
    {use : Option (Value → Sem Unit)} {Q : Value → Shared → Prop} {E : Value → Shared → Prop}
    (hE : ∀ e s', X.xe e s' → E e s')
    (fin : ∀ (C oC D : _) (m : Str → Option Value) (H' : Hp) (ys : List V) (s' : Shared), Inv X (pins ++ [(C, oC)]) σ (upd H' D (.lst ys)) s' → Qv (.ref D) (upd H' D (.lst ys)) → s'.heap.Ns C m → H' C = none → C ≠ D →
      C ≠ X.env.locals → X.s₀.heap.objs.size ≤ C → (∀ x c, X.env.cells.lookup x = some c → c ≠ C) → (∀ p ∈ X.pn ++ pins, p.1 ≠ C) → compPost (model X.prog X.w) X.A E use Q (.ref D) C (.ok .next) s') :
    wpAny (model X.prog X.w) X.A (comprehension (.ListComp elt [⟨tg, iter, ifs, 0⟩] scope pos) scope X.env (firstIterPos [⟨tg, iter, ifs, 0⟩] pos) (newList []) false (eval iter X.env) use) Q E s := by
  refine wpAny_comprehension_free (use := use) rfl hs (closure_of (S.cells hsc I)) S.kind S.loc' (wpAny_mono (hi pins s σ H _ I h) (fun xv s1 h1 => wpAny_mono h1 (fun itv s2 h2 => ?_) hE) hE)
  obtain ⟨it, fp, tn, J, H2, rfl, I2, T, st2, f2, W, ⟨m0, w0⟩, turn⟩ := h2
  have hfl : ∀ b ∈ fp, b < s2.heap.objs.size := fun b hb => by
    obtain ⟨ob, e, _⟩ := T.obj 0 _ st2 b hb
    exact Heap.lt_size e
  refine wpAny_newObj_type (wpAny_newFunctionEnv S.nocell' (by intro y hy; simp at hy) (fun h1 hns1 hsb1 => ?_) S.kind)
  dsimp only at hns1 hsb1 ⊢
  generalize hH2 : s2.heap.push { cls := .type "list", dict := none, data := .seq ([] : List Value).toArray } = G at hns1 hsb1 ⊢
  have hCe : G.objs.size = s2.heap.objs.size + 1 := by rw [← hH2, Heap.size_push]
  have hC : s2.heap.objs.size ≤ G.objs.size := by rw [hCe]; exact Nat.le_succ _
  have hDC : s2.heap.objs.size ≠ G.objs.size := by rw [hCe]; exact Nat.ne_of_lt (Nat.lt_succ_self _)
  have old : ∀ b ob, s2.heap.get? b = some ob → h1.get? b = some ob := fun b ob e =>
    hsb1.extBut b ob (Nat.ne_of_lt (Nat.lt_of_lt_of_le (Heap.lt_size e) hC)) (Heap.get?_push_of_some _ (hH2 ▸ Heap.get?_push_of_some _ e))
  have hacc : h1.get? s2.heap.objs.size = some (accObj []) := hsb1.extBut _ _ hDC (Heap.get?_push_of_some _ (hH2 ▸ Heap.get?_push_size _ rfl))
  have st1 : tn 0 h1 := T.keep _ _ _ st2 fun b _ ob e => old b ob e
  have fpC : ∀ {us : List Value} {H' : Hp}, (∀ b ∈ fp, H' b = none) → ∀ b ∈ fp, FpOk (cxC X N' scope G.objs.size s2 H2 fp) [(s2.heap.objs.size, accObj us)] H' b := fun {us H'} hn b hb => by
    obtain ⟨f0, f1, f3, f4, f5, f6⟩ := f2 b hb
    refine ⟨hn b hb, Nat.ne_of_lt (Nat.lt_of_lt_of_le (hfl b hb) hC), fun z => ?_, .inl hb, fun x c e => f5 x c (S.sub hsc I2 x c e), fun p hp => ?_⟩
    · rcases List.mem_cons.mp (I2.stkSub b z) with q | q
      · exact f1 q
      · exact f3 q
    · have e : p = (s2.heap.objs.size, accObj us) := by simpa using (show p ∈ ([] : List (Addr × Obj)) ++ [(s2.heap.objs.size, accObj us)] from hp)
      subst e
      exact Nat.ne_of_gt (hfl b hb)
  have loop : ∀ s3 : Shared, s3 = { s2 with heap := h1, toks := s2.toks + ([] : List (Str × Value)).length } →
      codeAny (model X.prog X.w) X.A (.compLoop (.ListComp elt [⟨tg, iter, ifs, 0⟩] scope pos) 0 (.ref it) (.ref s2.heap.objs.size) (compEnvC scope (closL X.env.cells scope.names []) G.objs.size X.env))
        (compPost (model X.prog X.w) X.A E use Q (.ref s2.heap.objs.size) G.objs.size) s3 := by
    rintro s3 rfl
    refine compLoop_any (fun n s' => ∃ i σ' H' ys us, Inv (cxC X N' scope G.objs.size s2 H2 fp) [(s2.heap.objs.size, accObj us)] σ' H' s' ∧ σ' = σC o fr σ ∧ Vals ys us ∧ tn i s'.heap ∧ (∀ b ∈ fp, H' b = none) ∧ W i n ys H') ?_ m0
      ⟨0, _, H2, [], [], I2.block S hsc hN0 f2 hfl hC (Nat.le_refl _) hDC old hns1 hacc, rfl, .nil, st1, fun b hb => (f2 b hb).1, w0⟩
    rintro n s' ⟨i, σ', H', ys, us, I', rfl, rv, st', fr', w'⟩
    rcases turn i n ys H' w' with ⟨stop, hz, q⟩ | ⟨go, hz, step⟩
    · refine thn (T.done (cxC X N' scope G.objs.size s2 H2 fp) rfl rfl rfl hc i _ s' _ H' _ I' (fpC fr') st' stop) fun r s4 ⟨hr, I4⟩ => ?_
      subst hr
      obtain ⟨oC, m, hoC, hn, J4⟩ := I2.unblock f2 hC (Nat.le_refl _) hDC I4 rv hz
      exact fin _ oC _ m H' ys s4 J4 (q _ (I4.pin (s2.heap.objs.size, accObj us) (by simp)).2.1) hn I4.free (Ne.symm hDC) (Nat.ne_of_gt (Nat.lt_of_lt_of_le I2.lt hC)) (Nat.le_trans I2.sz hC)
        (fun x c e => by obtain ⟨v, z⟩ := I2.cell x c e; exact Nat.ne_of_lt (Nat.lt_of_lt_of_le z.lt hC)) fun p hp => Nat.ne_of_lt (Nat.lt_of_lt_of_le (Heap.lt_size (I2.pin p hp).1) hC)
    · refine thn (T.item (cxC X N' scope G.objs.size s2 H2 fp) rfl rfl rfl hc i _ s' _ H' _ I' (fpC fr') st' go) fun r s4 ⟨u, hr, h4⟩ => ?_
      subst hr
      refine thn h4 fun _ s5 ⟨x, H5, I5, r5, y5, st5, fr5⟩ => ?_
      have hst := step x H5 y5
      have hst' := ho x (List.replicate o none) (fr.map fun j => (σ[j]?).join) H5 _ (List.length_replicate ..) hst
      -- the iterator's records are pinned while the block's own code runs
      have I5' := I5.pinned (fpC (us := us) fr5) (T.obj _ _ st5)
      refine thn (hg _ _ _ _ _ s5 _ H5 x u _ I5' r5 hst') fun _ s6 ⟨σ6, H6, I6, ⟨ow, hol, e6⟩, q6⟩ => ?_
      subst e6
      refine thn (ht _ _ _ _ _ s6 _ H6 _ I6 q6) fun b s7 ⟨H7, I7, q7⟩ => ?_
      have back : ∀ {us' : List Value} {σ8 : St} {H8 : Hp} {s8 : Shared}, Inv (cxC X N' scope G.objs.size s2 H2 fp) ([(s2.heap.objs.size, accObj us')] ++ pinsAt fp s5.heap) (ow ++ fr.map fun j => (σ[j]?).join) H8 s8 →
          Inv (cxC X N' scope G.objs.size s2 H2 fp) [(s2.heap.objs.size, accObj us')] (σC o fr σ) H8 s8 ∧ tn (i + 1) s8.heap ∧ ∀ b ∈ fp, H8 b = none := fun {us' σ8 H8 s8} I8 => by
        refine ⟨I8.unpinned.weak ?_ fun j v e => ?_, T.keep _ _ _ st5 fun b hb ob e => (I8.pin (b, ob) (List.mem_append_right _ (List.mem_append_right _ (mem_pinsAt hb e)))).1, fun b hb => ?_⟩
        · unfold σC
          rw [List.length_append, List.length_append, List.length_replicate, hol]
        · unfold σC at e
          by_cases hj : j < o
          · rw [List.getElem?_append_left (by rw [List.length_replicate]; exact hj), List.getElem?_replicate, if_pos hj] at e
            cases e
          · rw [List.getElem?_append_right (by rw [List.length_replicate]; exact Nat.not_lt.mp hj), List.length_replicate] at e
            rw [List.getElem?_append_right (by rw [hol]; exact Nat.not_lt.mp hj), hol]
            exact e
        · obtain ⟨ob, e, _⟩ := T.obj _ _ st5 b hb
          exact (I8.pin (b, ob) (List.mem_append_right _ (List.mem_append_right _ (mem_pinsAt hb e)))).2.1
      cases b with
      | false =>
        rw [if_neg Bool.false_ne_true] at q7 ⊢
        obtain ⟨m', hm, w7⟩ := q7
        obtain ⟨I8, st8, fr8⟩ := back (us' := us) (σ8 := []) I7
        exact ⟨m', hm, i + 1, _, H7, ys, us, I8, rfl, rv, st8, fr8, w7⟩
      | true =>
        rw [if_pos rfl] at q7 ⊢
        refine thn (he _ _ _ _ _ s7 _ H7 _ I7 q7) fun y s8 ⟨yv, H8, I8, r8, m', hm, w8⟩ => ?_
        obtain ⟨aD, nD, _, _, _⟩ := I8.pin (s2.heap.objs.size, accObj us) (by simp)
        have aD : s8.heap.get? s2.heap.objs.size = some (accObj us) := aD
        have nD : H8 s2.heap.objs.size = none := nD
        have hul : us.length ≤ sizeLine := by rw [← rv.length]; exact Nat.le_of_lt hz
        refine append_at (hsz := by show us.toArray.size ≤ sizeLine; rw [List.size_toArray]; exact hul) aD fun h9 hs9 hD9 => ?_
        have hD9' : h9.get? s2.heap.objs.size = some (accObj (us ++ [y])) := by
          rw [hD9]
          show some ({ cls := .type "list", data := .seq (us.toArray.push y) (us.length + 1) } : Obj) = some { cls := .type "list", data := .seq (us ++ [y]).toArray (us ++ [y]).length }
          rw [List.length_append, List.length_singleton, List.push_toArray]
        have I9 : Inv (cxC X N' scope G.objs.size s2 H2 fp) (pinsAt fp s5.heap) (ow ++ fr.map fun j => (σ[j]?).join) H8 { s8 with heap := h9 } :=
          (I8.pins_of (pins' := pinsAt fp s5.heap) fun p hp => I8.pin p (List.mem_append_right _ (List.mem_append_right _ hp))).turned (t' := s8.toks) (it := s2.heap.objs.size) (fun b ob hb e => hs9.extBut b ob hb e) nD hDC (.inr (Nat.le_refl _))
            (fun x c e => by
              obtain ⟨v, z⟩ := I2.cell x c (S.sub hsc I2 x c e)
              exact Nat.ne_of_lt z.lt)
            fun p hp => by
              obtain ⟨hb, _⟩ := of_pinsAt (show p ∈ pinsAt fp s5.heap from by simpa [cxC] using hp)
              exact Nat.ne_of_lt (hfl p.1 hb)
        have I9' : Inv (cxC X N' scope G.objs.size s2 H2 fp) ([(s2.heap.objs.size, accObj (us ++ [y]))] ++ pinsAt fp s5.heap) (ow ++ fr.map fun j => (σ[j]?).join) H8 { s8 with heap := h9 } :=
          I9.pins_of fun p hp => by
            rcases List.mem_append.mp hp with z | z
            · have e : p = (s2.heap.objs.size, accObj (us ++ [y])) := by simpa using z
              subst e
              refine ⟨hD9', nD, hDC, fun z => ?_, fun v z => nomatch z⟩
              obtain ⟨_, ob, hob, _⟩ := I2.stack.mem z
              exact Nat.lt_irrefl _ (Heap.lt_size hob)
            · exact I9.pin p (List.mem_append_right _ z)
        obtain ⟨I10, st10, fr10⟩ := back (us' := us ++ [y]) (σ8 := []) I9'
        exact ⟨m', hm, i + 1, _, H8, ys ++ [yv], us ++ [y], I10, rfl, Vals.append rv (.cons r8 .nil), st10, fr10, w8⟩
  exact codeAny_compStart_list (loop _ rfl) (T.self _ 0 _ _ _ st1 (loop _ rfl))

/-- [elt for tg in iter if ..] -/
theorem pe_lc (hc : X.calm = true) {sc0 : Scope} {N0 : List Str} (S : CompScope sc0 N0 N' o fr scope) (hi : PI X tg iter wi) (ho : OwnG o g)
    (hg : ∀ (C : Addr) (s : Shared) (H : Hp) (fp : List Addr), PG (cxC X N' scope C s H fp) tg g)
    (ht : ∀ (C : Addr) (s : Shared) (H : Hp) (fp : List Addr), PTs (cxC X N' scope C s H fp) ifs tt)
    (he : ∀ (C : Addr) (s : Shared) (H : Hp) (fp : List Addr), PE (cxC X N' scope C s H fp) elt te)
    (hs : ∀ x, foldedSetIterable iter X.env x = pure x := by intro _; rfl) (hsc : X.env.scope = sc0 := by rfl) (hN0 : X.N = N0 := by rfl) : PE X (.ListComp elt [⟨tg, iter, ifs, 0⟩] scope pos) (tLc wi g tt te o fr) := by
  intro pins s σ H Q I h
  rw [eval_ListComp]
  refine lc_run hc S hi ho hg ht he hs hsc hN0 I h (use := none) (fun _ _ z => z) fun C oC D m H' ys s' J q hn nC hCD hCL hCs hCc hCp => ?_
  refine ⟨m, hn, fun h' hs' => ⟨.ref D, upd H' D (.lst ys), ?_, rfl, q⟩⟩
  refine J.unpinned.turned (t' := s'.toks) (it := C) (fun b ob hb e => hs'.extBut b ob hb e) (by rw [upd_ne hCD]; exact nC) hCL (.inr hCs) hCc hCp
/-- name = [elt for tg in iter if ..], where the name is stored while the block's names still stand -/
theorem ps_lc {i : Nat} {x : Str} {px : Pos} {spos : Pos} (hc : X.calm = true) (hN : X.N.Nodup) (hx : X.N[i]? = some x) (hl : X.env.kindOf x = some .local) {sc0 : Scope} {N0 : List Str} (S : CompScope sc0 N0 N' o fr scope) (hi : PI X tg iter wi) (ho : OwnG o g)
    (hg : ∀ (C : Addr) (s : Shared) (H : Hp) (fp : List Addr), PG (cxC X N' scope C s H fp) tg g)
    (ht : ∀ (C : Addr) (s : Shared) (H : Hp) (fp : List Addr), PTs (cxC X N' scope C s H fp) ifs tt)
    (he : ∀ (C : Addr) (s : Shared) (H : Hp) (fp : List Addr), PE (cxC X N' scope C s H fp) elt te)
    (hs : ∀ x, foldedSetIterable iter X.env x = pure x := by intro _; rfl) (hsc : X.env.scope = sc0 := by rfl) (hN0 : X.N = N0 := by rfl)
    (hsw : swapsWith (.ListComp elt [⟨tg, iter, ifs, 0⟩] scope pos) (some (.Name x px)) spos.line X.env = pure true := by rfl) :
    PS X (.Assign [.Name x px] (.ListComp elt [⟨tg, iter, ifs, 0⟩] scope pos) spos) (tAsg (tLc wi g tt te o fr) (gName i)) := by
  intro pins s σ H D I h
  rw [exec_Assign_Name_used _ _ _ _ hsw]
  refine wpAny_bind (wpAny_standAt (wpAny_bind ?_))
  show wpAny _ X.A (do let _ ← comprehension (.ListComp elt [⟨tg, iter, ifs, 0⟩] scope pos) scope X.env (firstIterPos [⟨tg, iter, ifs, 0⟩] pos) (newList []) false (eval iter X.env) (some (assign (.Name x px) X.env))) _ _ s
  refine wpAny_bind (wpAny_mono (lc_run (Q := fun _ s' => SP X pins D .next s') hc S hi ho hg ht he hs hsc hN0 I h (use := some (assign (.Name x px) X.env)) (fun _ _ z => z) fun C oC Dd m H' ys s' J q hn nC hCD hCL hCs hCc hCp => ?_) (fun _ s' hq => wpAny_pure (wpAny_pure hq)) fun _ _ e => e)
  show wpAny _ X.A (assign (.Name x px) X.env (.ref Dd)) _ _ _
  refine wpAny_assign_Name (store_ok J hN hx (.inl hl) (v := .ref Dd) rfl (fun s2 I2 => ?_) (.inr hl))
  have g1 := (I2.pin (C, oC) (by simp)).1
  have g1 : s2.heap.get? C = some oC := g1
  have n2 : s2.heap.Ns C m := by
    obtain ⟨oc, es, ep, e, r⟩ := hn
    have e0 := (J.pin (C, oC) (by simp)).1
    have e0 : s'.heap.get? C = some oC := e0
    rw [e] at e0
    cases e0
    exact ⟨_, es, ep, g1, r⟩
  refine ⟨m, n2, fun h' hs' => ⟨_, upd H' Dd (.lst ys), ?_, q⟩⟩
  exact I2.unpinned.turned (t' := s2.toks) (it := C) (fun b ob hb e => hs'.extBut b ob hb e) (by rw [upd_ne hCD]; exact nC) hCL (.inr hCs) hCc hCp
end
end L2

/-! ## more rules over the layer: range as a value, sum, set, enumerate, dict methods, deep == -/
namespace L2
open PySem PySem.Spec PyProof.Rows
section
variable {X : Cx}
theorem vals_two : ∀ {x y : V} {us : List Value}, Vals [x, y] us → ∃ u v, us = [u, v] ∧ RelV x u ∧ RelV y v
  | _, _, _, .cons r (.cons r' .nil) => ⟨_, _, rfl, r, r'⟩
theorem ints_of_vals : ∀ {ns : List Int} {us : List Value}, Vals (ns.map V.int) us → IntsAre us ns
  | [], _, .nil => .nil
  | n :: ns, _, .cons r t => by
    obtain ⟨tk, rfl⟩ := r
    exact .cons n tk (ints_of_vals t)
/-! ### range(..) as an object -/
theorem call_rng1 : CallR X (.type "range") (fun xs H Q => ∃ j : Int, xs = [.int j] ∧ ∀ p, H p = none → Q (.ref p) (upd H p (.rng 0 j))) := by
  intro pins s σ H xs us Q I r h
  obtain ⟨j, rfl, q⟩ := h
  obtain ⟨u, rfl, t, rfl⟩ := vals1 r
  refine call_range_1 ?_
  exact ⟨.ref s.heap.objs.size, _, I.laid (o := .rng 0 j) (fun b u e => Heap.get?_push_of_some _ e) (Nat.le_refl _) ⟨_, _, _, Heap.get?_push_size _ rfl⟩, rfl, q _ (I.hok.fresh (Nat.le_refl _))⟩
/-- lo, lo + 1, .. below hi -/
def rngI (lo hi : Int) : List Int := (List.range (hi - lo).toNat).map fun (i : Nat) => lo + (i : Int)
theorem rngI_length (lo hi : Int) : (rngI lo hi).length = (hi - lo).toNat := by unfold rngI; rw [List.length_map, List.length_range]
theorem vals_rng {lo : Int} {n : Nat} : ∀ {us : List Value}, us.length = n → (∀ (j : Nat) (v : Value), us[j]? = some v → ∃ t, v = Value.int (lo + (j : Int)) t) → Vals (((List.range n).map fun (i : Nat) => lo + (i : Int)).map V.int) us := by
  induction n generalizing lo with
  | zero =>
    intro us h _
    rw [List.length_eq_zero_iff.mp h]
    exact .nil
  | succ n ih =>
    intro us h hv
    cases us with
    | nil => cases h
    | cons u us =>
      rw [List.range_succ_eq_map, List.map_cons, List.map_cons]
      refine .cons ?_ ?_
      · obtain ⟨t, e⟩ := hv 0 u rfl
        exact ⟨t, e⟩
      · have q := ih (lo := lo + 1) (us := us) (Nat.succ.inj h) fun j v e => by
          obtain ⟨t, e'⟩ := hv (j + 1) v (by simpa using e)
          refine ⟨t, ?_⟩
          rw [e']
          congr 1
          omega
        have e : (List.range n).map (fun (i : Nat) => lo + 1 + (i : Int)) = ((List.range n).map Nat.succ).map (fun (i : Nat) => lo + (i : Int)) := by
          rw [List.map_map]
          refine List.map_congr_left fun i _ => ?_
          show lo + 1 + (i : Int) = lo + ((i + 1 : Nat) : Int)
          omega
        rw [e] at q
        exact q
theorem call_list_rng (hc : X.calm = true) : CallR X (.type "list") (fun xs H Q => ∃ p lo hi, xs = [.ref p] ∧ H p = some (.rng lo hi) ∧ (-(2 ^ 62) ≤ lo ∧ lo < 2 ^ 62 ∧ -(2 ^ 62) ≤ hi ∧ hi < 2 ^ 62) ∧ (hi - lo).toNat ≤ 16777216 ∧
    ∀ l, H l = none → Q (.ref l) (upd H l (.lst ((rngI lo hi).map V.int)))) := by
  intro pins s σ H xs us Q I r h
  obtain ⟨p, lo, hi, rfl, hp, ⟨b1, b2, b3, b4⟩, hz, q⟩ := h
  obtain ⟨u, rfl, ru⟩ := vals1 r
  obtain rfl : u = Value.ref p := ru
  obtain ⟨t, u, v, e⟩ := (show ObjOk X.prog X.w H s.heap p (.rng lo hi) from I.hok p _ hp)
  have hn : Builtin.Range.rangeSize lo hi 1 = (((hi - lo).toNat : Nat) : Int) := by rw [rangeSize_one]; split <;> omega
  refine call_list_range (I.ok.hd hc) (t := t) (u := u) (v := v) e (small_one b1 b2 b3 b4) hn hz fun h' tk acc c' hk hS ha => ?_
  have hl : acc.toList.length = (hi - lo).toNat := by rw [Array.length_toList]; exact ha.1
  have rv : Vals ((rngI lo hi).map V.int) acc.toList := vals_rng (lo := lo) hl fun j w ew => by
    obtain ⟨t, e⟩ := ha.2 j w (by simpa using ew)
    exact ⟨t, by rw [e, Int.mul_one]⟩
  refine ⟨.ref s.heap.objs.size, _, I.laid (o := .lst ((rngI lo hi).map V.int)) hk (Nat.le_refl _) ⟨?_, acc.toList, c', rv, ?_⟩, rfl, q _ (I.hok.fresh (Nat.le_refl _))⟩
  · rw [List.length_map, rngI_length]
    have : sizeLine = 16777216 := sizeLine_eq
    omega
  · rw [hS]
/-! ### sum of ints -/
theorem call_sum_ints (hc : X.calm = true) : CallR X (.builtin "sum") (fun xs H Q => ∃ (p : Addr) (ns : List Int), xs = [.ref p] ∧ SqL X.K H p (ns.map V.int) ∧ Q (.int ns.sum) H) := by
  intro pins s σ H xs us Q I r h
  obtain ⟨p, ns, rfl, hq, q⟩ := h
  obtain ⟨u, rfl, ru⟩ := vals1 r
  obtain rfl : u = Value.ref p := ru
  obtain ⟨its, rv, pl, hz⟩ := I.list hq
  have hi := ints_of_vals rv
  have hall := hi.allInts
  obtain ⟨xs, ex⟩ := hall.items
  have hl := pl.isList
  rw [ex] at hl
  refine sum_intListG (I.ok.hd hc) hl fun h' tk t' hk => ?_
  have e1 : preSum (numAt xs) xs.size = ns.sum := by
    have e2 := hi.numsOf
    rw [show its = its.toArray.toList from rfl, ex, nums_intItems] at e2
    rw [preSum_eq, List.take_of_length_le (by simp), ← e2]
  exact ⟨.int ns.sum, H, I.kept hk, ⟨t', by rw [e1]⟩, q⟩
/-! ### set(list of ints), its length -/
def seen (ns : List Int) : List Int := firstMet (fun i => ns.getD i 0) ns.length
/-! ### isinstance against a built-in type -/
theorem call_isi {T : String} : CallR X (.builtin "isinstance") (fun xs H Q => ∃ x t b, xs = [x, .ty T] ∧ TyOf X.K H x t ∧ PySem.W.kitOne X.K t (.type T) = some b ∧ Q (.bl b) H) := by
  intro pins s σ H xs us Q I r h
  obtain ⟨x, t, b, rfl, ty, e, q⟩ := h
  obtain ⟨u, v, rfl, ru, rv⟩ := vals_two r
  obtain rfl : v = Value.type T := rv
  exact isinst_ok I ru ty e fun tk => ⟨.bl b, H, I.tok tk, rfl, q⟩
/-! ### for i, x in enumerate(list) -/
/-- at turn i: a new pair (i, the list's i-th) -/
def Ite (K : PySem.W.Frag) (a : Addr) : It :=
  ⟨fun i H => ∃ xs x, SqL K H a xs ∧ xs[i]? = some x, fun i H v H' => ∃ T x, H T = none ∧ v = .ref T ∧ H' = upd H T (.tup [.int i, x]) ∧ ∀ xs, SqL K H a xs → xs[i]? = some x, fun i H => ∃ xs, SqL K H a xs ∧ xs.length ≤ i⟩
def iEnum (K : PySem.W.Frag) (ta : TA) : TI := fun σ H R => ta σ H fun vs H1 => ∃ a, vs = [.ref a] ∧ (∃ xs, SqL K H1 a xs) ∧ R (Ite K a) H1
theorem turn_enum {P : Program} {w : World} {K : PySem.W.Frag} {elts : List Expr} {x1 : Nat} {pos : Pos} (a e it : Addr) (hne : e ≠ it) : Turn P w K (.Tuple elts x1 pos) (Ite K a) [e, it] e (fun i h => (∃ old, IsEnum h e it i old) ∧ h.IsListIter it a i) where
  mem := by simp
  obj := fun i h st b hb => by
    obtain ⟨⟨old, he⟩, o, eo, c, d⟩ := st
    rcases List.mem_cons.mp hb with z | hb
    · subst z
      exact ⟨_, he, fun v z => by
        have z' : Data.fields _ = Data.cell v := z
        cases z'⟩
    · have z : b = it := by simpa using hb
      subst z
      exact ⟨o, eo, fun v z => by rw [d] at z; cases z⟩
  keep := fun i h h' st k => by
    obtain ⟨⟨old, he⟩, hit⟩ := st
    exact ⟨⟨old, k e (by simp) _ he⟩, hit.at fun o x => k it (by simp) o x⟩
  item := by
    intro X hP hw hK hc i pins s σ H E I hf st hg
    subst hP hw hK
    obtain ⟨xs, x, hq, hx⟩ := hg
    obtain ⟨⟨old, he⟩, hit⟩ := st
    obtain ⟨its, rv, p, hz⟩ := I.list hq
    obtain ⟨u, hu, ru⟩ := rv.get hx
    obtain ⟨f0, f1, f2, f3, f4, f5⟩ := hf e (by simp)
    obtain ⟨g0, g1, g2, g3, g4, g5⟩ := hf it (by simp)
    have hT0 : H s.heap.objs.size = none := I.hok.fresh (Nat.le_refl _)
    refine wpAny_pyNext_enum_item he hit p.isList (x := u) (by simpa using hu) hne fun h' ho hit' hT hsz hk => ?_
    have ltT : ∀ b ob, s.heap.get? b = some ob → b ≠ s.heap.objs.size := fun b ob z => Nat.ne_of_lt (Heap.lt_size z)
    have ltH : ∀ b ob, H b = some ob → b ≠ s.heap.objs.size := fun b ob z => Nat.ne_of_lt (I.hok.lt z)
    have nof : ∀ b ob, H b = some ob → b ≠ e ∧ b ≠ it := fun b ob z => ⟨fun q => (by rw [q, f0] at z; cases z), fun q => (by rw [q, g0] at z; cases z)⟩
    have I1 : Inv X pins σ (upd H s.heap.objs.size (.tup [.int i, x])) { s with heap := h', toks := s.toks + 1 } := by
      refine I.step (g' := s.gens) (d' := s.drawn) (ch := [e, it]) (fun b hb => ?_) (fun b o _ _ hcx z _ => hk b o (fun q => hcx (by simp [q])) (fun q => hcx (by simp [q])) z) (fun b o _ _ hcx z _ => ⟨o.slots, hk b o (fun q => hcx (by simp [q])) (fun q => hcx (by simp [q])) z⟩)
        (fun b o _ z n => by rw [upd_ne (ltT b o z)]; exact n) (fun b o hcx z => ⟨o, hk b o (fun q => hcx (by simp [q])) (fun q => hcx (by simp [q])) z⟩) (fun b ys z => by rw [upd_ne (ltH b _ z)]; exact z) (fun b o v z => by rw [upd_ne (ltH b _ z)]; exact z)
        (fun b ps z => ⟨#[], by rw [upd_ne (ltH b _ z), z]; simp⟩) (fun m hm => ?_) (fun b v z => ?_) I.bare
      · rcases List.mem_cons.mp hb with q | hb
        · rw [q]; exact ⟨f3, f1, f4, f5⟩
        · have q : b = it := by simpa using hb
          rw [q]; exact ⟨g3, g1, g4, g5⟩
      · obtain ⟨o, es, ep, ho', r⟩ := hm
        exact ⟨o, es, ep, hk _ o (Ne.symm f1) (Ne.symm g1) ho', r⟩
      · by_cases hb : b = s.heap.objs.size
        · subst hb
          rw [upd_same] at z
          cases z
          exact ⟨by show 2 ≤ sizeLine; decide, [.int i s.toks, u], .cons ⟨_, rfl⟩ (.cons ru .nil), ⟨_, hT, rfl, _, rfl⟩⟩
        · rw [upd_ne hb] at z
          refine (I.hok b v z).stay (fun c w' hc' q => ?_) (fun c q => by rw [upd_ne (ltH c _ q)]; exact q) fun c ys q => by rw [upd_ne (ltH c _ q)]; exact q
          rcases hc' with rfl | hc'
          · exact hk c w' (nof c _ z).1 (nof c _ z).2 q
          · exact hk c w' (nof c _ hc').1 (nof c _ hc').2 q
    refine ⟨_, rfl, wpAny_letOwnedTupleGo_enum ho fun h2 he2 hs2 => ?_⟩
    have fT : e ≠ s.heap.objs.size := ltT e _ he
    have I2 : Inv X pins σ (upd H s.heap.objs.size (.tup [.int i, x])) { s with heap := h2, toks := s.toks + 1 } := Inv.turned (s := { s with heap := h', toks := s.toks + 1 }) (h' := h2) (t' := s.toks + 1) (it := e) I1 (fun b o hb z => hs2.extBut b o hb z) (by rw [upd_ne fT]; exact f0) f1 f3 f4 f5
    refine ⟨.ref s.heap.objs.size, _, I2, rfl, ⟨_, x, hT0, rfl, rfl, fun ys hy => by rw [I.list_inj hy hq]; exact hx⟩, ⟨⟨u, by simpa using he2⟩, hit'.at fun o z => hs2.extBut it o (Ne.symm hne) z⟩, fun b hb => ?_⟩
    rcases List.mem_cons.mp hb with q | hb
    · rw [q, upd_ne fT]; exact f0
    · have q : b = it := by simpa using hb
      obtain ⟨o, eo, _⟩ := hit
      rw [q, upd_ne (ltT it o eo)]; exact g0
  done := by
    intro X hP hw hK hc i pins s σ H E I hf st hg
    subst hP hw hK
    obtain ⟨xs, hq, hx⟩ := hg
    obtain ⟨⟨old, he⟩, hit⟩ := st
    obtain ⟨its, rv, p, hz⟩ := I.list hq
    obtain ⟨g0, g1, g2, g3, g4, g5⟩ := hf it (by simp)
    have hl := rv.length
    exact wpAny_pyNext_enum_end (I.ok.hd hc) he hit p.isList (by simp; omega) fun h' eb => ⟨rfl, I.turned (t' := s.toks) (it := it) (fun b o hb z => eb b o hb z) g0 g1 g3 g4 g5⟩
  self := fun _ _ _ _ _ st h => let ⟨⟨_, he⟩, _⟩ := st; wpAny_pyIter_enum he h
theorem pi_enum {elts : List Expr} {x1 : Nat} {tpos : Pos} {a : Expr} {ta : TA} {p pos : Pos} (hg : Gl X "enumerate") (hm : X.mg "enumerate" = none) (ha : PA X [a] ta) (hs : starEach [a] X.env = [(false, eval a X.env)] := by rfl) :
    PI X (.Tuple elts x1 tpos) (.Call (.Name "enumerate" p) [a] [] pos) (iEnum X.K ta) := by
  intro pins s σ H R I h
  refine Call_ (ld_blt I hg hm Boot.«enumerate» (PyProof.Rows.callWith_type1 (thn (ha pos pins s σ H _ I h) fun us s1 ⟨vs, H1, I1, r1, q1⟩ => ?_) hs rfl))
  obtain ⟨b, e, ⟨xs, hq⟩, q⟩ := q1
  subst e
  obtain ⟨u, rfl, ru⟩ := vals1 r1
  obtain rfl : u = Value.ref b := ru
  obtain ⟨its, rv, pl, hz⟩ := I1.list hq
  refine call_enumerate_list pl.isList fun h' he hit hsz hk => ?_
  have I2 : Inv X pins σ H1 { s1 with heap := h' } := I1.kept (t' := s1.toks) hk
  refine wpAny_pyIter_enum he ?_
  have nn : ∀ k, s1.heap.objs.size ≤ k → H1 k = none := fun k hk => I1.hok.fresh hk
  refine ⟨s1.heap.objs.size + 1, [s1.heap.objs.size + 1, s1.heap.objs.size], _, _, H1, rfl, I2, turn_enum b _ _ (Nat.succ_ne_self _), ⟨⟨_, he⟩, hit⟩, fun c hc => ?_, q⟩
  have hle : s1.heap.objs.size ≤ c := by
    rcases List.mem_cons.mp hc with q | hc
    · rw [q]; exact Nat.le_succ _
    · have q : c = s1.heap.objs.size := by simpa using hc
      rw [q]; exact Nat.le_refl _
  exact I1.fpOk hle (nn c hle)
end
end L2

/-! ## a dict's setdefault and values; == of lists and tuples to any depth -/
namespace L2
open PySem PySem.Spec PyProof.Rows
section
variable {X : Cx}
end

/-! ### == to any depth -/
/-- the answer of x == y by the abstract heap, down to depth n -/
inductive EqD (K : PySem.W.Frag) (H : Hp) : Nat → V → V → Bool → Prop
  | flat {n : Nat} {x y : V} (fx : flatV x = true) (fy : flatV y = true) : EqD K H n x y (eqV x y)
  | lsts {n : Nat} {a b : Addr} {xs ys : List V} {e : Nat → Bool} (ha : SqL K H a xs) (hb : SqL K H b ys) (hl : xs.length = ys.length) (h : ∀ i x y, xs[i]? = some x → ys[i]? = some y → EqD K H n x y (e i)) : EqD K H (n + 1) (.ref a) (.ref b) ((List.range xs.length).all e)
  | lens {n : Nat} {a b : Addr} {xs ys : List V} (ha : SqL K H a xs) (hb : SqL K H b ys) (hl : xs.length ≠ ys.length) : EqD K H (n + 1) (.ref a) (.ref b) false
  | tups {n : Nat} {a b : Addr} {xs ys : List V} {e : Nat → Bool} (ha : SqT K H a xs) (hb : SqT K H b ys) (h : ∀ i x y, xs[i]? = some x → ys[i]? = some y → EqD K H n x y (e i)) :
      EqD K H (n + 1) (.ref a) (.ref b) ((List.range (min xs.length ys.length)).all e && xs.length == ys.length)
section
variable {X : Cx} {pins : List (Addr × Obj)} {σ : St} {H : Hp} {s : Shared}
theorem Vals.at {xs : List V} {us : List Value} {j : Nat} (r : Vals xs us) (h : j < us.length) : ∃ x, xs[j]? = some x ∧ RelV x us[j] := by
  have hl := r.length
  have hx : xs[j]? = some (xs[j]'(by omega)) := List.getElem?_eq_getElem (by omega)
  obtain ⟨u, e, ru⟩ := r.get hx
  rw [List.getElem?_eq_getElem h] at e
  cases e
  exact ⟨_, hx, ru⟩
end
section
variable {X : Cx}
end
end L2

/-! ## own words over the layer: heaps, pairs, webs, loops over lists and tuples -/
namespace My
open PySem L2
abbrev IL (ns : List Int) : List V := ns.map V.int
theorem il_length (ns : List Int) : (IL ns).length = ns.length := List.length_map ..
theorem il_append (a b : List Int) : IL (a ++ b) = IL a ++ IL b := List.map_append ..
theorem il_snoc (a : List Int) (r : Int) : IL (a ++ [r]) = IL a ++ [.int r] := List.map_append ..
theorem il_take (a : List Int) (n : Nat) : IL (a.take n) = (IL a).take n := List.map_take ..
theorem il_drop (a : List Int) (n : Nat) : IL (a.drop n) = (IL a).drop n := List.map_drop ..
theorem il_at {ns : List Int} {i : Nat} {z : Int} (h : ns[i]? = some z) : (IL ns)[i]? = some (.int z) := by rw [List.getElem?_map, h]; rfl
theorem il_get {ns : List Int} {i : Nat} {x : V} (h : (IL ns)[i]? = some x) : ∃ z, x = .int z ∧ ns[i]? = some z := by
  rw [List.getElem?_map] at h
  cases e : ns[i]? with
  | none => rw [e] at h; cases h
  | some z => rw [e] at h; exact ⟨z, (Option.some.inj h).symm, rfl⟩
theorem same_upd {H H2 : Hp} {a : Addr} {o : HO} (hn : H a = none) (s : Same H H2) : Same H (upd H2 a o) := fun b u e => by rw [upd_ne (ne_of_none e hn)]; exact s b u e
theorem same_new {H H2 : Hp} {p : Addr} {o : HO} (s : Same H H2) (hp : H2 p = none) : Same H (upd H2 p o) := same_upd (s.free hp) s
theorem same_at {H : Hp} {p : Addr} {o : HO} (hp : H p = none) : Same H (upd H p o) := same_new (Same.refl H) hp
theorem sqT_same {K : PySem.W.Frag} {H H' : Hp} {a : Addr} {xs : List V} (e : Same H H') (h : SqT K H a xs) : SqT K H' a xs := by
  rcases h with (h | ⟨o, h⟩) | h
  · exact .inl (.inl (e _ _ h))
  · exact .inl (.inr ⟨o, e _ _ h⟩)
  · exact .inr h
theorem small60 {n : Nat} (h : n ≤ 1000000) : n ≤ sizeLine := Nat.le_trans h (by decide)
theorem small60' {n : Nat} (h : n ≤ 1000000) : n < sizeLine := Nat.lt_of_le_of_lt h (by decide)
/-- a list's item by a reckoned index -/
theorem atI_of {α : Type} {xs : List α} {i : Int} {n : Nat} {x : α} (hi : i = (n : Int)) (h : xs[n]? = some x) : atI xs i = some x := by
  subst hi
  have hn : n < xs.length := (List.getElem?_eq_some_iff.mp h).1
  unfold atI ixN
  rw [if_pos (Int.natCast_nonneg n), if_pos (by omega)]
  simpa using h
/-! ### tests -/
theorem itd {c A B : Prop} [Decidable c] (hc : c) (h : A) : if decide c = true then A else B := by rw [if_pos (decide_eq_true hc)]; exact h
theorem itdn {c A B : Prop} [Decidable c] (hc : ¬ c) (h : B) : if decide c = true then A else B := by rw [if_neg (by simp [hc])]; exact h
theorem itn {c A B : Prop} [Decidable c] (hc : c) (h : B) : if (!decide c) = true then A else B := by rw [if_neg (by simp [hc])]; exact h
theorem itnn {c A B : Prop} [Decidable c] (hc : ¬ c) (h : A) : if (!decide c) = true then A else B := by rw [if_pos (by simp [hc])]; exact h
theorem itd2 {c A B : Prop} [Decidable c] (h1 : c → A) (h2 : ¬ c → B) : if decide c = true then A else B := by
  by_cases h : c
  · exact itd h (h1 h)
  · exact itdn h (h2 h)
theorem itn2 {c A B : Prop} [Decidable c] (h1 : c → B) (h2 : ¬ c → A) : if (!decide c) = true then A else B := by
  by_cases h : c
  · exact itn h (h1 h)
  · exact itnn h (h2 h)
theorem itb {b : Bool} {A B : Prop} (h1 : b = true → A) (h2 : b = false → B) : if b = true then A else B := by
  cases b with
  | true => exact iteT (h1 rfl)
  | false => exact iteF (h2 rfl)
theorem itnb {b : Bool} {A B : Prop} (h1 : b = true → B) (h2 : b = false → A) : if (!b) = true then A else B := by
  cases b with
  | true => exact iteF (h1 rfl)
  | false => exact iteT (h2 rfl)
/-! ### lists or tuples -/
/-- a list (false) or a tuple (true) -/
def SqK (k : Bool) (K : PySem.W.Frag) (H : Hp) (a : Addr) (xs : List V) : Prop := match k with
  | false => SqL K H a xs
  | true => SqT K H a xs
theorem SqK.same {k : Bool} {K : PySem.W.Frag} {H H' : Hp} {a : Addr} {xs : List V} (e : Same H H') (h : SqK k K H a xs) : SqK k K H' a xs := by
  cases k with
  | false => exact e.seq h
  | true => exact sqT_same e h
theorem SqK.or {k : Bool} {K : PySem.W.Frag} {H : Hp} {a : Addr} {xs : List V} (h : SqK k K H a xs) : SqL K H a xs ∨ SqT K H a xs := by
  cases k with
  | false => exact .inl h
  | true => exact .inr h
def iSeq (K : PySem.W.Frag) (tl : TE) : TI := fun σ H R => tl σ H fun x H1 => ∃ a, x = .ref a ∧ (((∃ xs, SqL K H1 a xs) ∧ R (Itl K a) H1) ∨ ((∃ xs, SqT K H1 a xs) ∧ R (Itt K a) H1))
theorem pi_seq {X : Cx} {tg : Expr} {l : Expr} {tl : TE} (hl : PE X l tl) : PI X tg l (iSeq X.K tl) := by
  intro pins s σ H R I h
  refine thn (hl pins s σ H _ I h) fun v s1 ⟨x, H1, I1, r1, q1⟩ => ?_
  obtain ⟨a, e, q⟩ := q1
  subst e
  cases r1
  rcases q with ⟨⟨xs, hq⟩, q⟩ | ⟨⟨xs, hq⟩, q⟩
  · obtain ⟨its, rv, p, hz⟩ := I1.list hq
    refine wpAny_pyIter_list p.isList ?_
    refine ⟨s1.heap.objs.size, [s1.heap.objs.size], _, _, H1, rfl, I1.kept (t' := s1.toks) fun b o e => Heap.get?_push_of_some _ e, turn_list a _, ⟨_, Heap.get?_push_size _ rfl, rfl, rfl⟩, fun b hb => ?_, q⟩
    have e : b = s1.heap.objs.size := by simpa using hb
    subst e
    exact I1.fpOk (Nat.le_refl _) (I1.hok.fresh (Nat.le_refl _))
  · obtain ⟨its, rv, p, hz⟩ := I1.tuple hq
    refine wpAny_pyIter_tuple (show s1.heap.IsTuple a its.toArray from p) ?_
    refine ⟨s1.heap.objs.size, [s1.heap.objs.size], _, _, H1, rfl, I1.kept (t' := s1.toks) fun b o e => Heap.get?_push_of_some _ e, turn_tuple a _, ⟨_, Heap.get?_push_size _ rfl, rfl, rfl⟩, fun b hb => ?_, q⟩
    have e : b = s1.heap.objs.size := by simpa using hb
    subst e
    exact I1.fpOk (Nat.le_refl _) (I1.hok.fresh (Nat.le_refl _))
/-- a loop over a list or a tuple that the body leaves as it is -/
theorem for_seq {K : PySem.W.Frag} {k : Bool} {a : Addr} {xs : List V} {g : TG} {tb : TS} {D : Ends} {σ : St} {H : Hp} (Pv : Nat → St → Hp → Prop) (h0 : Pv 0 σ H) (hl : ∀ i σ H, i ≤ xs.length → Pv i σ H → SqK k K H a xs)
    (hs : ∀ i x σ H, xs[i]? = some x → Pv i σ H → g x σ H fun σ2 H2 => tb { D with nx := Pv (i + 1), ct := Pv (i + 1), bk := D.nx } σ2 H2) (hd : ∀ σ H, Pv xs.length σ H → D.nx σ H) :
    (((∃ xs, SqL K H a xs) ∧ ∃ W : Nat → Nat → St → Hp → Prop, (∃ m, W 0 m σ H) ∧ ∀ i m σ H, W i m σ H →
      ((Itl K a).stop i H ∧ D.nx σ H) ∨ ((Itl K a).go i H ∧ ∃ N : St → Hp → Prop, (∀ σ' H', N σ' H' → ∃ m', m' < m ∧ W (i + 1) m' σ' H') ∧ ∀ x H', (Itl K a).yld i H x H' → g x σ H' fun σ2 H2 => tb { D with nx := N, ct := N, bk := D.nx } σ2 H2)) ∨
     ((∃ xs, SqT K H a xs) ∧ ∃ W : Nat → Nat → St → Hp → Prop, (∃ m, W 0 m σ H) ∧ ∀ i m σ H, W i m σ H →
      ((Itt K a).stop i H ∧ D.nx σ H) ∨ ((Itt K a).go i H ∧ ∃ N : St → Hp → Prop, (∀ σ' H', N σ' H' → ∃ m', m' < m ∧ W (i + 1) m' σ' H') ∧ ∀ x H', (Itt K a).yld i H x H' → g x σ H' fun σ2 H2 => tb { D with nx := N, ct := N, bk := D.nx } σ2 H2))) := by
  cases k with
  | false => exact .inl ⟨⟨xs, hl 0 σ H (Nat.zero_le _) h0⟩, for_list (K := K) (a := a) (xs := xs) Pv h0 hl hs hd⟩
  | true => exact .inr ⟨⟨xs, hl 0 σ H (Nat.zero_le _) h0⟩, for_tup (K := K) (a := a) (xs := xs) Pv h0 hl hs hd⟩
/-! ### pairs of ints -/
def PairV (H : Hp) (v : V) (p : Int × Int) : Prop := ∃ t, v = .ref t ∧ H t = some (.tup [.int p.1, .int p.2])
def PairsV (H : Hp) (xs : List V) (ps : List (Int × Int)) : Prop := xs.length = ps.length ∧ ∀ (i : Nat) (p : Int × Int), ps[i]? = some p → ∃ v, xs[i]? = some v ∧ PairV H v p
theorem PairV.same {H H' : Hp} {v : V} {p : Int × Int} (s : Same H H') (h : PairV H v p) : PairV H' v p := let ⟨t, e, q⟩ := h; ⟨t, e, s _ _ q⟩
theorem PairsV.same {H H' : Hp} {xs : List V} {ps : List (Int × Int)} (s : Same H H') (h : PairsV H xs ps) : PairsV H' xs ps := ⟨h.1, fun i p e => let ⟨v, e1, q⟩ := h.2 i p e; ⟨v, e1, q.same s⟩⟩
theorem PairsV.at {H : Hp} {xs : List V} {ps : List (Int × Int)} (h : PairsV H xs ps) {i : Nat} {v : V} (e : xs[i]? = some v) : ∃ p, ps[i]? = some p ∧ PairV H v p := by
  have hi : i < xs.length := (List.getElem?_eq_some_iff.mp e).1
  have hp : i < ps.length := by rw [← h.1]; exact hi
  obtain ⟨v', e1, q⟩ := h.2 i ps[i] (List.getElem?_eq_getElem hp)
  rw [e] at e1
  cases e1
  exact ⟨_, List.getElem?_eq_getElem hp, q⟩
theorem PairsV.nil {H : Hp} : PairsV H [] [] := ⟨rfl, fun i p e => by simp at e⟩
theorem PairsV.snoc {H : Hp} {xs : List V} {ps : List (Int × Int)} {v : V} {p : Int × Int} (h : PairsV H xs ps) (q : PairV H v p) : PairsV H (xs ++ [v]) (ps ++ [p]) := by
  refine ⟨by rw [List.length_append, List.length_append, h.1]; rfl, fun i p' e => ?_⟩
  by_cases hi : i < ps.length
  · rw [List.getElem?_append_left hi] at e
    rw [List.getElem?_append_left (by rw [h.1]; exact hi)]
    exact h.2 i p' e
  · have hl : i = ps.length := by
      have := (List.getElem?_eq_some_iff.mp e).1
      rw [List.length_append, List.length_singleton] at this
      omega
    subst hl
    rw [List.getElem?_append_right (Nat.le_refl _), Nat.sub_self] at e
    rw [List.getElem?_append_right (by rw [h.1]; exact Nat.le_refl _), h.1, Nat.sub_self]
    have e' : p = p' := Option.some.inj e
    subst e'
    exact ⟨v, rfl, q⟩
theorem PairsV.app {H : Hp} {xs ys : List V} {ps qs : List (Int × Int)} (h : PairsV H xs ps) (h2 : PairsV H ys qs) : PairsV H (xs ++ ys) (ps ++ qs) := by
  refine ⟨by rw [List.length_append, List.length_append, h.1, h2.1], fun i p e => ?_⟩
  by_cases hi : i < ps.length
  · rw [List.getElem?_append_left hi] at e
    rw [List.getElem?_append_left (by rw [h.1]; exact hi)]
    exact h.2 i p e
  · rw [List.getElem?_append_right (by omega)] at e
    rw [List.getElem?_append_right (by rw [h.1]; omega), h.1]
    exact h2.2 _ p e
/-! ### a Web -/
theorem pt_ne : ¬ (("places" : Str) = "ties") := by decide +kernel
def wf (n : Int) (tl : Addr) : List (Str × V) := putF "ties" (.ref tl) (putF "places" (.int n) [])
theorem wf_places (n : Int) (tl : Addr) : (wf n tl).lookup ("places" : Str) = some (.int n) := by
  unfold wf
  rw [lookup_putF, if_neg pt_ne, lookup_putF, if_pos rfl]
theorem wf_ties (n : Int) (tl : Addr) : (wf n tl).lookup ("ties" : Str) = some (.ref tl) := by
  unfold wf
  rw [lookup_putF, if_pos rfl]
/-- a Web of n places stands at w, its ties ps -/
def WebAt (C : Addr) (H : Hp) (w : Addr) (n : Int) (ps : List (Int × Int)) : Prop := ∃ dx tl xs, H w = some (.ins C dx (wf n tl)) ∧ H tl = some (.lst xs) ∧ PairsV H xs ps
theorem WebAt.same {C : Addr} {H H' : Hp} {w : Addr} {n : Int} {ps : List (Int × Int)} (s : Same H H') (h : WebAt C H w n ps) : WebAt C H' w n ps := let ⟨dx, tl, xs, a, b, c⟩ := h; ⟨dx, tl, xs, s _ _ a, s _ _ b, c.same s⟩
/-- what a web keeps to -/
def GoodW (n : Int) (ps : List (Int × Int)) : Prop := 1 ≤ n ∧ n ≤ 14 ∧ ps.length ≤ 30 ∧ ∀ p ∈ ps, 0 ≤ p.1 ∧ p.1 < n ∧ 0 ≤ p.2 ∧ p.2 < n
/-! ### what the top has made -/
def FX (K : PySem.W.Frag) (mg : Str → Option Value) (x qual : Str) (st : Stmt) : Prop := ∃ (f : Addr) (fd : FuncData), mg x = some (.ref f) ∧ Fun K x qual st f fd
theorem fx_mk {K : PySem.W.Frag} {h : Heap} {mg : Str → Option Value} {x : Str} {st : Stmt} {f : Addr} {oc : Value} {od an : Option Addr} {osl : Array (Option Value)} {kV doc pm cdv ct : Value} (X : K.In h) (G : h.Ns mainGlobals mg)
    (a : PySem.W.nsIn K mainGlobals x = some (some (.ref f))) (l : K.lookup f = some ⟨oc, od, .func (PySem.W.fnOf x x (defArgs st) (defBody st) (defScope st) .none kV doc pm an cdv ct), osl⟩) (c : PySem.W.codeIn K cdv x = true) (k : PySem.W.keepIn K (.ref f) = true) : FX K mg x x st :=
  ⟨f, _, PySem.W.mg_of X G a, fun_mk l c k⟩
def CXF (K : PySem.W.Frag) (mg : Str → Option Value) (x qual : Str) (st : Stmt) (fs : List Str) : Prop := ∃ (C f : Addr) (fd : FuncData), mg x = some (.ref C) ∧ Fun K "__init__" qual st f fd ∧ Cls K C ∧ Mk K C f ∧ ∀ a ∈ fs, NoAttr K C a
theorem cx_mk {K : PySem.W.Frag} {h : Heap} {mg : Str → Option Value} {x qual : Str} {fs : List Str} {st : Stmt} {C f : Addr} {oc : Value} {od an : Option Addr} {osl : Array (Option Value)} {kV doc pm cdv ct : Value} (X : K.In h) (G : h.Ns mainGlobals mg)
    (aC : PySem.W.nsIn K mainGlobals x = some (some (.ref C))) (a : PySem.W.findIn K (.ref C) "__init__" = some (some (.ref f))) (i : PySem.W.isFn K (.ref f) = true)
    (l : K.lookup f = some ⟨oc, od, .func (PySem.W.fnOf "__init__" qual (defArgs st) (defBody st) (defScope st) .none kV doc pm an cdv ct), osl⟩) (c : PySem.W.codeIn K cdv qual = true) (k : PySem.W.keepIn K (.ref f) = true)
    (pg : PySem.W.plainGet K C Str.empty = true) (hd : PySem.W.hasDictIn K C = true) (po : PySem.W.plainOver K C = true) (sa : PySem.W.findIn K (.ref C) "__setattr__" = some (some (.builtin "object.__setattr__"))) (mk : PySem.W.makesIn K C = true) (kc : PySem.W.keepIn K (.ref C) = true)
    (na : ∀ a ∈ fs, PySem.W.findIn K (.ref C) a = some none) : CXF K mg x qual st fs :=
  ⟨C, f, _, PySem.W.mg_of X G aC, fun_mk l c k, ⟨pg, hd, po, sa⟩, ⟨mk, a, i, kc⟩, na⟩
theorem const_mk {K : PySem.W.Frag} {h : Heap} {mg : Str → Option Value} {x : Str} {z : Int} {v : Value} (X : K.In h) (G : h.Ns mainGlobals mg) (a : PySem.W.nsIn K mainGlobals x = some (some v)) (e : ∃ tk, v = .int z tk) : ∃ tk, mg x = some (.int z tk) := by
  obtain ⟨tk, rfl⟩ := e
  exact ⟨tk, PySem.W.mg_of X G a⟩
end My

/-! ## comprehensions: the forms one uses -/
namespace My
open PySem L2
theorem nmY {i : Nat} {x : V} {σ : St} {H : Hp} {A B : St → Hp → Prop} (h : A (σ.set i (some x)) H) : gName i x σ H fun σ2 H2 => tYes σ2 H2 fun b H3 => if b = true then A σ2 H3 else B σ2 H3 :=
  (show if true = true then A (σ.set i (some x)) H else B (σ.set i (some x)) H from iteT h)
theorem nm {i : Nat} {x : V} {σ : St} {H : Hp} {Q : St → Hp → Prop} (h : Q (σ.set i (some x)) H) : gName i x σ H Q := h
section
variable {K : PySem.W.Frag} {a : Addr} {xs : List V} {g : TG} {tt : TT} {te : TE} {o : Nat} {fr : List Nat} {σ : St} {H : Hp} {Q : VK}
/-- what a turn wants, by an invariant over turn, items so far, heap -/
abbrev LcTurn (Pv : Nat → List V → Hp → Prop) (g : TG) (tt : TT) (te : TE) (o : Nat) (fr : List Nat) (σ : St) (i : Nat) (x : V) (ys : List V) (H : Hp) : Prop :=
  ∀ S : Nat → List V → Hp → Prop, (∀ ys H, Pv (i + 1) ys H → S (i + 1) ys H) → g x (σC o fr σ) H fun σ2 H2 => tt σ2 H2 fun b H3 => if b = true then te σ2 H3 fun y H4 => S (i + 1) (ys ++ [y]) H4 else S (i + 1) ys H3
theorem lc_list (Pv : Nat → List V → Hp → Prop) (h0 : Pv 0 [] H) (hz : xs.length < sizeLine) (hl : ∀ i ys H, i ≤ xs.length → Pv i ys H → SqL K H a xs ∧ ys.length ≤ i)
    (hs : ∀ i x ys H, xs[i]? = some x → Pv i ys H → LcTurn Pv g tt te o fr σ i x ys H) (hd : ∀ ys H, Pv xs.length ys H → ∀ p, H p = none → Q (.ref p) (upd H p (.lst ys))) : LcR (Itl K a) g tt te o fr σ H Q := by
  refine ⟨fun i m ys H => m = xs.length - i ∧ i ≤ xs.length ∧ Pv i ys H, ⟨xs.length, by simp, Nat.zero_le _, h0⟩, ?_⟩
  rintro i m ys H ⟨rfl, hi, p⟩
  obtain ⟨q, hy⟩ := hl i ys H hi p
  by_cases hlt : i < xs.length
  · refine .inr ⟨⟨xs, xs[i], q, by simp [hlt]⟩, by omega, fun x H' ⟨e, y⟩ => ?_⟩
    subst e
    have hx := y xs q
    exact hs i x ys _ hx p (fun j ys H => ∃ m', m' < xs.length - i ∧ m' = xs.length - j ∧ j ≤ xs.length ∧ Pv j ys H) fun ys H p' => ⟨xs.length - (i + 1), by omega, rfl, hlt, p'⟩
  · have e : i = xs.length := by omega
    subst e
    exact .inl ⟨⟨xs, q, Nat.le_refl _⟩, by omega, hd ys H p⟩
theorem lc_tup (Pv : Nat → List V → Hp → Prop) (h0 : Pv 0 [] H) (hz : xs.length < sizeLine) (hl : ∀ i ys H, i ≤ xs.length → Pv i ys H → SqT K H a xs ∧ ys.length ≤ i)
    (hs : ∀ i x ys H, xs[i]? = some x → Pv i ys H → LcTurn Pv g tt te o fr σ i x ys H) (hd : ∀ ys H, Pv xs.length ys H → ∀ p, H p = none → Q (.ref p) (upd H p (.lst ys))) : LcR (Itt K a) g tt te o fr σ H Q := by
  refine ⟨fun i m ys H => m = xs.length - i ∧ i ≤ xs.length ∧ Pv i ys H, ⟨xs.length, by simp, Nat.zero_le _, h0⟩, ?_⟩
  rintro i m ys H ⟨rfl, hi, p⟩
  obtain ⟨q, hy⟩ := hl i ys H hi p
  by_cases hlt : i < xs.length
  · refine .inr ⟨⟨xs, xs[i], q, by simp [hlt]⟩, by omega, fun x H' ⟨e, y⟩ => ?_⟩
    subst e
    have hx := y xs q
    exact hs i x ys _ hx p (fun j ys H => ∃ m', m' < xs.length - i ∧ m' = xs.length - j ∧ j ≤ xs.length ∧ Pv j ys H) fun ys H p' => ⟨xs.length - (i + 1), by omega, rfl, hlt, p'⟩
  · have e : i = xs.length := by omega
    subst e
    exact .inl ⟨⟨xs, q, Nat.le_refl _⟩, by omega, hd ys H p⟩
theorem lc_seq {k : Bool} (Pv : Nat → List V → Hp → Prop) (h0 : Pv 0 [] H) (hz : xs.length < sizeLine) (hl : ∀ i ys H, i ≤ xs.length → Pv i ys H → SqK k K H a xs ∧ ys.length ≤ i)
    (hs : ∀ i x ys H, xs[i]? = some x → Pv i ys H → LcTurn Pv g tt te o fr σ i x ys H) (hd : ∀ ys H, Pv xs.length ys H → ∀ p, H p = none → Q (.ref p) (upd H p (.lst ys))) :
    ((∃ xs, SqL K H a xs) ∧ LcR (Itl K a) g tt te o fr σ H Q) ∨ ((∃ xs, SqT K H a xs) ∧ LcR (Itt K a) g tt te o fr σ H Q) := by
  cases k with
  | false => exact .inl ⟨⟨xs, (hl 0 [] H (Nat.zero_le _) h0).1⟩, lc_list Pv h0 hz hl hs hd⟩
  | true => exact .inr ⟨⟨xs, (hl 0 [] H (Nat.zero_le _) h0).1⟩, lc_tup Pv h0 hz hl hs hd⟩
theorem lc_range {lo : Int} {n : Nat} (Pv : Nat → List V → Hp → Prop) (h0 : Pv 0 [] H) (hz : n < sizeLine) (hl : ∀ i ys H, i ≤ n → Pv i ys H → ys.length ≤ i)
    (hs : ∀ i ys H, i < n → Pv i ys H → LcTurn Pv g tt te o fr σ i (.int (lo + i)) ys H) (hd : ∀ ys H, Pv n ys H → ∀ p, H p = none → Q (.ref p) (upd H p (.lst ys))) : LcR (Itr lo n) g tt te o fr σ H Q := by
  refine ⟨fun i m ys H => m = n - i ∧ i ≤ n ∧ Pv i ys H, ⟨n, by simp, Nat.zero_le _, h0⟩, ?_⟩
  rintro i m ys H ⟨rfl, hi, p⟩
  have hy := hl i ys H hi p
  by_cases hlt : i < n
  · refine .inr ⟨hlt, by omega, fun x H' ⟨e, y⟩ => ?_⟩
    subst e
    subst y
    exact hs i ys _ hlt p (fun j ys H => ∃ m', m' < n - i ∧ m' = n - j ∧ j ≤ n ∧ Pv j ys H) fun ys H p' => ⟨n - (i + 1), by omega, rfl, hlt, p'⟩
  · have e : i = n := by omega
    subst e
    exact .inl ⟨Nat.le_refl _, by omega, hd ys H p⟩
end
end My
namespace My
open PySem L2
theorem nodup_get {α : Type} {l : List α} (h : l.Nodup) {i j : Nat} {x : α} (a : l[i]? = some x) (b : l[j]? = some x) : i = j := by
  obtain ⟨h1, e1⟩ := List.getElem?_eq_some_iff.mp a
  obtain ⟨h2, e2⟩ := List.getElem?_eq_some_iff.mp b
  exact (List.getElem_inj h).mp (e1.trans e2.symm)
theorem getD_of {α : Type} {l : List α} {i : Nat} {x d : α} (h : l[i]? = some x) : l.getD i d = x := by rw [List.getD_eq_getElem?_getD, h]; rfl
theorem nd_snoc {α : Type} {l : List α} {x : α} (h : l.Nodup) (hx : x ∉ l) : (l ++ [x]).Nodup := by
  rw [List.nodup_append]
  refine ⟨h, by simp, fun a ha b hb => ?_⟩
  rw [List.mem_singleton] at hb
  subst hb
  rintro rfl
  exact hx ha
/-- for i, x in enumerate(a list that the body leaves as it is): a new pair at each turn -/
theorem for_enum {K : PySem.W.Frag} {a : Addr} {xs : List V} {g : TG} {tb : TS} {D : Ends} {σ : St} {H : Hp} (Pv : Nat → St → Hp → Prop) (h0 : Pv 0 σ H) (hl : ∀ i σ H, i ≤ xs.length → Pv i σ H → SqL K H a xs)
    (hs : ∀ (i : Nat) x σ H (p : Addr), H p = none → xs[i]? = some x → Pv i σ H → g (.ref p) σ (upd H p (.tup [.int i, x])) fun σ2 H2 => tb { D with nx := Pv (i + 1), ct := Pv (i + 1), bk := D.nx } σ2 H2) (hd : ∀ σ H, Pv xs.length σ H → D.nx σ H) :
    ∃ W : Nat → Nat → St → Hp → Prop, (∃ m, W 0 m σ H) ∧ ∀ i m σ H, W i m σ H →
      ((Ite K a).stop i H ∧ D.nx σ H) ∨ ((Ite K a).go i H ∧ ∃ N : St → Hp → Prop, (∀ σ' H', N σ' H' → ∃ m', m' < m ∧ W (i + 1) m' σ' H') ∧ ∀ x H', (Ite K a).yld i H x H' → g x σ H' fun σ2 H2 => tb { D with nx := N, ct := N, bk := D.nx } σ2 H2) := by
  refine ⟨fun i m σ H => m = xs.length - i ∧ i ≤ xs.length ∧ Pv i σ H, ⟨xs.length, by simp, Nat.zero_le _, h0⟩, ?_⟩
  rintro i m σ H ⟨rfl, hi, p⟩
  have q := hl i σ H hi p
  by_cases hlt : i < xs.length
  · refine .inr ⟨⟨xs, xs[i], q, by simp [hlt]⟩, Pv (i + 1), fun σ' H' p' => ⟨xs.length - (i + 1), by omega, rfl, hlt, p'⟩, fun x H' ⟨T, y, hT, ex, eH, hy⟩ => ?_⟩
    subst ex eH
    exact hs i y σ H T hT (hy xs q) p
  · have e : i = xs.length := by omega
    subst e
    exact .inl ⟨⟨xs, q, Nat.le_refl _⟩, hd σ H p⟩
end My
namespace My
open PySem L2
end My

/-! ## the rules that name the written part, with it named apart (for a comprehension's block) -/
namespace L2
open PySem PySem.Spec PyProof.Rows
section
variable {X : Cx} {a b o e : Expr} {es : List Expr} {ta tb te to : TE} {t : TA} {pos : Pos}
theorem ix_listK (K : PySem.W.Frag) (h : X.K = K := by rfl) : IxR X (rIxL K) := h ▸ ix_list
theorem ix_tupK (K : PySem.W.Frag) (h : X.K = K := by rfl) : IxR X (rIxT K) := h ▸ ix_tup
theorem sl_listK (K : PySem.W.Frag) (h : X.K = K := by rfl) : SlR X (rSlL K) := h ▸ sl_list
theorem op_inK (K : PySem.W.Frag) (h : X.K = K := by rfl) : OpR X (compareOp .In) (fun x y H Q => ∃ p xs, y = .ref p ∧ (SqL K H p xs ∨ SqT K H p xs) ∧ flatV x = true ∧ xs.all flatV = true ∧ Q (.bl (inV x xs)) H) := h ▸ op_in_seq
theorem op_notInK (K : PySem.W.Frag) (h : X.K = K := by rfl) : OpR X (compareOp .NotIn) (fun x y H Q => ∃ p xs, y = .ref p ∧ (SqL K H p xs ∨ SqT K H p xs) ∧ flatV x = true ∧ xs.all flatV = true ∧ Q (.bl (!inV x xs)) H) := h ▸ op_notIn_seq
theorem op_catTK (K : PySem.W.Frag) (h : X.K = K := by rfl) : OpR X (binaryOp .Add) (rCatT K) := h ▸ op_catT
theorem pe_fldK (K : PySem.W.Frag) {f : Str} (he : PE X e ta) (hb : attributeBase e f X.env (eval e X.env) = eval e X.env) (h : X.K = K := by rfl) : PE X (.Attribute e f pos) (tFld K ta f) := h ▸ pe_fld he hb
theorem call_lenK (K : PySem.W.Frag) (h : X.K = K := by rfl) : CallR X (.builtin "len") (fun xs H Q => ∃ p ys, xs = [.ref p] ∧ (SqL K H p ys ∨ SqT K H p ys) ∧ Q (.int ys.length) H) := h ▸ call_len_seq
theorem call_listK (K : PySem.W.Frag) (h : X.K = K := by rfl) : CallR X (.type "list") (fun xs H Q => ∃ p ys, xs = [.ref p] ∧ (SqL K H p ys ∨ SqT K H p ys) ∧ ∀ l, H l = none → Q (.ref l) (upd H l (.lst ys))) := h ▸ call_list_of
theorem call_tupleK (K : PySem.W.Frag) (h : X.K = K := by rfl) : CallR X (.type "tuple") (fun xs H Q => ∃ p ys, xs = [.ref p] ∧ ((SqL K H p ys ∧ ∀ l, H l = none → Q (.ref l) (upd H l (.tup ys))) ∨ (SqT K H p ys ∧ Q (.ref p) H))) := h ▸ call_tuple_of
theorem call_sumK (K : PySem.W.Frag) (hc : X.calm = true) (h : X.K = K := by rfl) : CallR X (.builtin "sum") (fun xs H Q => ∃ (p : Addr) (ns : List Int), xs = [.ref p] ∧ SqL K H p (ns.map V.int) ∧ Q (.int ns.sum) H) := h ▸ call_sum_ints hc
theorem call_isiK (K : PySem.W.Frag) {T : String} (h : X.K = K := by rfl) : CallR X (.builtin "isinstance") (fun xs H Q => ∃ x t b, xs = [x, .ty T] ∧ TyOf K H x t ∧ PySem.W.kitOne K t (.type T) = some b ∧ Q (.bl b) H) := h ▸ call_isi
theorem pi_listK (K : PySem.W.Frag) {tg : Expr} {l : Expr} {tl : TE} (hl : PE X l tl) (h : X.K = K := by rfl) : PI X tg l (iList K tl) := h ▸ pi_list hl
theorem pi_tupK (K : PySem.W.Frag) {tg : Expr} {l : Expr} {tl : TE} (hl : PE X l tl) (h : X.K = K := by rfl) : PI X tg l (iTup K tl) := h ▸ pi_tup hl
theorem pi_seqK (K : PySem.W.Frag) {tg : Expr} {l : Expr} {tl : TE} (hl : PE X l tl) (h : X.K = K := by rfl) : PI X tg l (My.iSeq K tl) := h ▸ My.pi_seq hl
theorem pi_enumK (K : PySem.W.Frag) {elts : List Expr} {x1 : Nat} {tpos : Pos} {a : Expr} {ta : TA} {p pos : Pos} (hg : Gl X "enumerate") (hm : X.mg "enumerate" = none) (ha : PA X [a] ta) (hs : starEach [a] X.env = [(false, eval a X.env)] := by rfl) (h : X.K = K := by rfl) :
    PI X (.Tuple elts x1 tpos) (.Call (.Name "enumerate" p) [a] [] pos) (iEnum K ta) := h ▸ pi_enum hg hm ha hs
theorem pg_tupK (K : PySem.W.Frag) {es : List Expr} {k : Nat} {t : TGs} {n : Nat} (hc : X.calm = true) (ht : PGs X es t)
    (hn : (assignEach es X.env).length = n := by rfl) (hst : (assignEach es X.env).findIdx? (·.1) = none := by rfl) (h : X.K = K := by rfl) : PG X (.Tuple es k pos) (gTup K n t) := h ▸ pg_tup hc ht hn hst
theorem pe_bmK (K : PySem.W.Frag) {name : Str} {apos cpos : Pos} {T id : String} {r : V → List V → Hp → VK → Prop} (pa : PlainAttrs T) (slot : Slot T name id) (hty : typeOf (.builtin id) = pure (.type "method_descriptor")) (hm : MtR X id r) (ho : PE X o to) (ha : PA X (e :: es) t)
    (hbase : attributeBase o name X.env (eval o X.env) = eval o X.env := by rfl)
    (hfew : ((backTo cpos (starEach (e :: es) X.env)).all (fun x => !x.1) && (backToKw cpos (keywordEach [] X.env)).all (fun x => x.1.isSome)
      && decide ((e :: es).length + ([] : List Keyword).length + (if ([] : List Keyword).isEmpty then 0 else 1) < 30)) = true := by rfl)
    (hline : (apos.endLine == cpos.line) = true := by rfl) (hs : starEach (e :: es) X.env = (false, eval e X.env) :: starEach es X.env := by rfl) (hplain : (backTo cpos (starEach es X.env)).any (·.1) = false := by rfl) (h : X.K = K := by rfl) :
    PE X (.Call (.Attribute o name apos) (e :: es) [] cpos) (tBM K T r to t) := h ▸ pe_bm pa slot hty hm ho ha hbase hfew hline hs hplain
end
end L2

/-! ## marks: two ways to join, one partition -/
namespace My
/-- the mark at a place -/
abbrev mk (m : List Int) (i : Nat) : Int := m.getD i 0
/-- the program's step: the greater mark gives way -/
def pm (m : List Int) (a b : Nat) : List Int :=
  if min (mk m a) (mk m b) < max (mk m a) (mk m b) then m.map (fun k => if k = max (mk m a) (mk m b) then min (mk m a) (mk m b) else k) else m
/-- the other step: the second mark gives way -/
def lm (m : List Int) (a b : Nat) : List Int :=
  if mk m a ≠ mk m b then m.map (fun k => if k = mk m b then mk m a else k) else m
/-- the places fall alike -/
def SameP (m l : List Int) : Prop := m.length = l.length ∧ ∀ i j, i < m.length → j < m.length → (mk m i = mk m j ↔ mk l i = mk l j)
theorem mk_map (m : List Int) (f : Int → Int) {i : Nat} (h : i < m.length) : mk (m.map f) i = f (mk m i) := by
  simp [mk, List.getD_eq_getElem?_getD, List.getElem?_map, List.getElem?_eq_getElem h]
theorem pm_length (m : List Int) (a b : Nat) : (pm m a b).length = m.length := by unfold pm; split <;> simp
theorem lm_length (m : List Int) (a b : Nat) : (lm m a b).length = m.length := by unfold lm; split <;> simp
/-- two places are alike behind a step -/
def Mrg (m : List Int) (a b i j : Nat) : Prop := mk m i = mk m j ∨ ((mk m i = mk m a ∨ mk m i = mk m b) ∧ (mk m j = mk m a ∨ mk m j = mk m b))
theorem pm_iff {m : List Int} {a b i j : Nat} (hi : i < m.length) (hj : j < m.length) : mk (pm m a b) i = mk (pm m a b) j ↔ Mrg m a b i j := by
  unfold pm Mrg
  split
  · rename_i h
    rw [mk_map _ _ hi, mk_map _ _ hj]
    generalize mk m i = x at *
    generalize mk m j = y at *
    generalize mk m a = p at *
    generalize mk m b = q at *
    by_cases hpq : p < q
    · rw [Int.min_eq_left (by omega), Int.max_eq_right (by omega)]
      split <;> split <;> omega
    · rw [Int.min_eq_right (by omega), Int.max_eq_left (by omega)] at *
      split <;> split <;> omega
  · rename_i h
    generalize mk m i = x at *
    generalize mk m j = y at *
    generalize mk m a = p at *
    generalize mk m b = q at *
    omega
theorem lm_iff {m : List Int} {a b i j : Nat} (hi : i < m.length) (hj : j < m.length) : mk (lm m a b) i = mk (lm m a b) j ↔ Mrg m a b i j := by
  unfold lm Mrg
  split
  · rename_i h
    rw [mk_map _ _ hi, mk_map _ _ hj]
    generalize mk m i = x at *
    generalize mk m j = y at *
    generalize mk m a = p at *
    generalize mk m b = q at *
    split <;> split <;> omega
  · rename_i h
    generalize mk m i = x at *
    generalize mk m j = y at *
    generalize mk m a = p at *
    generalize mk m b = q at *
    omega
theorem SameP.step {m l : List Int} (s : SameP m l) {a b : Nat} (ha : a < m.length) (hb : b < m.length) : SameP (pm m a b) (lm l a b) := by
  obtain ⟨hl, h⟩ := s
  refine ⟨by rw [pm_length, lm_length, hl], fun i j hi hj => ?_⟩
  rw [pm_length] at hi hj
  rw [pm_iff hi hj, lm_iff (by omega) (by omega)]
  unfold Mrg
  rw [h i j hi hj, h i a hi ha, h i b hi hb, h j a hj ha, h j b hj hb]
/-- the marks behind a row of ties (their ends) -/
def pms (n : Nat) (es : List (Nat × Nat)) : List Int := es.foldl (fun m e => pm m e.1 e.2) ((List.range n).map fun (i : Nat) => (i : Int))
def lms (n : Nat) (es : List (Nat × Nat)) : List Int := es.foldl (fun m e => lm m e.1 e.2) ((List.range n).map fun (i : Nat) => (i : Int))
theorem pms_length (n : Nat) (es : List (Nat × Nat)) : (pms n es).length = n := by
  have : ∀ (es : List (Nat × Nat)) (m : List Int), (es.foldl (fun m e => pm m e.1 e.2) m).length = m.length := by
    intro es
    induction es with
    | nil => intro m; rfl
    | cons e es ih => intro m; rw [List.foldl_cons, ih, pm_length]
  unfold pms; rw [this]; simp
theorem lms_length (n : Nat) (es : List (Nat × Nat)) : (lms n es).length = n := by
  have : ∀ (es : List (Nat × Nat)) (m : List Int), (es.foldl (fun m e => lm m e.1 e.2) m).length = m.length := by
    intro es
    induction es with
    | nil => intro m; rfl
    | cons e es ih => intro m; rw [List.foldl_cons, ih, lm_length]
  unfold lms; rw [this]; simp
theorem lms_snoc (n : Nat) (es : List (Nat × Nat)) (e : Nat × Nat) : lms n (es ++ [e]) = lm (lms n es) e.1 e.2 := by unfold lms; rw [List.foldl_append]; rfl
theorem same_pms {n : Nat} : ∀ {es : List (Nat × Nat)}, (∀ e ∈ es, e.1 < n ∧ e.2 < n) → SameP (pms n es) (lms n es) := by
  intro es
  have key : ∀ (es : List (Nat × Nat)) (m l : List Int), SameP m l → m.length = n → (∀ e ∈ es, e.1 < n ∧ e.2 < n) → SameP (es.foldl (fun m e => pm m e.1 e.2) m) (es.foldl (fun m e => lm m e.1 e.2) l) := by
    intro es
    induction es with
    | nil => intro m l s _ _; exact s
    | cons e es ih =>
      intro m l s hm he
      have h1 := he e List.mem_cons_self
      exact ih _ _ (s.step (by omega) (by omega)) (by rw [pm_length]; exact hm) fun x hx => he x (List.mem_cons_of_mem _ hx)
  exact key es _ _ ⟨rfl, fun i j _ _ => Iff.rfl⟩ (by simp)
end My

/-! ## places by their marks -/
namespace My
def gstep (g : List (Int × List Int)) (place k : Int) : List (Int × List Int) :=
  if k ∈ g.map (·.1) then g.map (fun kv => if kv.1 = k then (kv.1, kv.2 ++ [place]) else kv) else g ++ [(k, [place])]
def grpA (M : List Int) : Nat → List (Int × List Int)
  | 0 => []
  | i + 1 => gstep (grpA M i) (i : Int) (mk M i)
def grp (M : List Int) : List (Int × List Int) := grpA M M.length
theorem gstep_keys (g : List (Int × List Int)) (p k : Int) : (gstep g p k).map (·.1) = if k ∈ g.map (·.1) then g.map (·.1) else g.map (·.1) ++ [k] := by
  unfold gstep
  split
  · rw [List.map_map]
    refine List.map_congr_left fun kv _ => ?_
    show (if kv.1 = k then (kv.1, kv.2 ++ [p]) else kv).1 = kv.1
    split <;> rfl
  · simp
theorem gstep_nodup {g : List (Int × List Int)} {p k : Int} (h : (g.map (·.1)).Nodup) : ((gstep g p k).map (·.1)).Nodup := by
  rw [gstep_keys]
  split
  · exact h
  · rename_i hk
    rw [List.nodup_append]
    refine ⟨h, by simp, fun a ha b hb => ?_⟩
    rw [List.mem_singleton] at hb
    subst hb
    rintro rfl
    exact hk ha
theorem grpA_nodup (M : List Int) : ∀ i, ((grpA M i).map (·.1)).Nodup
  | 0 => by simp [grpA]
  | i + 1 => gstep_nodup (grpA_nodup M i)
/-- what stands in the groups -/
theorem grpA_mem (M : List Int) : ∀ i kv, kv ∈ grpA M i → ∀ z : Int, z ∈ kv.2 ↔ (0 ≤ z ∧ z < (i : Int) ∧ mk M z.toNat = kv.1)
  | 0, kv, h, z => by simp [grpA] at h
  | i + 1, kv, h, z => by
    unfold grpA gstep at h
    split at h
    · rename_i hk
      obtain ⟨kv0, h0, e⟩ := List.mem_map.mp h
      have ih := grpA_mem M i kv0 h0 z
      by_cases hc : kv0.1 = mk M i
      · rw [if_pos hc] at e
        subst e
        rw [List.mem_append, ih, List.mem_singleton]
        constructor
        · rintro (⟨a, b, c⟩ | rfl)
          · exact ⟨a, by omega, c⟩
          · exact ⟨by omega, by omega, by simpa using hc.symm⟩
        · rintro ⟨a, b, c⟩
          by_cases hz : z < (i : Int)
          · exact .inl ⟨a, hz, c⟩
          · exact .inr (by omega)
      · rw [if_neg hc] at e
        subst e
        rw [ih]
        constructor
        · rintro ⟨a, b, c⟩; exact ⟨a, by omega, c⟩
        · rintro ⟨a, b, c⟩
          refine ⟨a, ?_, c⟩
          by_cases hz : z < (i : Int)
          · exact hz
          · have e : z.toNat = i := by omega
            rw [e] at c
            exact absurd c.symm hc
    · rename_i hk
      rcases List.mem_append.mp h with h0 | h0
      · have ih := grpA_mem M i kv h0 z
        rw [ih]
        constructor
        · rintro ⟨a, b, c⟩; exact ⟨a, by omega, c⟩
        · rintro ⟨a, b, c⟩
          refine ⟨a, ?_, c⟩
          by_cases hz : z < (i : Int)
          · exact hz
          · have e : z.toNat = i := by omega
            rw [e] at c
            exact absurd (List.mem_map.mpr ⟨kv, h0, c.symm⟩) hk
      · rw [List.mem_singleton] at h0
        subst h0
        simp only [List.mem_singleton]
        constructor
        · rintro rfl; exact ⟨by omega, by omega, by simp⟩
        · rintro ⟨a, b, c⟩
          by_cases hz : z < (i : Int)
          · exfalso
            have key := grpA_key M i z.toNat (by omega)
            rw [c] at key
            exact hk key
          · omega
where
  grpA_key (M : List Int) : ∀ i j, j < i → mk M j ∈ (grpA M i).map (·.1)
    | 0, j, h => absurd h (Nat.not_lt_zero j)
    | i + 1, j, h => by
      show mk M j ∈ (gstep (grpA M i) (i : Int) (mk M i)).map (·.1)
      rw [gstep_keys]
      by_cases hj : j < i
      · have := grpA_key M i j hj
        split
        · exact this
        · exact List.mem_append_left _ this
      · have e : j = i := by omega
        subst e
        split
        · assumption
        · simp
theorem grpA_key {M : List Int} {i j : Nat} (h : j < i) : mk M j ∈ (grpA M i).map (·.1) := grpA_mem.grpA_key M i j h
theorem grpA_of_key (M : List Int) : ∀ i k, k ∈ (grpA M i).map (·.1) → ∃ j, j < i ∧ mk M j = k
  | 0, k, h => by simp [grpA] at h
  | i + 1, k, h => by
    have h : k ∈ (gstep (grpA M i) (i : Int) (mk M i)).map (·.1) := h
    rw [gstep_keys] at h
    have old : k ∈ (grpA M i).map (·.1) → ∃ j, j < i + 1 ∧ mk M j = k := fun q => by
      obtain ⟨j, hj, e⟩ := grpA_of_key M i k q
      exact ⟨j, by omega, e⟩
    split at h
    · exact old h
    · rcases List.mem_append.mp h with q | q
      · exact old q
      · rw [List.mem_singleton] at q
        exact ⟨i, by omega, q.symm⟩
/-- one group just where all places are alike -/
theorem grp_one {M : List Int} (hM : 1 ≤ M.length) : (grp M).length = 1 ↔ ∀ i j, i < M.length → j < M.length → mk M i = mk M j := by
  unfold grp
  constructor
  · intro h i j hi hj
    obtain ⟨kv, e⟩ := List.length_eq_one_iff.mp h
    have h1 := grpA_key (M := M) hi
    have h2 := grpA_key (M := M) hj
    rw [e] at h1 h2
    rw [List.map_singleton, List.mem_singleton] at h1 h2
    rw [h1, h2]
  · intro h
    have nd := grpA_nodup M M.length
    have h0 := grpA_key (M := M) (i := M.length) (j := 0) (by omega)
    generalize hg : (grpA M M.length) = g at *
    match g, hg with
    | [], _ => simp at h0
    | [kv], _ => rfl
    | a :: b :: r, hg =>
      exfalso
      obtain ⟨i, hi, e1⟩ := grpA_of_key M M.length a.1 (by rw [hg]; simp)
      obtain ⟨j, hj, e2⟩ := grpA_of_key M M.length b.1 (by rw [hg]; simp)
      have e3 := h i j hi hj
      have : a.1 = b.1 := by rw [← e1, ← e2, e3]
      simp [this] at nd
end My
namespace My
end My

/-! ## sets of ints, in, isinstance -/
namespace My
open PySem L2 PyProof.Rows
theorem inV_ints (z : Int) (l : List Int) : inV (.int z) (IL l) = decide (z ∈ l) := by
  unfold inV
  rw [List.any_map]
  rw [Bool.eq_iff_iff, List.any_eq_true, decide_eq_true_iff]
  constructor
  · rintro ⟨y, hy, e⟩
    have e' : y = z := by simpa [eqV] using e
    rw [← e']; exact hy
  · intro h; exact ⟨z, h, by simp [eqV]⟩
theorem flat_ints (l : List Int) : (IL l).all flatV = true := by
  rw [List.all_map, List.all_eq_true]
  intro x _
  rfl
theorem kit_same {K : PySem.W.Frag} {t : Value} : PySem.W.kitOne K t t = some true := by
  unfold PySem.W.kitOne
  rw [if_pos (beq_self_eq_true t)]
theorem dec_int {a b : Int} : decide (V.int a = V.int b) = decide (a = b) := by
  by_cases h : a = b
  · subst h; simp
  · have h' : ¬ V.int a = V.int b := fun z => h (V.int.inj z)
    rw [decide_eq_false h, decide_eq_false h']
theorem dec_bl {a b : Bool} : decide (V.bl a = V.bl b) = decide (a = b) := by
  by_cases h : a = b
  · subst h; simp
  · have h' : ¬ V.bl a = V.bl b := fun z => h (V.bl.inj z)
    rw [decide_eq_false h, decide_eq_false h']
end My

/-! ## own words about sets of ties, marks and groups -/
namespace My
open PySem L2
/-! from is_set.txt -/
/-- ascending numbers of ties -/
def IsSet (m : Nat) (ns : List Int) : Prop := ∀ i z, ns[i]? = some z → 0 ≤ z ∧ z < (m : Int) ∧ ∀ y, i ≠ 0 → ns[i - 1]? = some y → y < z
/-! from piece_marks.txt -/
/-- the ends of ties -/
def endsOf (ps : List (Int × Int)) (ns : List Int) : List (Nat × Nat) := ns.map fun z => ((ps.getD z.toNat (0, 0)).1.toNat, (ps.getD z.toNat (0, 0)).2.toNat)
theorem endsOf_snoc {ps : List (Int × Int)} {ns : List Int} {i : Nat} {z : Int} (h : ns[i]? = some z) : endsOf ps (ns.take (i + 1)) = endsOf ps (ns.take i) ++ [((ps.getD z.toNat (0, 0)).1.toNat, (ps.getD z.toNat (0, 0)).2.toNat)] := by
  unfold endsOf
  rw [List.take_succ, h]
  simp
theorem mk_some {m : List Int} {i : Nat} (h : i < m.length) : m[i]? = some (mk m i) := by
  rw [List.getElem?_eq_getElem h]
  simp [mk, List.getD_eq_getElem?_getD, List.getElem?_eq_getElem h]
theorem rngI_zero (n : Int) : rngI 0 n = (List.range n.toNat).map fun (i : Nat) => (i : Int) := by
  unfold rngI
  rw [Int.sub_zero]
  refine List.map_congr_left fun i _ => ?_
  omega
/-! from pieces_of.txt -/
/-- the groups' lists stand apart, and none of them stood ahead of the call -/
structure GrpAt (H0 H : Hp) (g : List (Int × List Int)) (as : List Addr) : Prop where
  len : as.length = g.length
  nd : as.Nodup
  at_ : ∀ (i : Nat) (kv : Int × List Int) (a : Addr), g[i]? = some kv → as[i]? = some a → H a = some (.lst (IL kv.2))
  new : ∀ a ∈ as, H0 a = none
theorem IsSet.all {m : Nat} {ns : List Int} (h : IsSet m ns) : ∀ z ∈ ns, 0 ≤ z ∧ z < (m : Int) := fun z hz => by
  obtain ⟨i, hi, e⟩ := List.getElem_of_mem hz
  obtain ⟨a, b, _⟩ := h i z (by rw [List.getElem?_eq_getElem hi, e])
  exact ⟨a, b⟩
/-! from _law_some.txt -/
theorem IsSet.nil (m : Nat) : IsSet m [] := fun i z e => by simp at e
theorem IsSet.up {m : Nat} {ns : List Int} (h : IsSet m ns) : IsSet (m + 1) ns := fun i z e => by
  obtain ⟨a, b, c⟩ := h i z e
  exact ⟨a, by omega, c⟩
theorem IsSet.snoc {m : Nat} {ns : List Int} (h : IsSet m ns) : IsSet (m + 1) (ns ++ [(m : Int)]) := fun i z e => by
  by_cases hi : i < ns.length
  · rw [List.getElem?_append_left hi] at e
    obtain ⟨a, b, c⟩ := h i z e
    refine ⟨a, by omega, fun y h0 ey => ?_⟩
    rw [List.getElem?_append_left (by omega)] at ey
    exact c y h0 ey
  · have hl : i = ns.length := by
      have := (List.getElem?_eq_some_iff.mp e).1
      rw [List.length_append, List.length_singleton] at this
      omega
    subst hl
    rw [List.getElem?_append_right (Nat.le_refl _), Nat.sub_self] at e
    have e : (m : Int) = z := Option.some.inj e
    subst e
    refine ⟨by omega, by omega, fun y h0 ey => ?_⟩
    rw [List.getElem?_append_left (by omega)] at ey
    exact (h _ y ey).2.1
theorem IsSet.len {m : Nat} : ∀ {ns : List Int}, IsSet m ns → ns.length ≤ m := fun {ns} h => by
  have key : ∀ (i : Nat) (z : Int), ns[i]? = some z → (i : Int) ≤ z := by
    intro i
    induction i with
    | zero => intro z e; exact (h 0 z e).1
    | succ i ih =>
      intro z e
      have hi : i < ns.length := by have := (List.getElem?_eq_some_iff.mp e).1; omega
      have e2 : ns[i]? = some ns[i] := List.getElem?_eq_getElem hi
      have := ih _ e2
      have := (h (i + 1) z e).2.2 ns[i] (by omega) (by rw [Nat.add_sub_cancel]; exact e2)
      omega
  by_cases h0 : ns.length = 0
  · omega
  · have e : ns[ns.length - 1]? = some (ns[ns.length - 1]'(by omega)) := List.getElem?_eq_getElem _
    have a := key _ _ e
    have b := (h _ _ e).2.1
    omega
end My

/-! ## list.index, all and any over a list of bools, == of known data -/
namespace L2
open PySem PySem.Spec PyProof.Rows
section
variable {X : Cx}
/-- xs.index(z): the first place -/
def rIndex (K : PySem.W.Frag) : V → List V → Hp → VK → Prop := fun x vs H Q => ∃ (p : Addr) (ns : List Int) (z : Int) (j : Nat), x = .ref p ∧ vs = [.int z] ∧ SqL K H p (ns.map V.int) ∧ ns[j]? = some z ∧ (∀ i, i < j → ns[i]? ≠ some z) ∧ Q (.int j) H
theorem mt_indexK (K : PySem.W.Frag) (h : X.K = K := by rfl) : MtM X "list.index" (rIndex K) := by
  subst h
  intro pins s σ H x vs v us Q I rx rv h
  obtain ⟨p, ns, z, j, rfl, rfl, hq, hj, hno, q⟩ := h
  cases rx
  obtain ⟨u, rfl, t, rfl⟩ := rv.one
  obtain ⟨its, r, ⟨o, n, e, hc, hd, hdat⟩, hz⟩ := I.list hq
  have hl : its.length = ns.length := by rw [← r.length, List.length_map]
  have hjl : j < ns.length := (List.getElem?_eq_some_iff.mp hj).1
  have hsz : sizeLine = 16777216 := sizeLine_eq
  rw [List.length_map] at hz
  obtain ⟨oc, od, odat, osl⟩ := o
  have hc : oc = .type "list" := hc
  have hdat : odat = .seq its.toArray n := hdat
  subst hc hdat
  have at_ : ∀ (i : Nat) (hi : i < its.length), ∃ tk, its[i] = .int (ns[i]'(by omega)) tk := fun i hi => by
    obtain ⟨x, ex, rx⟩ := r.at hi
    rw [List.getElem?_map, List.getElem?_eq_getElem (by omega)] at ex
    have ex : V.int (ns[i]'(by omega)) = x := Option.some.inj ex
    subst ex
    exact rx
  refine call_meets F.slot_list_index ⟨_, e, rfl⟩ F.entry_list_index (F.args_list_index_2 _ _) (SeqAt.list_indexAt p its.toArray n od osl (.int z t) (fun y => eqU (.int z) y) j (by rw [List.size_toArray]; omega) (by omega) ?_ ?_) ⟨e, fun y hy => ?_, ?_⟩
  · obtain ⟨tk, e1⟩ := at_ j (by omega)
    have e2 : ns[j]'(by omega) = z := by
      rw [List.getElem?_eq_getElem hjl] at hj
      exact Option.some.inj hj
    have e3 : its.toArray[j]'(by rw [List.size_toArray]; omega) = .int z tk := by rw [← e2]; simpa using e1
    rw [e3]
    simp [eqU, eqV]
  · intro m hm hmj
    have hm' : m < its.length := by rw [List.size_toArray] at hm; exact hm
    obtain ⟨tk, e1⟩ := at_ m hm'
    have e3 : its.toArray[m]'hm = .int (ns[m]'(by omega)) tk := by simpa using e1
    rw [e3]
    have hne := hno m hmj
    rw [List.getElem?_eq_getElem (by omega)] at hne
    have hne' : ns[m]'(by omega) ≠ z := fun w => hne (congrArg some w)
    simp [eqU, eqV, hne']
  · refine mem_eqAt (x := .int z) ⟨t, rfl⟩ rfl r ?_ y (by simpa using hy)
    rw [List.all_map, List.all_eq_true]
    intro _ _
    rfl
  · exact ⟨.int j, H, I.tok _, ⟨_, rfl⟩, q⟩
theorem truth_bools {prog : Program} {w : World} {A : Around} {its : Array Value} {bs : List Bool} (h : ∀ (i : Nat) (v : Value), its[i]? = some v → ∃ b, bs[i]? = some b ∧ v = .bool b) : TruthOf prog w A (fun i v => its[i]? = some v) (fun i => bs.getD i false) := by
  intro i v s Q E hP hQ
  obtain ⟨b, eb, rfl⟩ := h i v hP
  have hQ : Q (bs.getD i false) s := hQ
  rw [List.getD_eq_getElem?_getD, eb] at hQ
  exact wpAny_truthy_bool hQ
theorem any_getD (bs : List Bool) : (List.range bs.length).any (fun i => bs.getD i false) = bs.any id := by
  rw [Bool.eq_iff_iff, List.any_eq_true, List.any_eq_true]
  constructor
  · rintro ⟨i, hi, e⟩
    have hi := List.mem_range.mp hi
    rw [List.getD_eq_getElem?_getD, List.getElem?_eq_getElem hi] at e
    exact ⟨_, List.getElem_mem hi, e⟩
  · rintro ⟨b, hb, e⟩
    obtain ⟨i, hi, ei⟩ := List.getElem_of_mem hb
    refine ⟨i, List.mem_range.mpr hi, ?_⟩
    rw [List.getD_eq_getElem?_getD, List.getElem?_eq_getElem hi, ei]
    exact e
theorem bools_at {bs : List Bool} {its : List Value} (r : Vals (bs.map V.bl) its) : ∀ (i : Nat) (v : Value), its.toArray[i]? = some v → ∃ b, bs[i]? = some b ∧ v = .bool b := fun i v e => by
  have e : its[i]? = some v := by simpa using e
  have hi : i < its.length := (List.getElem?_eq_some_iff.mp e).1
  obtain ⟨x, ex, rx⟩ := r.at hi
  rw [List.getElem?_map] at ex
  cases eb : bs[i]? with
  | none => rw [eb] at ex; cases ex
  | some b =>
    rw [eb] at ex
    have ex : V.bl b = x := Option.some.inj ex
    subst ex
    rw [List.getElem?_eq_getElem hi] at e
    have e : its[i] = v := Option.some.inj e
    rw [e] at rx
    exact ⟨b, rfl, rx⟩
theorem call_anyK (K : PySem.W.Frag) (hc : X.calm = true) (h : X.K = K := by rfl) : CallR X (.builtin "any") (fun xs H Q => ∃ (p : Addr) (bs : List Bool), xs = [.ref p] ∧ SqL K H p (bs.map V.bl) ∧ Q (.bl (bs.any id)) H) := by
  subst h
  intro pins s σ H xs us Q I r h
  obtain ⟨p, bs, rfl, hq, q⟩ := h
  obtain ⟨u, rfl, ru⟩ := vals1 r
  obtain rfl : u = Value.ref p := ru
  obtain ⟨its, rv, pl, hz⟩ := I.list hq
  have hl : its.toArray.size = bs.length := by rw [List.size_toArray, ← rv.length, List.length_map]
  have hne : p ≠ s.heap.objs.size := Nat.ne_of_lt (let ⟨_, _, e, _⟩ := pl; Heap.lt_size e)
  refine call_any_walk (wpAny_pyIter_list pl.isList ⟨s.heap.objs.size, _, _, _, _, _, _, rfl, Walks.list (A := X.A.in1) (I.ok.hd hc) s.heap.objs.size p hne its.toArray, ⟨⟨_, Heap.get?_push_size _ rfl, rfl, rfl⟩, pl.isList.push _⟩, truth_bools (bools_at rv), fun h' tk hk => ?_⟩)
  rw [hl, any_getD]
  refine ⟨.bl (bs.any id), H, I.kept fun b o e => hk b o ?_ (Heap.get?_push_of_some _ e), rfl, q⟩
  intro z
  rw [List.mem_singleton.mp z] at e
  exact absurd (Heap.lt_size e) (Nat.lt_irrefl _)
end
end L2
namespace My
open PySem L2
section
variable {K : PySem.W.Frag} {H : Hp} {α : Type} [DecidableEq α]
/-- the values bear the data, place by place -/
def Bears (R : V → α → Prop) (xs : List V) (l : List α) : Prop := xs.length = l.length ∧ ∀ (i : Nat) (a : α), l[i]? = some a → ∃ x, xs[i]? = some x ∧ R x a
theorem Bears.at {R : V → α → Prop} {xs : List V} {l : List α} (h : Bears R xs l) {i : Nat} {x : V} (e : xs[i]? = some x) : ∃ a, l[i]? = some a ∧ R x a := by
  have hi : i < xs.length := (List.getElem?_eq_some_iff.mp e).1
  have hl : i < l.length := by rw [← h.1]; exact hi
  obtain ⟨x', e1, q⟩ := h.2 i l[i] (List.getElem?_eq_getElem hl)
  rw [e] at e1
  cases e1
  exact ⟨_, List.getElem?_eq_getElem hl, q⟩
/-- a list of lists of ints -/
def ListV (H : Hp) (v : V) (l : List Int) : Prop := ∃ a, v = .ref a ∧ H a = some (.lst (IL l))
end
end My

/-! ## the groups by first places -/
namespace My
def fstB (M : List Int) (p : Nat) : Bool := (List.range p).all fun i => decide (mk M i ≠ mk M p)
def posA (M : List Int) (k : Int) (i : Nat) : List Int := ((List.range i).filter fun j => decide (mk M j = k)).map fun (j : Nat) => (j : Int)
def fstA (M : List Int) (i : Nat) : List Nat := (List.range i).filter (fstB M)
theorem fstB_iff {M : List Int} {p : Nat} : fstB M p = true ↔ ∀ i, i < p → mk M i ≠ mk M p := by
  unfold fstB
  rw [List.all_eq_true]
  constructor
  · intro h i hi; exact of_decide_eq_true (h i (List.mem_range.mpr hi))
  · intro h i hi; exact decide_eq_true (h i (List.mem_range.mp hi))
theorem posA_succ (M : List Int) (k : Int) (i : Nat) : posA M k (i + 1) = posA M k i ++ (if mk M i = k then [(i : Int)] else []) := by
  unfold posA
  rw [List.range_succ, List.filter_append, List.map_append]
  congr 1
  by_cases h : mk M i = k
  · rw [if_pos h, List.filter_cons, if_pos (by simpa using h)]; rfl
  · rw [if_neg h, List.filter_cons, if_neg (by simpa using h)]; rfl
theorem fstA_succ (M : List Int) (i : Nat) : fstA M (i + 1) = fstA M i ++ (if fstB M i = true then [i] else []) := by
  unfold fstA
  rw [List.range_succ, List.filter_append]
  congr 1
  by_cases h : fstB M i = true
  · rw [if_pos h, List.filter_cons, if_pos h]; rfl
  · rw [if_neg h, List.filter_cons, if_neg h]; rfl
theorem grpA_eq (M : List Int) : ∀ i, grpA M i = (fstA M i).map fun p => (mk M p, posA M (mk M p) i)
  | 0 => rfl
  | i + 1 => by
    have ih := grpA_eq M i
    show gstep (grpA M i) (i : Int) (mk M i) = _
    have hk : (mk M i ∈ (grpA M i).map (·.1)) ↔ fstB M i ≠ true := by
      constructor
      · intro h q
        obtain ⟨j, hj, e⟩ := grpA_of_key M i _ h
        exact fstB_iff.mp q j hj e
      · intro h
        by_cases q : ∃ j, j < i ∧ mk M j = mk M i
        · obtain ⟨j, hj, e⟩ := q
          rw [← e]
          exact grpA_key hj
        · exact absurd (fstB_iff.mpr fun j hj e => q ⟨j, hj, e⟩) h
    unfold gstep
    by_cases h : mk M i ∈ (grpA M i).map (·.1)
    · have hf := hk.mp h
      rw [if_pos h, fstA_succ, if_neg hf, List.append_nil, ih, List.map_map]
      refine List.map_congr_left fun p _ => ?_
      show (if mk M p = mk M i then (mk M p, posA M (mk M p) i ++ [(i : Int)]) else (mk M p, posA M (mk M p) i)) = (mk M p, posA M (mk M p) (i + 1))
      rw [posA_succ]
      by_cases e : mk M p = mk M i
      · rw [if_pos e, if_pos e.symm]
      · rw [if_neg e, if_neg (fun z => e z.symm), List.append_nil]
    · have hf : fstB M i = true := by
        cases q : fstB M i with
        | true => rfl
        | false => exact absurd (hk.mpr (by rw [q]; exact Bool.false_ne_true)) h
      rw [if_neg h, fstA_succ, if_pos hf, List.map_append, ih]
      congr 1
      · refine List.map_congr_left fun p hp => ?_
        have hpi : p < i := List.mem_range.mp (List.mem_filter.mp hp).1
        rw [posA_succ, if_neg (fun z => fstB_iff.mp hf p hpi z.symm), List.append_nil]
      · show [(mk M i, [(i : Int)])] = [(mk M i, posA M (mk M i) (i + 1))]
        rw [posA_succ, if_pos rfl]
        have e0 : posA M (mk M i) i = [] := by
          unfold posA
          rw [List.filter_eq_nil_iff.mpr fun j hj => by simpa using fstB_iff.mp hf j (List.mem_range.mp hj)]
          rfl
        rw [e0]
        rfl
end My

/-! ## more own words -/
namespace My
open PySem L2
theorem Bears.snoc {α : Type} [DecidableEq α] {R : V → α → Prop} {xs : List V} {l : List α} {x : V} {a : α} (h : Bears R xs l) (hx : R x a) : Bears R (xs ++ [x]) (l ++ [a]) := by
  refine ⟨by rw [List.length_append, List.length_append, h.1]; rfl, fun i b e => ?_⟩
  by_cases hi : i < l.length
  · rw [List.getElem?_append_left hi] at e
    rw [List.getElem?_append_left (by rw [h.1]; exact hi)]
    exact h.2 i b e
  · have hl : i = l.length := by
      have := (List.getElem?_eq_some_iff.mp e).1
      rw [List.length_append, List.length_singleton] at this
      omega
    subst hl
    rw [List.getElem?_append_right (Nat.le_refl _), Nat.sub_self] at e
    rw [List.getElem?_append_right (by rw [h.1]; exact Nat.le_refl _), h.1, Nat.sub_self]
    have e' : a = b := Option.some.inj e
    subst e'
    exact ⟨x, rfl, hx⟩
theorem Bears.imp {α : Type} [DecidableEq α] {R R' : V → α → Prop} {xs : List V} {l : List α} (h : Bears R xs l) (f : ∀ x a, R x a → R' x a) : Bears R' xs l := ⟨h.1, fun i a e => let ⟨x, e1, r⟩ := h.2 i a e; ⟨x, e1, f x a r⟩⟩
end My

/-! ## exceptions of own classes: raised, passing a def, caught by a try -/
namespace L2
open PySem PySem.Spec PyProof.Rows
theorem ObjOk.there {P : Program} {w : World} {H : Hp} {h : Heap} {a : Addr} {o : HO} (x : ObjOk P w H h a o) : ∃ u, h.get? a = some u := by
  cases o with
  | lst xs => obtain ⟨_, _, _, _, e⟩ := x; exact ⟨_, e⟩
  | tup xs => obtain ⟨_, _, _, o, e, _⟩ := x; exact ⟨_, e⟩
  | dK kvs => obtain ⟨_, _, _, _, o, _, _, e, _⟩ := x; exact ⟨_, e⟩
  | dT kvs => obtain ⟨_, _, _, _, o, _, _, e, _⟩ := x; exact ⟨_, e⟩
  | set S n => obtain ⟨o, _, _, _, e, _⟩ := x; exact ⟨_, e⟩
  | ins C dx fs => obtain ⟨_, _, _, e, _⟩ := x; exact ⟨_, e⟩
  | own y => exact x
  | xd fs => obtain ⟨_, ⟨_, _, _, e, _⟩, _⟩ := x; exact ⟨_, e⟩
  | rng lo hi => obtain ⟨_, _, _, e⟩ := x; exact ⟨_, e⟩
  | frz ob u => obtain ⟨e, _⟩ := x; exact ⟨_, e⟩
  | tbl ps => exact ⟨_, x⟩
  | met f y => exact ⟨_, x⟩
  | ext φ => obtain ⟨_, e, _⟩ := x; exact e
/-- an exception in flight at e, of the class C: it and its last entry are new and not tracked -/
structure Fly (h0 : Heap) (H : Hp) (e C : Addr) (h : Heap) : Prop where
  ex : ∃ oe vs T oT ts a0, h.get? e = some oe ∧ oe.cls = .ref C ∧ oe.data = .fields vs ∧ vs[0]? = some a0 ∧ vs[1]? = some (.ref T) ∧ T ≠ e ∧ h.get? T = some oT ∧ oT.data = .fields ts ∧ ts[3]? = some .none ∧ h0.get? T = none ∧ H T = none
  new : h0.get? e = none
  free : H e = none
/-- how it lies behind a call -/
def CXW (P : Program) (w : World) : CXT := fun outer H s E ev s' => ∃ (e C : Addr) (H' : Hp), ev = Value.ref e ∧ s'.os = s.os ∧ AllBare s'.gens ∧ Un (frs outer) [] H H' s.heap s'.heap ∧ HOk P w H' s'.heap ∧ Fly s.heap H' e C s'.heap ∧ E (.ref C) none H'
section
variable {X : Cx} {pins : List (Addr × Obj)} {σ : St} {H : Hp} {s : Shared} {e C : Addr}
/-- the ground that a step of an exception leaves as it is -/
abbrev grd (X : Cx) (h : Heap) (ns : List Addr) : Heap := PySem.W.hideAll h (frs X.stack ++ ns)
theorem grd_get {h : Heap} {ns : List Addr} {b : Addr} {o : Obj} (q : h.get? b = some o) (h1 : b ∉ frs X.stack) (h2 : b ∉ ns) : (grd X h ns).get? b = some o :=
  PySem.W.hideAll_get _ q fun z => (List.mem_append.mp z).elim h1 h2
theorem grd_of {h : Heap} {ns : List Addr} : (grd X h ns).StaysIn h := fun _ _ q => PySem.W.of_hideAll _ q
theorem Inv.was (I : Inv X pins σ H s) (hex : X.ex = []) {b : Addr} (h : s.heap.get? b = none) : X.s₀.heap.get? b = none := by
  cases q : X.s₀.heap.get? b with
  | none => rfl
  | some o =>
    obtain ⟨o', e⟩ := I.base.there b o q (by rw [hex]; simp)
    rw [h] at e; cases e
/-- what is kept where the ground stays -/
theorem hok_grd {P : Program} {w : World} {h' : Heap} {ns : List Addr} {h : Heap} (ok : HOk P w H h) (hf : ∀ b ∈ frs X.stack, H b = none) (hns : ∀ b ∈ ns, H b = none) (k : (grd X h ns).StaysIn h') : HOk P w H h' := fun a o q =>
  (ok a o q).stay (fun b u hb g => k b u (grd_get g (fun z => by
    have := hf b z
    rcases hb with rfl | hb
    · rw [q] at this; cases this
    · rw [hb] at this; cases this) fun z => by
    have := hns b z
    rcases hb with rfl | hb
    · rw [q] at this; cases this
    · rw [hb] at this; cases this)) (fun _ z => z) fun _ _ z => z
theorem frs_stack (hst : X.stack = X.env :: X.outer) (hfr : X.env.frame = some X.env.locals) : frs X.stack = X.env.locals :: frs X.outer := by
  rw [hst]
  unfold frs
  rw [List.filterMap_cons, hfr]
/-- behind the step by which it leaves the frame -/
theorem cx_left (hst : X.stack = X.env :: X.outer) (hfr : X.env.frame = some X.env.locals) (hex : X.ex = []) (I : Inv X pins σ H s) {ns : List Addr} (hns : ∀ b ∈ ns, X.s₀.heap.get? b = none ∧ H b = none) {h' : Heap} {a0 : Value} {E : XK} {s' : Shared}
    (hfl : Heap.FlyingW (grd X s.heap ns) X.outer e (.ref C) a0 h') (up : s.heap.UpToSlots h') (ne : X.s₀.heap.get? e = none) (fe : H e = none) (hE : E (.ref C) none H) (hs : s'.heap = h') (ho : s'.os = s.os) (hg : s'.gens = s.gens) :
    CXW X.prog X.w X.outer X.H₀ X.s₀ E (.ref e) s' := by
  subst hs
  have fst := frs_stack (X := X) hst hfr
  have noL : ∀ b o, X.s₀.heap.get? b = some o → b ≠ X.env.locals := fun b o q => Nat.ne_of_lt (Nat.lt_of_lt_of_le (Heap.lt_size q) I.ok.above)
  have nns : ∀ b o, X.s₀.heap.get? b = some o → b ∉ ns := fun b o q z => by rw [(hns b z).1] at q; cases q
  have nfs : ∀ b o, X.s₀.heap.get? b = some o → b ∉ frs X.outer → b ∉ frs X.stack := fun b o q n z => by
    rw [fst] at z
    rcases List.mem_cons.mp z with z | z
    · exact noL b o q z
    · exact n z
  have nex : ∀ b, b ∉ X.ex := fun b z => by rw [hex] at z; cases z
  have keep : ∀ b o u, X.s₀.heap.get? b = some o → b ∉ frs X.outer → s.heap.get? b = some u → s'.heap.get? b = some u := fun b o u q n g => hfl.1 b u (grd_get g (nfs b o q n) (nns b o q))
  have slot : ∀ b u, b ∈ frs X.outer → s.heap.get? b = some u → ∃ sl, s'.heap.get? b = some { u with slots := sl } := fun b u hb g => by
    obtain ⟨_, o', ho', hd⟩ := I.funs.mem hb
    rw [g] at ho'
    cases ho'
    exact up b u g hd
  refine ⟨e, C, H, rfl, ho.trans I.os, hg ▸ I.bare, ⟨fun b o q n hb _ => ?_, fun b o q n hb _ => ?_, fun b o q n _ => I.base.free b o q n (nex b), fun b o q _ => ?_, I.base.tups, I.base.frzs, I.base.tbls⟩, hok_grd I.hok I.stkFree (fun b hb => (hns b hb).2) hfl.1, ⟨?_, ne, fe⟩, hE⟩
  · exact keep b o o q hb (I.base.keep b o q n hb (nex b))
  · obtain ⟨sl, g⟩ := I.base.slot b o q n hb (nex b)
    obtain ⟨sl', g'⟩ := slot b _ hb g
    exact ⟨sl', g'⟩
  · obtain ⟨u, g⟩ := I.base.there b o q (nex b)
    by_cases hb : b ∈ frs X.outer
    · obtain ⟨sl, g'⟩ := slot b u hb g
      exact ⟨_, g'⟩
    · exact ⟨u, keep b o u q hb g⟩
  · obtain ⟨f1, f2, f3, oe, vs, T, oT, ts, he, ⟨hc, h0⟩, hd, h1, hnT, hTe, hT, hdT, h3⟩ := hfl
    refine ⟨oe, vs, T, oT, ts, a0, he, hc, hd, h0, h1, hTe, hT, hdT, h3, ?_, ?_⟩
    · cases q : X.s₀.heap.get? T with
      | none => rfl
      | some o =>
        obtain ⟨u, g⟩ := I.base.there T o q (nex T)
        by_cases hb : T ∈ frs X.outer
        · obtain ⟨_, o', ho', hd'⟩ := f3.mem hb
          rw [hT] at ho'
          cases ho'
          exact absurd hdT (hd' ts)
        · rw [grd_get g (nfs T o q hb) (nns T o q)] at hnT
          cases hnT
    · cases q : H T with
      | none => rfl
      | some ho =>
        obtain ⟨u, g⟩ := (I.hok T ho q).there
        rw [grd_get g (fun z => by rw [I.stkFree T z] at q; cases q) (fun z => by rw [(hns T z).2] at q; cases q)] at hnT
        cases hnT
theorem fly_base (hst : X.stack = X.env :: X.outer) (I : Inv X pins σ H s) {h0 : Heap} (F : Fly h0 H e C s.heap) : ∃ T a0, Heap.FlyingW (grd X s.heap [e, T]) X.stack e (.ref C) a0 s.heap ∧ h0.get? T = none ∧ H T = none := by
  obtain ⟨oe, vs, T, oT, ts, a0, he, hc, hd, h0', h1, hTe, hT, hdT, h3, nT, fT⟩ := F.ex
  refine ⟨T, a0, ⟨grd_of, PySem.W.hideAll_none _ (by simp), ?_, oe, vs, T, oT, ts, he, ⟨hc, h0'⟩, hd, h1, PySem.W.hideAll_none _ (by simp), hTe, hT, hdT, h3⟩, nT, fT⟩
  exact PySem.W.funFrames_hide I.stack fun env henv a hf => List.mem_append_left _ (List.mem_filterMap.mpr ⟨env, henv, hf⟩)
/-- it leaves the frame on its way -/
theorem leave_fly (hst : X.stack = X.env :: X.outer) (hfr : X.env.frame = some X.env.locals) (hex : X.ex = []) (I : Inv X pins σ H s) (F : Fly X.s₀.heap H e C s.heap) {E : XK} (hE : E (.ref C) none H) {E' : Value → Shared → Prop} :
    wpAny (model X.prog X.w) X.A (leaving X.env (.ref e)) (fun _ s'' => CXW X.prog X.w X.outer X.H₀ X.s₀ E (.ref e) s'') E' s := by
  obtain ⟨T, a0, fl, nT, fT⟩ := fly_base hst I F
  rw [hst] at fl
  refine wpAny_leaves_onW (by rw [I.ok.frames, hst]) hfr fl fun h' fl' up => ?_
  refine cx_left hst hfr hex I (fun b hb => ?_) fl' up F.new F.free hE rfl rfl rfl
  rcases List.mem_cons.mp hb with rfl | hb
  · exact ⟨F.new, F.free⟩
  · rw [List.mem_singleton.mp hb]; exact ⟨nT, fT⟩
/-- it is raised here and leaves the frame -/
theorem leave_made (hst : X.stack = X.env :: X.outer) (hfr : X.env.frame = some X.env.locals) (hex : X.ex = []) (I : Inv X pins σ H s) {h' : Heap} {vs : List Value} (hm : Heap.MadeExcOf s.heap h' e (.ref C) vs) {E : XK} (hE : E (.ref C) none H) {E' : Value → Shared → Prop} :
    wpAny (model X.prog X.w) X.A (leaving X.env (.ref e)) (fun _ s'' => CXW X.prog X.w X.outer X.H₀ X.s₀ E (.ref e) s'') E' { s with heap := h' } := by
  have ff : s.heap.FunFrames (grd X s.heap []) X.stack := PySem.W.funFrames_hide I.stack fun env henv a hf => List.mem_append_left _ (List.mem_filterMap.mpr ⟨env, henv, hf⟩)
  rw [hst] at ff
  refine wpAny_leaves_madeW (base := grd X s.heap []) (h := s.heap) (by rw [I.ok.frames, hst]) hfr grd_of ff hm fun h'' t fl _ _ up => ?_
  have fe : H e = none := by
    cases q : H e with
    | none => rfl
    | some ho =>
      obtain ⟨u, g⟩ := (I.hok e ho q).there
      rw [hm.new] at g
      cases g
  exact cx_left (s' := { s with heap := h'' }) hst hfr hex I (fun b hb => by cases hb) fl ((Heap.UpToSlots.of_keeps hm.keeps).trans up) (I.was hex hm.new) fe hE rfl rfl rfl
/-- the state behind a call that ended in an exception -/
theorem Inv.flown {E : XK} {ev : Value} {s' : Shared} (I : Inv X pins σ H s) (h : CXW X.prog X.w X.stack H s E ev s') : ∃ e C H', ev = Value.ref e ∧ Inv X pins σ H' s' ∧ Fly s.heap H' e C s'.heap ∧ E (.ref C) none H' := by
  obtain ⟨e, C, H', rfl, ho, hg, u, ok, F, hE⟩ := h
  exact ⟨e, C, H', rfl, I.call' (ch := []) ho u ok hg (fun _ z => nomatch z), F, hE⟩
theorem Fly.older {h0 h1 h : Heap} (F : Fly h0 H e C h) (k : ∀ b, h0.get? b = none → h1.get? b = none) : Fly h1 H e C h := by
  obtain ⟨oe, vs, T, oT, ts, a0, he, hc, hd, h0', h1', hTe, hT, hdT, h3, nT, fT⟩ := F.ex
  exact ⟨⟨oe, vs, T, oT, ts, a0, he, hc, hd, h0', h1', hTe, hT, hdT, h3, k _ nT, fT⟩, k _ F.new, F.free⟩
end
section
variable {P : Program} {w : World} {K : PySem.W.Frag} {mg : Str → Option Value} {base : Heap}
/-- a callee's exception passes a def -/
theorem pxs {N : List Str} {qual : Str} {scope : Scope} {f : Addr} {cd : Value} {A : Around} {outer : List Env} {s : Shared} {H : Hp} {E : XK} : Passes (CXW P w) (cxOf (CXW P w) P w K mg base N qual scope f cd A outer s H E) E := by
  intro pins σ H1 s1 ev s' I h
  obtain ⟨e, C, H', rfl, J, F, hE⟩ := I.flown h
  exact leave_fly rfl rfl rfl J (F.older fun b hb => I.was rfl hb) hE
/-- THE RULE for a def that may raise -/
theorem Fun.okX {x qual : Str} {st : Stmt} {f : Addr} {fd : FuncData} {N ps : List Str} {k : Nat} {sp : Sp} (F : Fun K x qual st f fd) (S : FnScope N ps (defScope st)) (len : ∀ vs H Q E, sp vs H Q E → vs.length = ps.length)
    (hbody : ∀ (cdv : Value) (A : Around) (outer : List Env) (s : Shared) (H : Hp) (vs : List V) (Q : VK) (E : XK), Room k (A.deeper (envOfC qual (defScope st) s.heap.objs.size f cdv)) → sp vs H Q E →
      ∃ t, PSs (cxOf (CXW P w) P w K mg base N qual (defScope st) f cdv A outer s H E) (defBody st) t ∧ t { nx := fun _ H' => Q .non H', rt := Q } (start N vs) H) : FnOk P w K mg base (CXW P w) (k + 1) f fd ps sp := by
  obtain ⟨oc, od, kV, doc, pm, an, cdv, ct, osl, rfl, lk, hcd⟩ := F.ex
  exact fn_of lk hcd S len fun A outer s H vs Q E hr hsp => hbody cdv A outer s H vs Q E hr hsp
end
/-- what of the text an own exception's class must have -/
structure XCls (K : PySem.W.Frag) (C : Addr) : Prop where
  ex : PySem.W.excIn K C [.type "ValueError", .type "Exception", .type "BaseException", .type "object"] "ValueError.__new__" = true
  ga : PySem.W.findIn K (.ref C) "__getattribute__" = some (some (.builtin "BaseException.__getattribute__"))
  gh : PySem.W.findIn K (.ref C) "__getattr__" = some none
  cl : PySem.W.findIn K (.ref C) "__class__" = some (some (.builtin "object.__class__"))
  ob : PySem.W.mroIn K C (.type "object") = some true
  bx : PySem.W.mroIn K C (.type "BaseException") = some true
theorem XCls.obj {K : PySem.W.Frag} {C : Addr} {h : Heap} (c : XCls K C) (X : K.In h) : ∃ bm N nm q bs hdct sn sub ab col dd k0 k1 k2 k3 k5 mN, h.get? C = some (excClassObj nm q C N bs bm hdct sn sub ab col dd k0 k1 k2 k3 k5 "ValueError.__new__") ∧ h.Ns N mN ∧ mN "__init__" = none ∧ OwnTail h [.type "ValueError", .type "Exception", .type "BaseException", .type "object"] bm := by
  have q := c.ex
  unfold PySem.W.excIn at q
  split at q
  · rename_i dd cd sl ho
    split at q
    · rename_i C' bm k0 k1 k2 k3 n k5 hm hs
      simp only [Bool.and_eq_true, beq_iff_eq, Bool.not_eq_true'] at q
      obtain ⟨⟨⟨⟨⟨rfl, rfl⟩, hdel⟩, ht⟩, hok⟩, hni⟩ := q
      obtain ⟨nm, bs, mro, ns, qn, hd, sn, sub, ab, col, del⟩ := cd
      dsimp only at hm hdel hok hni
      subst hm hdel
      have hsl : sl = #[k0, k1, k2, k3, some (.builtin "ValueError.__new__"), k5] := by
        obtain ⟨l⟩ := sl
        simp only at hs
        rw [hs]
      subst hsl
      exact ⟨bm, ns, nm, qn, bs, hd, sn, sub, ab, col, dd, k0, k1, k2, k3, k5, _, X _ _ ho, .of_isNs (PySem.W.isNs_of_in X hok), PySem.W.nsMap_none_of_in X hok hni, PySem.W.tail_of_in X ht⟩
    · cases q
  · cases q
/-- raise C(e, ..) -/
def tRaise (C : Addr) (E : XK) (t : TA) : TS := fun _ σ H => t σ H fun vs H1 => vs.length ≤ sizeLine ∧ E (.ref C) none H1
theorem ps_raise {P : Program} {w : World} {K : PySem.W.Frag} {mg : Str → Option Value} {base : Heap} {N : List Str} {qual : Str} {scope : Scope} {f : Addr} {cd : Value} {A : Around} {outer : List Env} {s0 : Shared} {H0 : Hp} {E : XK} {C : Addr} {x : Str} {np cpos pos : Pos} {e₀ : Expr} {rest : List Expr} {t : TA}
    (c : XCls K C) (hm : mg x = some (.ref C)) (ha : PA (cxOf (CXW P w) P w K mg base N qual scope f cd A outer s0 H0 E) (e₀ :: rest) t)
    (hg : Gl (cxOf (CXW P w) P w K mg base N qual scope f cd A outer s0 H0 E) x := by rfl) (hd : (x == ("__debug__" : Str)) = false := by decide)
    (he : starEach (e₀ :: rest) (cxOf (CXW P w) P w K mg base N qual scope f cd A outer s0 H0 E).env = (false, eval e₀ (cxOf (CXW P w) P w K mg base N qual scope f cd A outer s0 H0 E).env) :: starEach rest (cxOf (CXW P w) P w K mg base N qual scope f cd A outer s0 H0 E).env := by rfl)
    (hplain : (backTo cpos (starEach rest (cxOf (CXW P w) P w K mg base N qual scope f cd A outer s0 H0 E).env)).any (·.1) = false := by rfl) :
    PS (cxOf (CXW P w) P w K mg base N qual scope f cd A outer s0 H0 E) (.Raise (some (.Call (.Name x np) (e₀ :: rest) [] cpos)) none pos) (tRaise C E t) := by
  intro pins s σ H D I h
  obtain ⟨tl, NN, nm, q, bs, hdct, sn, sub, ab, col, dd, k0, k1, k2, k3, k5, mN, hC, hN, hni, T⟩ := c.obj I.ok.mod.kin
  refine wpAny_Raise_call_subT (C := C) (nm := nm) (q := q) (N := NN) (bs := bs) (bm := tl) (hdct := hdct) (sn := sn) (sub := sub) (ab := ab) (col := col) (dd := dd) (k0 := k0) (k1 := k1) (k2 := k2) (k3 := k3) (k5 := k5)
    PySem.F.excBase_ValueError (mN := mN) (T.hasType PySem.F.excBase_ValueError.hasBase) (I.ok.hd rfl) (by rw [he]; show (false || (backTo cpos (starEach rest _)).any (·.1)) = false; rw [hplain]; rfl) hni (ld_glob I hg hm ⟨rfl, ?_⟩ hd)
  have h := ha cpos pins s σ H _ I h
  rw [he] at h ⊢
  refine Calls.evalArgs_plain (wpAny_mono h (fun vs s₂ h₂ => ?_) fun _ _ y => y)
  obtain ⟨zs, H2, I2, rz, hz, hE⟩ := h₂
  refine ⟨rfl, by rw [← rz.length]; exact hz, I2.bk _ _ hC, hN.keeps I2.bk, T.keeps I2.bk, fun h' e hme => ?_⟩
  exact leave_made rfl rfl rfl I2 hme hE
end L2

/-! ## try, except C as e; isinstance of a caught exception -/
namespace L2
open PySem PySem.Spec PyProof.Rows
section
variable {X : Cx} {pins : List (Addr × Obj)} {σ : St} {H : Hp} {s : Shared} {e C : Addr}
end
/-! ### the contexts within a try -/
section
variable {X : Cx} {pins pins' : List (Addr × Obj)} {σ : St} {H : Hp} {s : Shared} {R : St → XK} {e C : Addr} {oe : Obj}
end
/-! ### calls that may raise, by what is wanted at these names' values -/
section
variable {X : Cx} {CX : CXT} {k : Nat} {f C : Addr} {fd : FuncData} {ps : List Str} {sp : Sp} {dvs : List V} {ds : List Value} {R : St → XK} {x m : Str} {p pos apos : Pos} {e o : Expr} {es : List Expr} {ta : TE} {t : TA}
end
/-! ### the statement -/
end L2

/-! ## isinstance of a caught exception -/
namespace L2
open PySem PySem.Spec PyProof.Rows PySem.W PySem.Calls Builtin Builtin.ObjectAttr Builtin.Getset_descriptor
section
variable {prog : Program} {w : World} {A : Around} {E : Value → Shared → Prop} {K : PySem.W.Frag} {x C : Addr} {ox : Obj}
end
theorem XCls.isSome {K : PySem.W.Frag} {C : Addr} (c : XCls K C) : (clsIn K C).isSome = true := by
  have q := c.ex
  unfold excIn at q
  unfold clsIn
  split at q
  · rename_i dd cd sl ho
    rw [ho]
    rfl
  · cases q
section
variable {X : Cx}
end
end L2

/-! ## f-texts of ints -/
namespace L2
open PySem PySem.Spec PyProof.Rows
section
variable {X : Cx} {es : List Expr} {e : Expr} {te : TE} {t : St → Hp → (Hp → Prop) → Prop} {pos : Pos}
end
end L2

namespace L2
open PySem PySem.Spec PyProof.Rows
/-- no exception is let through -/
theorem passN {P : Program} {w : World} {X : Cx} : Passes (CXW P w) X E0 := fun _ _ _ _ _ _ _ h => by
  obtain ⟨_, _, _, _, _, _, _, _, _, z⟩ := h
  exact z.elim
end L2

/-! ## lists of ints: slices, sums of lists -/
namespace My
open PySem L2
theorem cat_ok {H : Hp} {p1 p2 : Addr} {l1 l2 : List Int} {Q : VK} (h1 : H p1 = some (.lst (IL l1))) (h2 : H p2 = some (.lst (IL l2))) (hl : l1.length + l2.length ≤ 1000000) (k : ∀ r, H r = none → Q (.ref r) (upd H r (.lst (IL (l1 ++ l2))))) : rCat (.ref p1) (.ref p2) H Q := by
  refine ⟨p1, p2, _, _, rfl, rfl, h1, h2, ?_, fun r hr => ?_⟩
  · rw [il_length, il_length]
    exact small60 hl
  · have := k r hr
    rw [il_append] at this
    exact this
def cutI (ns : List Int) (lo hi : Option Int) : List Int := (ns.drop (HT.sIx ns.length 0 lo)).take (HT.sIx ns.length ns.length hi - HT.sIx ns.length 0 lo)
theorem cutI_eq (ns : List Int) (lo hi : Option Int) : cutV (IL ns) lo hi = IL (cutI ns lo hi) := by
  unfold cutV cutI
  rw [il_take, il_drop, il_length]
end My

/-! ## what the laws share: the web made, the number of turns -/
namespace My
open PySem L2
theorem xI {α : Type} {p : α → Prop} {w : α} (h : p w) : ∃ x, p x := ⟨w, h⟩
end My

/-! ## sorted(ints), reversed(list), list(reversed(list)) -/
namespace L2
open PySem PySem.Spec PyProof.Rows
theorem vals_of_ints : ∀ {us : List Value} {ns : List Int}, IntsAre us ns → Vals (ns.map V.int) us
  | [], [], _ => .nil
  | _ :: _, [], h => by cases h
  | [], _ :: _, h => by cases h
  | u :: us, n :: ns, h => by
    cases h with
    | cons _ _ t => exact .cons ⟨_, rfl⟩ (vals_of_ints t)
section
variable {X : Cx}
end
/-! ### reversed(list) -/
section
variable {X : Cx}
section
variable {prog : Program} {w : World} {A : Around} {E : Value → Shared → Prop} {s : Shared} {it a : Addr} {items : Array Value}
end
end
section
variable {X : Cx} {p p2 pos pos2 : Pos} {e : Expr} {t : TA}
end
end L2

/-! ## sets of ties: ascending lists -/
namespace My
open PySem L2
theorem isSet_iff {m : Nat} {ns : List Int} : IsSet m ns ↔ (∀ z ∈ ns, 0 ≤ z ∧ z < (m : Int)) ∧ ns.Pairwise (· < ·) := by
  constructor
  · intro h
    refine ⟨h.all, ?_⟩
    rw [List.pairwise_iff_getElem]
    intro i j hi hj hij
    induction j with
    | zero => exact absurd hij (Nat.not_lt_zero i)
    | succ j ih =>
      have hj' : j < ns.length := by omega
      have key := (h (j + 1) ns[j + 1] (List.getElem?_eq_getElem hj)).2.2 ns[j] (by omega) (by rw [Nat.add_sub_cancel]; exact List.getElem?_eq_getElem hj')
      by_cases e : i = j
      · subst e; exact key
      · have := ih hj' (by omega)
        omega
  · rintro ⟨ha, hp⟩ i z hz
    obtain ⟨hi, ei⟩ := List.getElem?_eq_some_iff.mp hz
    have hm := ha z (List.mem_of_getElem? hz)
    refine ⟨hm.1, hm.2, fun y h0 hy => ?_⟩
    obtain ⟨hi', ei'⟩ := List.getElem?_eq_some_iff.mp hy
    have := List.pairwise_iff_getElem.mp hp (i - 1) i hi' hi (by omega)
    rw [ei, ei'] at this
    exact this
theorem lt_nodup {ns : List Int} (h : ns.Pairwise (· < ·)) : ns.Nodup := h.imp fun hab e => by omega
theorem IsSet.nodup {m : Nat} {ns : List Int} (h : IsSet m ns) : ns.Nodup := lt_nodup (isSet_iff.mp h).2
end My

/-! ## joined places: the closure of the ties; how many pieces there are -/
namespace My
theorem snoc_ind {α : Type} {P : List α → Prop} (h0 : P []) (h1 : ∀ l x, P l → P (l ++ [x])) : ∀ l, P l := by
  intro l
  rw [← List.reverse_reverse l]
  induction l.reverse with
  | nil => exact h0
  | cons x r ih =>
    rw [List.reverse_cons]
    exact h1 _ _ ih
/-- two places are joined over ties -/
inductive Conn (es : List (Nat × Nat)) : Nat → Nat → Prop
  | refl (i : Nat) : Conn es i i
  | edge {a b : Nat} (h : (a, b) ∈ es) : Conn es a b
  | symm {i j : Nat} : Conn es i j → Conn es j i
  | trans {i j k : Nat} : Conn es i j → Conn es j k → Conn es i k
theorem Conn.mono {es fs : List (Nat × Nat)} (h : ∀ e ∈ es, e ∈ fs) {i j : Nat} (c : Conn es i j) : Conn fs i j := by
  induction c with
  | refl i => exact .refl i
  | edge q => exact .edge (h _ q)
  | symm _ ih => exact .symm ih
  | trans _ _ i1 i2 => exact .trans i1 i2
theorem mk_range {n i : Nat} (h : i < n) : mk ((List.range n).map fun (i : Nat) => (i : Int)) i = (i : Int) := by
  rw [mk_map' h]
where
  mk_map' {n i : Nat} (h : i < n) : mk ((List.range n).map fun (i : Nat) => (i : Int)) i = (i : Int) := by
    simp [mk, List.getD_eq_getElem?_getD, List.getElem?_map, List.getElem?_range h]
def InN (n : Nat) (es : List (Nat × Nat)) : Prop := ∀ e ∈ es, e.1 < n ∧ e.2 < n
theorem InN.snoc {n : Nat} {es : List (Nat × Nat)} {e : Nat × Nat} (h : InN n (es ++ [e])) : InN n es ∧ e.1 < n ∧ e.2 < n := ⟨fun x hx => h x (List.mem_append_left _ hx), h e (by simp)⟩
theorem lms_edge {n : Nat} : ∀ es : List (Nat × Nat), InN n es → ∀ e ∈ es, mk (lms n es) e.1 = mk (lms n es) e.2 := by
  refine snoc_ind (fun _ e h => by cases h) fun es x ih hn e he => ?_
  obtain ⟨h1, h2, h3⟩ := hn.snoc
  have hl := lms_length n es
  have hx := hn e he
  rw [lms_snoc]
  refine (lm_iff (by omega) (by omega)).mpr ?_
  rcases List.mem_append.mp he with q | q
  · exact .inl (ih h1 e q)
  · rw [List.mem_singleton.mp q]
    exact .inr ⟨.inl rfl, .inr rfl⟩
theorem lms_conn {n : Nat} : ∀ es : List (Nat × Nat), InN n es → ∀ i j, i < n → j < n → mk (lms n es) i = mk (lms n es) j → Conn es i j := by
  refine snoc_ind (fun _ i j hi hj h => ?_) fun es x ih hn i j hi hj h => ?_
  · have h : mk ((List.range n).map fun (i : Nat) => (i : Int)) i = mk ((List.range n).map fun (i : Nat) => (i : Int)) j := h
    rw [mk_range hi, mk_range hj] at h
    have : i = j := by omega
    subst this
    exact .refl i
  · obtain ⟨h1, h2, h3⟩ := hn.snoc
    have hl := lms_length n es
    have up : ∀ {i j : Nat}, Conn es i j → Conn (es ++ [x]) i j := fun c => c.mono fun e he => List.mem_append_left _ he
    have ex : Conn (es ++ [x]) x.1 x.2 := .edge (by simp)
    rw [lms_snoc] at h
    rcases (lm_iff (by omega) (by omega)).mp h with q | ⟨q1, q2⟩
    · exact up (ih h1 i j hi hj q)
    · have ci : Conn (es ++ [x]) i x.1 := by
        rcases q1 with q | q
        · exact up (ih h1 i _ hi h2 q)
        · exact (up (ih h1 i _ hi h3 q)).trans ex.symm
      have cj : Conn (es ++ [x]) j x.1 := by
        rcases q2 with q | q
        · exact up (ih h1 j _ hj h2 q)
        · exact (up (ih h1 j _ hj h3 q)).trans ex.symm
      exact ci.trans cj.symm
theorem conn_lms {n : Nat} {es : List (Nat × Nat)} (hn : InN n es) {i j : Nat} (c : Conn es i j) : i = j ∨ (i < n ∧ j < n ∧ mk (lms n es) i = mk (lms n es) j) := by
  induction c with
  | refl i => exact .inl rfl
  | edge q => exact .inr ⟨(hn _ q).1, (hn _ q).2, lms_edge es hn _ q⟩
  | symm _ ih =>
    rcases ih with e | ⟨a, b, c⟩
    · exact .inl e.symm
    · exact .inr ⟨b, a, c.symm⟩
  | trans _ _ i1 i2 =>
    rcases i1 with e | ⟨a, b, c⟩
    · rw [e]; exact i2
    · rcases i2 with e | ⟨a', b', c'⟩
      · rw [← e]; exact .inr ⟨a, b, c⟩
      · exact .inr ⟨a, b', c.trans c'⟩
theorem lms_iff {n : Nat} {es : List (Nat × Nat)} (hn : InN n es) {i j : Nat} (hi : i < n) (hj : j < n) : mk (lms n es) i = mk (lms n es) j ↔ Conn es i j := by
  constructor
  · exact lms_conn es hn i j hi hj
  · intro c
    rcases conn_lms hn c with e | ⟨_, _, e⟩
    · rw [e]
    · exact e
theorem pms_iff {n : Nat} {es : List (Nat × Nat)} (hn : InN n es) {i j : Nat} (hi : i < n) (hj : j < n) : mk (pms n es) i = mk (pms n es) j ↔ Conn es i j := by
  rw [← lms_iff hn hi hj]
  have s := same_pms (n := n) (es := es) hn
  exact s.2 i j (by rw [pms_length]; exact hi) (by rw [pms_length]; exact hj)
/-! ### how many pieces -/
def cnt (M : List Int) : Nat := (fstA M M.length).length
theorem fst_ex (M : List Int) {i : Nat} : ∃ p, p ≤ i ∧ mk M p = mk M i ∧ fstB M p = true := by
  induction i using Nat.strongRecOn with
  | ind i ih =>
    by_cases h : fstB M i = true
    · exact ⟨i, Nat.le_refl _, rfl, h⟩
    · have : ∃ j, j < i ∧ mk M j = mk M i := by
        by_cases q : ∃ j, j < i ∧ mk M j = mk M i
        · exact q
        · exact absurd (fstB_iff.mpr fun j hj e => q ⟨j, hj, e⟩) h
      obtain ⟨j, hj, e⟩ := this
      obtain ⟨p, h1, h2, h3⟩ := ih j hj
      exact ⟨p, by omega, h2.trans e, h3⟩
theorem count_less {p q : Nat → Bool} {x n : Nat} (hx : x < n) (hpx : p x = true) (h : ∀ y, y < n → q y = (p y && !decide (y = x))) : ((List.range n).filter q).length + 1 = ((List.range n).filter p).length := by
  induction n with
  | zero => exact absurd hx (Nat.not_lt_zero x)
  | succ n ih =>
    rw [List.range_succ, List.filter_append, List.filter_append, List.length_append, List.length_append]
    by_cases e : x = n
    · subst e
      have e1 : (List.range x).filter q = (List.range x).filter p := List.filter_congr fun y hy => by
        have hy := List.mem_range.mp hy
        rw [h y (by omega), show decide (y = x) = false from decide_eq_false (by omega)]
        simp
      have e2 : q x = false := by rw [h x (by omega)]; simp
      rw [e1]
      simp [List.filter_cons, e2, hpx]
    · have hq : q n = p n := by rw [h n (by omega), show decide (n = x) = false from decide_eq_false (fun z => e z.symm)]; simp
      have := ih (by omega) fun y hy => h y (by omega)
      simp only [List.filter_cons, List.filter_nil, hq]
      omega
theorem fst_uniq {M : List Int} {p q : Nat} (hp : fstB M p = true) (hq : fstB M q = true) (e : mk M p = mk M q) : p = q := by
  rcases Nat.lt_trichotomy p q with h | h | h
  · exact absurd e (fstB_iff.mp hq p h)
  · exact h
  · exact absurd e.symm (fstB_iff.mp hp q h)
theorem cnt_step {m : List Int} {a b : Nat} (ha : a < m.length) (hb : b < m.length) (hne : mk m a ≠ mk m b) : cnt (lm m a b) + 1 = cnt m := by
  obtain ⟨A, hA1, hA2, hA3⟩ := fst_ex m (i := a)
  obtain ⟨B, hB1, hB2, hB3⟩ := fst_ex m (i := b)
  have hAB : A ≠ B := fun e => hne (by rw [← hA2, ← hB2, e])
  unfold cnt fstA
  rw [lm_length]
  refine count_less (x := max A B) (by omega) ?_ fun y hy => ?_
  · rcases Nat.le_total A B with h | h
    · rw [Nat.max_eq_right h]; exact hB3
    · rw [Nat.max_eq_left h]; exact hA3
  · rw [Bool.eq_iff_iff, Bool.and_eq_true, fstB_iff, fstB_iff]
    have key : ∀ i, i < y → (mk (lm m a b) i = mk (lm m a b) y ↔ Mrg m a b i y) := fun i hi => lm_iff (by omega) hy
    have nmax : (!decide (y = max A B)) = true ↔ y ≠ max A B := by simp
    rw [nmax]
    constructor
    · intro q
      refine ⟨fun i hi e => q i hi ((key i hi).mpr (.inl e)), fun e => ?_⟩
      -- the other one is ahead
      rcases Nat.lt_or_gt_of_ne hAB with h | h
      · have ey : y = B := by omega
        subst ey
        exact q A h ((key A h).mpr (.inr ⟨.inl hA2, .inr hB2⟩))
      · have ey : y = A := by omega
        subst ey
        exact q B h ((key B h).mpr (.inr ⟨.inr hB2, .inl hA2⟩))
    · rintro ⟨q1, q2⟩ i hi e
      rcases (key i hi).mp e with e | ⟨e1, e2⟩
      · exact q1 i hi e
      · have fy : fstB m y = true := fstB_iff.mpr q1
        rcases e2 with e2 | e2
        · have ey : y = A := fst_uniq fy hA3 (e2.trans hA2.symm)
          rcases e1 with e1 | e1
          · exact q1 i hi (e1.trans e2.symm)
          · obtain ⟨p, p1, p2, p3⟩ := fst_ex m (i := i)
            have : p = B := fst_uniq p3 hB3 (by rw [p2, e1, hB2])
            omega
        · have ey : y = B := fst_uniq fy hB3 (e2.trans hB2.symm)
          rcases e1 with e1 | e1
          · obtain ⟨p, p1, p2, p3⟩ := fst_ex m (i := i)
            have : p = A := fst_uniq p3 hA3 (by rw [p2, e1, hA2])
            omega
          · exact q1 i hi (e1.trans e2.symm)
theorem cnt_range (n : Nat) : cnt ((List.range n).map fun (i : Nat) => (i : Int)) = n := by
  unfold cnt fstA
  rw [List.length_map, List.length_range]
  have e : (List.range n).filter (fstB ((List.range n).map fun (i : Nat) => (i : Int))) = List.range n := by
    refine List.filter_eq_self.mpr fun p hp => fstB_iff.mpr fun i hi e => ?_
    have hp := List.mem_range.mp hp
    rw [mk_range (by omega), mk_range hp] at e
    omega
  rw [e, List.length_range]
theorem cnt_one {M : List Int} (hM : 1 ≤ M.length) : cnt M = 1 ↔ ∀ i j, i < M.length → j < M.length → mk M i = mk M j := by
  have e : cnt M = (grp M).length := by
    unfold cnt grp
    rw [grpA_eq, List.length_map]
  rw [e]
  exact grp_one hM
end My

/-! ## trees -/
namespace My
open PySem L2
theorem seq_ix {i : Int} {n : Nat} (h0 : 0 ≤ i) (h1 : i < (n : Int)) : seqIndex? i n = some i.toNat := by
  have e : (if i < 0 then i + (n : Int) else i) = i := if_neg (by omega)
  unfold seqIndex?
  simp only [e]
  rw [if_pos (by simp; omega)]
def IsTree (n : Int) (ps : List (Int × Int)) (ns : List Int) : Prop := IsSet ps.length ns ∧ (ns.length : Int) = n - 1 ∧ ∀ i j, i < n.toNat → j < n.toNat → Conn (endsOf ps ns) i j
theorem ends_in {n : Int} {ps : List (Int × Int)} {ns : List Int} (g : GoodW n ps) (h : ∀ z ∈ ns, 0 ≤ z ∧ z < (ps.length : Int)) : InN n.toNat (endsOf ps ns) := fun e he => by
  obtain ⟨z, hz, rfl⟩ := List.mem_map.mp he
  obtain ⟨z0, z1⟩ := h z hz
  have hp : ps[z.toNat]? = some (ps[z.toNat]'(by omega)) := List.getElem?_eq_getElem _
  rw [getD_of hp]
  obtain ⟨b1, b2, b3, b4⟩ := g.2.2.2 _ (List.mem_of_getElem? hp)
  exact ⟨by omega, by omega⟩
theorem ends_sub {ps : List (Int × Int)} {ns ms : List Int} (h : ∀ z ∈ ns, z ∈ ms) : ∀ e ∈ endsOf ps ns, e ∈ endsOf ps ms := fun e he => by
  obtain ⟨z, hz, rfl⟩ := List.mem_map.mp he
  exact List.mem_map.mpr ⟨z, h z hz, rfl⟩
/-- all places have one mark -/
theorem one_conn {n : Nat} {es : List (Nat × Nat)} (h : InN n es) : (∀ i j, i < (lms n es).length → j < (lms n es).length → mk (lms n es) i = mk (lms n es) j) ↔ ∀ i j, i < n → j < n → Conn es i j := by
  rw [lms_length]
  constructor
  · intro q i j hi hj; exact (lms_iff h hi hj).mp (q i j hi hj)
  · intro q i j hi hj; exact (lms_iff h hi hj).mpr (q i j hi hj)
theorem conn_perm {ps : List (Int × Int)} {ns ms : List Int} (h : ∀ z, z ∈ ns ↔ z ∈ ms) {i j : Nat} : Conn (endsOf ps ns) i j ↔ Conn (endsOf ps ms) i j :=
  ⟨fun c => c.mono (ends_sub fun z hz => (h z).mp hz), fun c => c.mono (ends_sub fun z hz => (h z).mpr hz)⟩
end My

/-! ## comprehensions over enumerate; cuts -/
namespace My
open PySem L2
section
variable {K : PySem.W.Frag} {a : Addr} {xs : List V} {g : TG} {tt : TT} {te : TE} {o : Nat} {fr : List Nat} {σ : St} {H : Hp} {Q : VK}
theorem lc_enum (Pv : Nat → List V → Hp → Prop) (h0 : Pv 0 [] H) (hz : xs.length < sizeLine) (hl : ∀ i ys H, i ≤ xs.length → Pv i ys H → SqL K H a xs ∧ ys.length ≤ i)
    (hs : ∀ (i : Nat) x ys H (p : Addr), H p = none → xs[i]? = some x → Pv i ys H → LcTurn Pv g tt te o fr σ i (.ref p) ys (upd H p (.tup [.int i, x]))) (hd : ∀ ys H, Pv xs.length ys H → ∀ p, H p = none → Q (.ref p) (upd H p (.lst ys))) : LcR (Ite K a) g tt te o fr σ H Q := by
  refine ⟨fun i m ys H => m = xs.length - i ∧ i ≤ xs.length ∧ Pv i ys H, ⟨xs.length, by simp, Nat.zero_le _, h0⟩, ?_⟩
  rintro i m ys H ⟨rfl, hi, p⟩
  obtain ⟨q, hy⟩ := hl i ys H hi p
  by_cases hlt : i < xs.length
  · refine .inr ⟨⟨xs, xs[i], q, by simp [hlt]⟩, by omega, fun x H' ⟨T, y, hT, ex, eH, hyy⟩ => ?_⟩
    subst ex eH
    exact hs i y ys H T hT (hyy xs q) p (fun j ys H => ∃ m', m' < xs.length - i ∧ m' = xs.length - j ∧ j ≤ xs.length ∧ Pv j ys H) fun ys H p' => ⟨xs.length - (i + 1), by omega, rfl, hlt, p'⟩
  · have e : i = xs.length := by omega
    subst e
    exact .inl ⟨⟨xs, q, Nat.le_refl _⟩, by omega, hd ys H p⟩
end
/-- the numbers of the ties whose ends have unlike marks -/
def unlike (M : List Int) (ps : List (Int × Int)) (i : Nat) : List Int := ((List.range i).filter fun k => decide (mk M (ps.getD k (0, 0)).1.toNat ≠ mk M (ps.getD k (0, 0)).2.toNat)).map fun (k : Nat) => (k : Int)
/-- the ties other than one -/
def wo (ns : List Int) (z : Int) : List Int := ns.filter fun y => decide (y ≠ z)
theorem wo_mem {ns : List Int} {z y : Int} : y ∈ wo ns z ↔ y ∈ ns ∧ y ≠ z := by unfold wo; rw [List.mem_filter]; simp
end My

/-! ## rings -/
namespace My
open PySem L2
/-- the ties of a tree whose cut has the tie -/
def ringA (n : Int) (ps : List (Int × Int)) (ns : List Int) (z : Int) (l : List Int) : List Int := l.filter fun y => decide (z ∈ unlike (lms n.toNat (endsOf ps (wo ns y))) ps ps.length)
theorem unlike_mem {M : List Int} {ps : List (Int × Int)} {z : Int} (h0 : 0 ≤ z) (h1 : z < (ps.length : Int)) : z ∈ unlike M ps ps.length ↔ mk M (ps.getD z.toNat (0, 0)).1.toNat ≠ mk M (ps.getD z.toNat (0, 0)).2.toNat := by
  unfold unlike
  rw [List.mem_map]
  constructor
  · rintro ⟨k, hk, rfl⟩
    have := of_decide_eq_true (List.mem_filter.mp hk).2
    rw [Int.toNat_natCast]
    exact this
  · intro h
    exact ⟨z.toNat, List.mem_filter.mpr ⟨List.mem_range.mpr (by omega), decide_eq_true h⟩, by omega⟩
end My

/-! ## sorted(tuple of ints) -/
namespace L2
open PySem PySem.Spec PyProof.Rows
section
variable {prog : Program} {w : World} {A : Around} {E : Value → Shared → Prop} {s : Shared}
end
section
variable {X : Cx}
end
end L2

/-! ## t + u, either may be empty -/
namespace L2
open PySem PySem.Spec PyProof.Rows
section
variable {X : Cx}
/-- t + u: where one of them is empty the other one itself -/
def rCatU (K : PySem.W.Frag) : R2 := fun x y H Q => ∃ a b xs ys, x = .ref a ∧ y = .ref b ∧ SqT K H a xs ∧ SqT K H b ys ∧ xs.length + ys.length ≤ sizeLine ∧
  (xs = [] → Q (.ref b) H) ∧ (xs ≠ [] → ys = [] → Q (.ref a) H) ∧ (xs ≠ [] → ys ≠ [] → ∀ p, H p = none → Q (.ref p) (upd H p (.tup (xs ++ ys))))
theorem op_catU (K : PySem.W.Frag) (hk : X.K = K := by rfl) : OpR X (binaryOp .Add) (rCatU K) := by
  intro pins s σ H x y v u Q I rx ry h
  obtain ⟨a, b, xs, ys, e1, e2, ha, hb, hz, q0, q1, q2⟩ := id h
  by_cases hx : xs = []
  · subst hk e1 e2
    cases rx
    cases ry
    obtain ⟨its, r1, p1, _⟩ := I.tuple ha
    obtain ⟨its2, r2, p2, _⟩ := I.tuple hb
    have hi : its = [] := r1.nil_iff.mpr hx
    obtain ⟨⟨cls, dd, data, sl⟩, ho, hc, n, hd⟩ := id p1
    obtain ⟨⟨cls2, dd2, data2, sl2⟩, ho2, hc2, n2, hd2⟩ := id p2
    simp only at hc hd hc2 hd2
    subst hc hd hc2 hd2
    exact concat_meets ⟨_, ho, rfl⟩ ⟨_, ho2, rfl⟩ noFill_tuple_add seq_tuple_add PySem.F.slot_tuple_add PySem.F.entry_tuple_add (PySem.F.args_tuple_add_2 _ _)
      (tuple_addW0 a b its.toArray its2.toArray n n2 dd dd2 sl sl2 (by simp [hi])) ⟨ho, ho2, ⟨.ref b, H, I, rfl, q0 hx⟩⟩
  · exact op_catTK K hk pins s σ H x y v u Q I rx ry ⟨a, b, xs, ys, e1, e2, ha, hb, hx, hz, q1 hx, q2 hx⟩
end
end L2

/-! ## exchanges -/
namespace My
open PySem L2
theorem lm_id {m : List Int} {a b : Nat} (h : mk m a = mk m b) : lm m a b = m := by unfold lm; rw [if_neg (fun z => z h)]
theorem cnt_less {m : List Int} {a b : Nat} (ha : a < m.length) (hb : b < m.length) : cnt m ≤ cnt (lm m a b) + 1 := by
  by_cases e : mk m a = mk m b
  · rw [lm_id e]; omega
  · have := cnt_step ha hb e; omega
theorem cnt_lms {n : Nat} : ∀ es : List (Nat × Nat), InN n es → n ≤ cnt (lms n es) + es.length := by
  refine snoc_ind (fun _ => ?_) fun es x ih hn => ?_
  · have : cnt (lms n []) = n := cnt_range n
    omega
  · obtain ⟨h1, h2, h3⟩ := hn.snoc
    have hl := lms_length n es
    have := cnt_less (m := lms n es) (a := x.1) (b := x.2) (by omega) (by omega)
    have := ih h1
    rw [lms_snoc, List.length_append, List.length_cons, List.length_nil]
    omega
theorem cnt_pos {M : List Int} (h : 1 ≤ M.length) : 1 ≤ cnt M := by
  unfold cnt fstA
  refine List.length_pos_of_mem (a := 0) (List.mem_filter.mpr ⟨List.mem_range.mpr (by omega), fstB_iff.mpr fun i hi => absurd hi (Nat.not_lt_zero i)⟩)
theorem cnt_conn {n : Nat} {es : List (Nat × Nat)} (hn : 1 ≤ n) (h : InN n es) : cnt (lms n es) = 1 ↔ ∀ i j, i < n → j < n → Conn es i j := by
  rw [cnt_one (by rw [lms_length]; exact hn)]
  exact one_conn h
/-- an item once in a row -/
theorem wo_length {ts : List Int} {o : Int} (hn : ts.Nodup) (ho : o ∈ ts) : (wo ts o).length + 1 = ts.length := by
  induction ts with
  | nil => cases ho
  | cons x r ih =>
    obtain ⟨h1, h2⟩ := List.nodup_cons.mp hn
    unfold wo
    rw [List.filter_cons]
    by_cases e : x = o
    · subst e
      rw [if_neg (by simp)]
      have : r.filter (fun y => decide (y ≠ x)) = r := List.filter_eq_self.mpr fun y hy => decide_eq_true fun e => h1 (e ▸ hy)
      rw [this]; rfl
    · rw [if_pos (decide_eq_true e)]
      have := ih h2 ((List.mem_cons.mp ho).resolve_left fun z => e z.symm)
      unfold wo at this
      rw [List.length_cons, List.length_cons]
      omega
/-- the ends of a tie -/
def endOf (ps : List (Int × Int)) (z : Int) : Nat × Nat := ((ps.getD z.toNat (0, 0)).1.toNat, (ps.getD z.toNat (0, 0)).2.toNat)
theorem ends_snoc (ps : List (Int × Int)) (ns : List Int) (z : Int) : endsOf ps (ns ++ [z]) = endsOf ps ns ++ [endOf ps z] := by unfold endsOf endOf; rw [List.map_append]; rfl
theorem end_in {n : Int} {ps : List (Int × Int)} {z : Int} (g : GoodW n ps) (z0 : 0 ≤ z) (z1 : z < (ps.length : Int)) : (endOf ps z).1 < n.toNat ∧ (endOf ps z).2 < n.toNat := by
  have := ends_in (ns := [z]) g (fun y hy => by rw [List.mem_singleton.mp hy]; exact ⟨z0, z1⟩)
  exact this (endOf ps z) (by unfold endsOf endOf; simp)
theorem wo_all {n : Int} {ps : List (Int × Int)} {ts : List Int} {o : Int} (hT : IsTree n ps ts) : ∀ y ∈ wo ts o, 0 ≤ y ∧ y < (ps.length : Int) := fun y hy => hT.1.all y (wo_mem.mp hy).1
/-- a tree with one tie for another is joined where the other one's ends are in two pieces without the one -/
theorem exch {n : Int} {ps : List (Int × Int)} {ts : List Int} {o z : Int} (g : GoodW n ps) (hT : IsTree n ps ts) (ho : o ∈ ts) (z0 : 0 ≤ z) (z1 : z < (ps.length : Int)) :
    (∀ i j, i < n.toNat → j < n.toNat → Conn (endsOf ps (wo ts o ++ [z])) i j) ↔ ¬ Conn (endsOf ps (wo ts o)) (endOf ps z).1 (endOf ps z).2 := by
  have hn : 1 ≤ n.toNat := by have := g.1; omega
  have hw := wo_length hT.1.nodup ho
  have hl : (ts.length : Int) = n - 1 := hT.2.1
  have i0 : InN n.toNat (endsOf ps (wo ts o)) := ends_in g (wo_all hT)
  have hz := end_in g z0 z1
  have ob := hT.1.all o ho
  have hoe := end_in g ob.1 ob.2
  have i1 : InN n.toNat (endsOf ps (wo ts o) ++ [endOf ps z]) := fun e he => (List.mem_append.mp he).elim (i0 e) fun q => by rw [List.mem_singleton.mp q]; exact hz
  have i2 : InN n.toNat (endsOf ps (wo ts o) ++ [endOf ps o]) := fun e he => (List.mem_append.mp he).elim (i0 e) fun q => by rw [List.mem_singleton.mp q]; exact hoe
  have hL := lms_length n.toNat (endsOf ps (wo ts o))
  have le : (endsOf ps (wo ts o)).length = (wo ts o).length := by unfold endsOf; rw [List.length_map]
  rw [ends_snoc]
  constructor
  · intro hc c
    have h1 : cnt (lms n.toNat (endsOf ps (wo ts o) ++ [endOf ps z])) = 1 := (cnt_conn hn i1).mpr hc
    rw [lms_snoc, lm_id ((lms_iff i0 hz.1 hz.2).mpr c)] at h1
    have := cnt_lms _ i0
    omega
  · intro hc
    have h2 : cnt (lms n.toNat (endsOf ps (wo ts o) ++ [endOf ps o])) = 1 := by
      refine (cnt_conn hn i2).mpr fun i j hi hj => ?_
      rw [← ends_snoc]
      refine (conn_perm fun y => ?_).mp (hT.2.2 i j hi hj)
      rw [List.mem_append, wo_mem, List.mem_singleton]
      constructor
      · intro hy
        by_cases e : y = o
        · exact .inr e
        · exact .inl ⟨hy, e⟩
      · rintro (q | q)
        · exact q.1
        · rw [q]; exact ho
    rw [lms_snoc] at h2
    have h3 := cnt_less (m := lms n.toNat (endsOf ps (wo ts o))) (a := (endOf ps o).1) (b := (endOf ps o).2) (by omega) (by omega)
    have h4 := cnt_step (m := lms n.toNat (endsOf ps (wo ts o))) (a := (endOf ps z).1) (b := (endOf ps z).2) (by omega) (by omega) (fun e => hc ((lms_iff i0 hz.1 hz.2).mp e))
    have h5 := cnt_pos (M := lm (lms n.toNat (endsOf ps (wo ts o))) (endOf ps z).1 (endOf ps z).2) (by rw [lm_length]; omega)
    refine (cnt_conn hn i1).mp ?_
    rw [lms_snoc]
    omega
/-- the cut of a tie of a tree -/
def cutT (n : Int) (ps : List (Int × Int)) (ts : List Int) (o : Int) : List Int := unlike (lms n.toNat (endsOf ps (wo ts o))) ps ps.length
theorem unlike_bnd {M : List Int} {ps : List (Int × Int)} {i : Nat} {z : Int} (h : z ∈ unlike M ps i) : 0 ≤ z ∧ z < (i : Int) := by
  unfold unlike at h
  obtain ⟨k, hk, rfl⟩ := List.mem_map.mp h
  have := List.mem_range.mp (List.mem_filter.mp hk).1
  omega
theorem cutT_mem {n : Int} {ps : List (Int × Int)} {ts : List Int} {o z : Int} (g : GoodW n ps) (hT : IsTree n ps ts) (z0 : 0 ≤ z) (z1 : z < (ps.length : Int)) : z ∈ cutT n ps ts o ↔ ¬ Conn (endsOf ps (wo ts o)) (endOf ps z).1 (endOf ps z).2 := by
  have hz := end_in g z0 z1
  unfold cutT
  rw [unlike_mem z0 z1]
  exact not_congr (lms_iff (ends_in g (wo_all hT)) hz.1 hz.2)
def exg (n : Int) (ps : List (Int × Int)) (ts : List Int) (o z : Int) : Prop := o ∈ ts ∧ z ≠ o ∧ z ∈ cutT n ps ts o
instance (n : Int) (ps : List (Int × Int)) (ts : List Int) (o z : Int) : Decidable (exg n ps ts o z) := by unfold exg; infer_instance
theorem exg_iff {n : Int} {ps : List (Int × Int)} {ts : List Int} {o z : Int} (g : GoodW n ps) (hT : IsTree n ps ts) :
    exg n ps ts o z ↔ o ∈ ts ∧ z ∉ ts ∧ 0 ≤ z ∧ z < (ps.length : Int) ∧ ∀ i j, i < n.toNat → j < n.toNat → Conn (endsOf ps (wo ts o ++ [z])) i j := by
  constructor
  · rintro ⟨h1, h2, h3⟩
    obtain ⟨z0, z1⟩ := unlike_bnd h3
    have hc := (cutT_mem g hT z0 z1).mp h3
    refine ⟨h1, fun hz => hc ?_, z0, z1, (exch g hT h1 z0 z1).mpr hc⟩
    refine .edge ?_
    exact List.mem_map.mpr ⟨z, wo_mem.mpr ⟨hz, h2⟩, rfl⟩
  · rintro ⟨h1, h2, z0, z1, hc⟩
    exact ⟨h1, fun e => h2 (e ▸ h1), (cutT_mem g hT z0 z1).mpr ((exch g hT h1 z0 z1).mp hc)⟩
/-! ### the list of exchanges -/
end My

/-! ## lists of pairs, a list changed -/
namespace My
open PySem L2
theorem PairsV.mut {H : Hp} {l : Addr} {ys zs xs : List V} {ps : List (Int × Int)} (hP : PairsV H xs ps) (hl : H l = some (.lst ys)) : PairsV (upd H l (.lst zs)) xs ps := by
  refine ⟨hP.1, fun j p e => ?_⟩
  obtain ⟨v, e1, tt, e2, e3⟩ := hP.2 j p e
  exact ⟨v, e1, tt, e2, by rw [upd_ne (ne_of e3 hl (fun z => nomatch z))]; exact e3⟩
end My

/-! ## list(reversed(tuple)) -/
namespace L2
open PySem PySem.Spec PyProof.Rows
/-! ### the iterator of reversed(tuple) -/
def IsRv (h : Heap) (r l : Addr) (i : Int) : Prop := ∃ o, h.get? r = some o ∧ o.cls = .type "reversed" ∧ o.data = .fields #[.ref l, rawInt i]
theorem IsRv.keep {h h' : Heap} {r l : Addr} {i : Int} (x : IsRv h r l i) (e : ∀ o, h.get? r = some o → h'.get? r = some o) : IsRv h' r l i := let ⟨o, a, b⟩ := x; ⟨o, e _ a, b⟩
section
variable {prog : Program} {w : World} {A : Around} {E : Value → Shared → Prop} {s : Shared}
end
section
variable {prog : Program} {w : World} {A : Around} {E : Value → Shared → Prop} {s : Shared} {it a : Addr} {items : Array Value}
end
section
variable {X : Cx} {p p2 pos pos2 : Pos} {e : Expr} {t : TA}
end
end L2

/-! ## t[lo:hi], also the whole -/
namespace L2
open PySem PySem.Spec PyProof.Rows
section
variable {prog : Program} {w : World} {A : Around} {E : Value → Shared → Prop} {s : Shared}
end
section
variable {X : Cx}
end
end L2

/-! ## tuples of ints: slices -/
namespace My
open PySem L2
end My

/-! ## x in a list of objects, by what they hold -/
namespace L2
open PySem PySem.Spec PyProof.Rows
section
variable {X : Cx}
end
end L2
namespace My
open PySem L2
end My

/-! ## rings and cuts of a tree, and behind an exchange -/
namespace My
open PySem L2
/-- of the tree's own ties only the one that is left out is in the cut -/
theorem cut_own {n : Int} {ps : List (Int × Int)} {ts : List Int} {o y : Int} (g : GoodW n ps) (hT : IsTree n ps ts) (ho : o ∈ ts) (hy : y ∈ ts) : y ∈ cutT n ps ts o ↔ y = o := by
  have yb := hT.1.all y hy
  rw [cutT_mem g hT yb.1 yb.2]
  constructor
  · intro h
    by_cases e : y = o
    · exact e
    · exact absurd (.edge (List.mem_map.mpr ⟨y, wo_mem.mpr ⟨hy, e⟩, rfl⟩)) h
  · rintro rfl
    refine (exch g hT hy yb.1 yb.2).mp fun i j hi hj => (conn_perm fun z => ?_).mp (hT.2.2 i j hi hj)
    rw [List.mem_append, wo_mem, List.mem_singleton]
    constructor
    · intro hz
      by_cases e : z = y
      · exact .inr e
      · exact .inl ⟨hz, e⟩
    · rintro (q | q)
      · exact q.1
      · rw [q]; exact hy
/-- the tree behind an exchange -/
theorem exg_tree {n : Int} {ps : List (Int × Int)} {ts ms : List Int} {o z : Int} (g : GoodW n ps) (hT : IsTree n ps ts) (hx : exg n ps ts o z) (hpm : ms.Perm (wo ts o ++ [z])) (hpw : ms.Pairwise (· ≤ ·)) : IsTree n ps ms := by
  obtain ⟨ho, hz, z0, z1, hc⟩ := (exg_iff g hT).mp hx
  have nd : (wo ts o ++ [z]).Nodup := nd_snoc (hT.1.nodup.sublist List.filter_sublist) fun h => hz (wo_mem.mp h).1
  have ndm : ms.Nodup := hpm.nodup_iff.mpr nd
  have hl := wo_length hT.1.nodup ho
  have hl2 := hpm.length_eq
  rw [List.length_append, List.length_singleton] at hl2
  refine ⟨isSet_iff.mpr ⟨fun y hy => ?_, (List.pairwise_and_iff.mpr ⟨hpw, ndm⟩).imp fun {x y} h => by have := h.1; have := h.2; omega⟩, by rw [hl2, hl]; exact hT.2.1, fun i j hi hj => (conn_perm fun y => hpm.mem_iff).mpr (hc i j hi hj)⟩
  rcases List.mem_append.mp (hpm.mem_iff.mp hy) with h | h
  · exact hT.1.all y (wo_mem.mp h).1
  · rw [List.mem_singleton.mp h]; exact ⟨z0, z1⟩
section
variable {n : Int} {ps : List (Int × Int)} {ts ms : List Int} {o z : Int} (g : GoodW n ps) (hT : IsTree n ps ts) (hx : exg n ps ts o z) (hpm : ms.Perm (wo ts o ++ [z])) (hpw : ms.Pairwise (· ≤ ·))
include g hT hx hpm hpw
end
end My

/-! ## the least tree: each tie that closes no ring -/
namespace My
open PySem L2
def grd (n : Nat) (ps : List (Int × Int)) : Nat → List Int
  | 0 => []
  | k + 1 => if mk (lms n (endsOf ps (grd n ps k))) (endOf ps (k : Int)).1 = mk (lms n (endsOf ps (grd n ps k))) (endOf ps (k : Int)).2 then grd n ps k else grd n ps k ++ [(k : Int)]
/-! ### order of rows -/
end My

/-! ## min(list of tuples of ints) -/
namespace My
open PySem L2
end My
namespace L2
open PySem PySem.Spec PyProof.Rows
section
variable {prog : Program} {w : World} {A : Around} {I S : Addr} {fp wr : List Addr} {n : Nat} {P : Nat → Value → Prop} {St : Nat → Heap → Prop} {R : Result → Shared → Prop}
/-- the items are tuples of ints, apart from what the loop writes -/
def TupsAt (S : Addr) (wr : List Addr) (P : Nat → Value → Prop) (L : Nat → List Int) (h : Heap) : Prop := ∀ i v, P i v → ∃ a vs, v = .ref a ∧ a ≠ S ∧ a ∉ wr ∧ IsTup h a vs ∧ IntsAre vs.toList (L i)
theorem TupsAt.keep {L : Nat → List Int} {h h' : Heap} (x : TupsAt S wr P L h) (k : ∀ b o, b ≠ S → b ∉ wr → h.get? b = some o → h'.get? b = some o) : TupsAt S wr P L h' := fun i v p => by
  obtain ⟨a, vs, e, n1, n2, ⟨o, ho, z⟩, hi⟩ := x i v p
  exact ⟨a, vs, e, n1, n2, ⟨o, k a o n1 n2 ho, z⟩, hi⟩
end
section
variable {X : Cx}
end
end L2

/-! ## lists of tuples of ints; all ascending rows of a length -/
namespace My
open PySem L2
/-! ### rows -/
def nxt (s : List Int) : Int := match s.getLast? with | none => 0 | some x => x + 1
def ext1 (m : Int) (s : List Int) : List (List Int) := (List.range (m - nxt s).toNat).map fun (i : Nat) => s ++ [nxt s + (i : Int)]
def cmb (m : Int) : Nat → List (List Int)
  | 0 => [[]]
  | k + 1 => (cmb m k).flatMap (ext1 m)
theorem nxt_snoc (s : List Int) (x : Int) : nxt (s ++ [x]) = x + 1 := by unfold nxt; rw [List.getLast?_append]; rfl
theorem ext1_mem {m : Int} {s l : List Int} : l ∈ ext1 m s ↔ ∃ t, nxt s ≤ t ∧ t < m ∧ l = s ++ [t] := by
  unfold ext1
  rw [List.mem_map]
  constructor
  · rintro ⟨i, hi, rfl⟩
    have := List.mem_range.mp hi
    exact ⟨_, by omega, by omega, rfl⟩
  · rintro ⟨t, h1, h2, rfl⟩
    exact ⟨(t - nxt s).toNat, List.mem_range.mpr (by omega), by rw [show nxt s + (((t - nxt s).toNat : Nat) : Int) = t by omega]⟩
theorem asc_snoc {m : Nat} {s : List Int} {t : Int} : IsSet m (s ++ [t]) ↔ IsSet m s ∧ nxt s ≤ t ∧ 0 ≤ t ∧ t < (m : Int) := by
  rw [isSet_iff, isSet_iff, List.pairwise_append]
  have last : (∀ a ∈ s, ∀ b ∈ [t], a < b) ∧ s.Pairwise (· < ·) → nxt s ≤ t ∨ t < 0 := by
    rintro ⟨h, _⟩
    unfold nxt
    cases e : s.getLast? with
    | none => by_cases h0 : 0 ≤ t; exact .inl h0; exact .inr (by omega)
    | some x => have := h x (List.mem_of_getLast? e) t (by simp); exact .inl (by show x + 1 ≤ t; omega)
  constructor
  · rintro ⟨h1, h2, _, h3⟩
    have ht := h1 t (by simp)
    refine ⟨⟨fun z hz => h1 z (List.mem_append_left _ hz), h2⟩, ?_, ht⟩
    rcases last ⟨h3, h2⟩ with h | h
    · exact h
    · omega
  · rintro ⟨⟨h1, h2⟩, h3, h4, h5⟩
    refine ⟨fun z hz => ?_, h2, List.pairwise_singleton .., fun a ha b hb => ?_⟩
    · rcases List.mem_append.mp hz with h | h
      · exact h1 z h
      · rw [List.mem_singleton.mp h]; exact ⟨h4, h5⟩
    · rw [List.mem_singleton.mp hb]
      have key : ∀ {s : List Int} {a : Int}, s.Pairwise (· < ·) → a ∈ s → a < nxt s := by
        refine fun {s} => snoc_ind (P := fun s => ∀ {a : Int}, s.Pairwise (· < ·) → a ∈ s → a < nxt s) (fun {a} _ h => by cases h) (fun l x ih {a} hp h => ?_) s
        rw [nxt_snoc]
        rw [List.pairwise_append] at hp
        rcases List.mem_append.mp h with h | h
        · have := hp.2.2 a h x (by simp); omega
        · rw [List.mem_singleton.mp h]; omega
      have := key h2 ha
      omega
theorem cmb_mem {m : Nat} : ∀ {k : Nat} {l : List Int}, l ∈ cmb (m : Int) k ↔ l.length = k ∧ IsSet m l
  | 0, l => by
    show l ∈ [[]] ↔ _
    rw [List.mem_singleton]
    constructor
    · rintro rfl; exact ⟨rfl, fun i z e => by simp at e⟩
    · rintro ⟨h, _⟩; exact List.length_eq_zero_iff.mp h
  | k + 1, l => by
    show l ∈ (cmb (m : Int) k).flatMap (ext1 m) ↔ _
    rw [List.mem_flatMap]
    constructor
    · rintro ⟨s, hs, hl⟩
      obtain ⟨t, h1, h2, rfl⟩ := ext1_mem.mp hl
      obtain ⟨e, hI⟩ := cmb_mem.mp hs
      have n0 : 0 ≤ nxt s := by
        unfold nxt
        cases q : s.getLast? with
        | none => exact Int.le_refl 0
        | some x => have := (hI.all x (List.mem_of_getLast? q)).1; show 0 ≤ x + 1; omega
      exact ⟨by rw [List.length_append, e]; rfl, asc_snoc.mpr ⟨hI, h1, by omega, h2⟩⟩
    · rintro ⟨e, hI⟩
      have hne : l ≠ [] := fun z => by rw [z] at e; simp at e
      obtain ⟨s, t, rfl⟩ : ∃ s t, l = s ++ [t] := ⟨l.dropLast, l.getLast hne, (List.dropLast_concat_getLast hne).symm⟩
      obtain ⟨h1, h2, h3, h4⟩ := asc_snoc.mp hI
      exact ⟨s, cmb_mem.mpr ⟨by rw [List.length_append] at e; simpa using e, h1⟩, ext1_mem.mpr ⟨t, h2, h4, rfl⟩⟩
theorem ext1_len {m : Nat} {s : List Int} (h : IsSet m s) : (ext1 (m : Int) s).length ≤ m := by
  unfold ext1
  rw [List.length_map, List.length_range]
  have n0 : 0 ≤ nxt s := by
    unfold nxt
    cases q : s.getLast? with
    | none => exact Int.le_refl 0
    | some x => have := (h.all x (List.mem_of_getLast? q)).1; show 0 ≤ x + 1; omega
  omega
theorem flat_len {m : Nat} : ∀ L : List (List Int), (∀ s ∈ L, IsSet m s) → (L.flatMap (ext1 (m : Int))).length ≤ m * L.length
  | [], _ => Nat.zero_le _
  | s :: L, h => by
    have := flat_len L fun x hx => h x (List.mem_cons_of_mem _ hx)
    have := ext1_len (h s List.mem_cons_self)
    rw [List.flatMap_cons, List.length_append, List.length_cons, Nat.mul_succ]
    omega
end My

/-! ## every tree is reached by exchanges -/
namespace My
open PySem L2
theorem asc_sub : ∀ {w t : List Int}, t.Pairwise (· < ·) → w.Pairwise (· < ·) → (∀ z ∈ t, z ∈ w) → t.Sublist w
  | [], [], _, _, _ => List.Sublist.slnil
  | [], x :: t, _, _, h => absurd (h x List.mem_cons_self) (by simp)
  | y :: w, [], _, _, _ => List.nil_sublist _
  | y :: w, x :: t, ht, hw, h => by
    obtain ⟨h1, h2⟩ := List.pairwise_cons.mp ht
    obtain ⟨h3, h4⟩ := List.pairwise_cons.mp hw
    by_cases e : x = y
    · subst e
      refine List.Sublist.cons₂ _ (asc_sub h2 h4 fun z hz => ?_)
      rcases List.mem_cons.mp (h z (List.mem_cons_of_mem _ hz)) with q | q
      · have := h1 z hz; omega
      · exact q
    · have hx : x ∈ w := (List.mem_cons.mp (h x List.mem_cons_self)).resolve_left e
      refine List.Sublist.cons _ (asc_sub ht h4 fun z hz => ?_)
      rcases List.mem_cons.mp (h z hz) with q | q
      · have := h3 x hx
        rcases List.mem_cons.mp hz with q2 | q2
        · rw [q2]; exact hx
        · have := h1 z q2; omega
      · exact q
/-- a tree crosses each cut of another -/
theorem cross {n : Int} {ps : List (Int × Int)} {T W : List Int} {o : Int} (g : GoodW n ps) (hT : IsTree n ps T) (hW : IsTree n ps W) (ho : o ∈ T) : ∃ z ∈ W, z ∈ cutT n ps T o := by
  refine Classical.byContradiction fun hno => ?_
  have all : ∀ i j, Conn (endsOf ps W) i j → Conn (endsOf ps (wo T o)) i j := fun i j c => by
    induction c with
    | refl i => exact .refl i
    | symm _ ih => exact .symm ih
    | trans _ _ i1 i2 => exact .trans i1 i2
    | @edge a b h =>
      obtain ⟨z, hz, e⟩ := List.mem_map.mp h
      obtain ⟨z0, z1⟩ := hW.1.all z hz
      have c : Conn (endsOf ps (wo T o)) (endOf ps z).1 (endOf ps z).2 := Classical.byContradiction fun hc => hno ⟨z, hz, (cutT_mem g hT z0 z1).mpr hc⟩
      have ea : a = (endOf ps z).1 := (congrArg Prod.fst e).symm
      have eb : b = (endOf ps z).2 := (congrArg Prod.snd e).symm
      rw [ea, eb]
      exact c
  have ob := hT.1.all o ho
  have he := end_in g ob.1 ob.2
  exact (cutT_mem g hT ob.1 ob.2).mp ((cut_own g hT ho ho).mpr rfl) (all _ _ (hW.2.2 _ _ he.1 he.2))
theorem reach {n : Int} {ps : List (Int × Int)} {W : List Int} (g : GoodW n ps) (hW : IsTree n ps W) (R : List Int → Prop)
    (close : ∀ T o z ms, R T → IsTree n ps T → exg n ps T o z → ms.Perm (wo T o ++ [z]) → ms.Pairwise (· ≤ ·) → R ms) : ∀ (k : Nat) (T : List Int), R T → IsTree n ps T → (T.filter fun y => decide (y ∉ W)).length = k → R W
  | 0, T, hR, hT, h => by
    have hsub : ∀ z ∈ T, z ∈ W := fun z hz => Classical.byContradiction fun hn => by
      have : z ∈ T.filter fun y => decide (y ∉ W) := List.mem_filter.mpr ⟨hz, decide_eq_true hn⟩
      rw [List.length_eq_zero_iff.mp h] at this
      cases this
    have := (asc_sub (isSet_iff.mp hT.1).2 (isSet_iff.mp hW.1).2 hsub).eq_of_length (by have := hT.2.1; have := hW.2.1; omega)
    exact this ▸ hR
  | k + 1, T, hR, hT, h => by
    obtain ⟨o, hof⟩ : ∃ o, o ∈ T.filter fun y => decide (y ∉ W) := List.exists_mem_of_length_pos (by omega)
    have ho := (List.mem_filter.mp hof).1
    have hoW : o ∉ W := of_decide_eq_true (List.mem_filter.mp hof).2
    obtain ⟨z, hzW, hzc⟩ := cross g hT hW ho
    have hzo : z ≠ o := fun e => hoW (e ▸ hzW)
    have hx : exg n ps T o z := ⟨ho, hzo, hzc⟩
    have hpm : ((wo T o ++ [z]).mergeSort fun a b => decide (a ≤ b)).Perm (wo T o ++ [z]) := List.mergeSort_perm ..
    have hpw : ((wo T o ++ [z]).mergeSort fun a b => decide (a ≤ b)).Pairwise (· ≤ ·) := by
      have := List.pairwise_mergeSort (le := fun (a b : Int) => decide (a ≤ b)) (fun a b c h1 h2 => by simp only [decide_eq_true_eq] at *; omega) (fun a b => by simp only [Bool.or_eq_true, decide_eq_true_eq]; omega) (wo T o ++ [z])
      exact this.imp fun h => by simpa using h
    refine reach g hW R close k _ (close T o z _ hR hT hx hpm hpw) (exg_tree g hT hx hpm hpw) ?_
    rw [(hpm.filter _).length_eq, List.filter_append]
    have e1 : [z].filter (fun y => decide (y ∉ W)) = [] := by rw [List.filter_cons, if_neg (by simpa using hzW)]; rfl
    rw [e1, List.append_nil]
    have e2 : (wo T o).filter (fun y => decide (y ∉ W)) = wo (T.filter fun y => decide (y ∉ W)) o := by
      unfold wo
      rw [List.filter_filter, List.filter_filter]
      refine List.filter_congr fun y _ => Bool.and_comm ..
    rw [e2]
    have := wo_length (hT.1.nodup.sublist List.filter_sublist) hof
    omega
end My

/-! ## marks merged, ties grown -/
namespace My
open PySem L2
def pmf (M : List Int) (es : List (Nat × Nat)) : List Int := es.foldl (fun m e => pm m e.1 e.2) M
theorem pmf_snoc (M : List Int) (es : List (Nat × Nat)) (e : Nat × Nat) : pmf M (es ++ [e]) = pm (pmf M es) e.1 e.2 := by unfold pmf; rw [List.foldl_append]; rfl
theorem pmf_length (M : List Int) : ∀ es : List (Nat × Nat), (pmf M es).length = M.length := by
  intro es
  unfold pmf
  induction es generalizing M with
  | nil => rfl
  | cons e l ih => rw [List.foldl_cons, ih, pm_length]
end My
namespace My
open PySem L2
theorem cut_upto {xs : List V} {i : Int} (h0 : 0 ≤ i) : cutV xs none (some i) = xs.take i.toNat := by
  have e : HT.sIx xs.length xs.length (some i) = min i.toNat xs.length := by
    show (if i < 0 then (i + (xs.length : Int)).toNat else min i.toNat xs.length) = _
    rw [if_neg (by omega)]
  unfold cutV
  rw [e, HT.sIx_none, List.drop_zero, Nat.sub_zero]
  by_cases h : i.toNat ≤ xs.length
  · rw [Nat.min_eq_left h]
  · rw [Nat.min_eq_right (by omega), List.take_of_length_le (Nat.le_refl _), List.take_of_length_le (by omega)]
/-- all numbers of ties -/
def rgL (m : Nat) : List Int := (List.range m).map fun (i : Nat) => (i : Int)
theorem rgL_mem {m : Nat} {z : Int} : z ∈ rgL m ↔ 0 ≤ z ∧ z < (m : Int) := by
  unfold rgL
  rw [List.mem_map]
  constructor
  · rintro ⟨i, hi, rfl⟩
    have := List.mem_range.mp hi
    omega
  · intro h
    exact ⟨z.toNat, List.mem_range.mpr (by omega), by omega⟩
theorem rgL_length (m : Nat) : (rgL m).length = m := by unfold rgL; simp
theorem rgL_asc (m : Nat) : (rgL m).Pairwise (· < ·) := by
  unfold rgL
  rw [List.pairwise_map]
  exact List.pairwise_lt_range.imp fun h => by omega
theorem rgL_set (m : Nat) : IsSet m (rgL m) := isSet_iff.mpr ⟨fun z hz => rgL_mem.mp hz, rgL_asc m⟩
end My

/-! ## tuple(range) -/
namespace L2
open PySem PySem.Spec PyProof.Rows
section
variable {prog : Program} {w : World} {A : Around} {E : Value → Shared → Prop} {s : Shared}
end
section
variable {X : Cx}
end
end L2

/-! ## ties grown in an order: each that closes no ring -/
namespace My
open PySem L2
def gst (n : Nat) (ps : List (Int × Int)) (G : List Int) (z : Int) : List Int := if mk (lms n (endsOf ps G)) (endOf ps z).1 = mk (lms n (endsOf ps G)) (endOf ps z).2 then G else G ++ [z]
def grw (n : Nat) (ps : List (Int × Int)) (zs : List Int) : List Int := zs.foldl (gst n ps) []
end My
namespace My
open PySem L2
end My

/-! ## lists sorted, however long -/
namespace PyProof.Rows
open PySem
abbrev dK : Keyed := (Value.none, Value.none)
section
variable {M : Model} {A : Around} {E : Value → Shared → Prop} {s : Shared} {O : KeyOrd} {key : Keyed → O.α} {kd : SortKind} {S : Keyed → Prop}
end
end PyProof.Rows
namespace PyProof.Rows
open PySem
section
variable {M : Model} {A : Around} {E : Value → Shared → Prop} {s : Shared} {O : KeyOrd} {key : Keyed → O.α} {kd : SortKind} {S : Keyed → Prop}
def RK (O : KeyOrd) (key : Keyed → O.α) (x y : Keyed) : Prop := O.kle (key x) (key y)
structure MI (O : KeyOrd) (key : Keyed → O.α) (la lb : List Keyed) (out : Array Keyed) (ia ib : Nat) : Prop where
  so : out.toList.Pairwise (RK O key)
  oa : ∀ x ∈ out.toList, ∀ y ∈ la.drop ia, RK O key x y
  ob : ∀ x ∈ out.toList, ∀ y ∈ lb.drop ib, RK O key x y
  pm : (out.toList ++ la.drop ia ++ lb.drop ib).Perm (la ++ lb)
abbrev LoS := Option (Array Keyed) × Array Keyed × Nat × Nat × Nat × Nat × Nat
section
variable {a b out : Array Keyed} {ia ib : Nat} {st : SortSt} {R : ForInStep LoS → SortSt → Prop}
end
section
variable {a b : Array Keyed} {st : SortSt}
end
end
end PyProof.Rows
namespace PyProof.Rows
open PySem
section
variable {M : Model} {A : Around} {E : Value → Shared → Prop} {s : Shared} {O : KeyOrd} {key : Keyed → O.α} {kd : SortKind} {S : Keyed → Prop}
structure MH (O : KeyOrd) (key : Keyed → O.α) (la lb : List Keyed) (out : Array Keyed) (na nb : Nat) : Prop where
  so : out.toList.Pairwise fun x y => RK O key y x
  oa : ∀ x ∈ la.take na, ∀ y ∈ out.toList, RK O key x y
  ob : ∀ x ∈ lb.take nb, ∀ y ∈ out.toList, RK O key x y
  pm : (la.take na ++ lb.take nb ++ out.toList).Perm (la ++ lb)
abbrev HiS := Option (Array Keyed) × Nat × Nat × Array Keyed × Nat × Nat × Nat
section
variable {a b out : Array Keyed} {na nb : Nat} {st : SortSt} {R : ForInStep HiS → SortSt → Prop}
end
section
variable {a b : Array Keyed} {st : SortSt}
end
end
end PyProof.Rows
namespace PyProof.Rows
open PySem
section
variable {M : Model} {A : Around} {E : Value → Shared → Prop} {s : Shared} {O : KeyOrd} {key : Keyed → O.α} {kd : SortKind} {S : Keyed → Prop}
end
end PyProof.Rows
namespace PyProof.Rows
open PySem
section
variable {M : Model} {A : Around} {E : Value → Shared → Prop} {s : Shared} {O : KeyOrd} {key : Keyed → O.α} {kd : SortKind} {S : Keyed → Prop}
/-- as it was, but for the order of what stands from lo on -/
def Stp (lo : Nat) (st st' : SortSt) : Prop := kindOf st' = kindOf st ∧ failedOf st' = failedOf st ∧ pendingOf st' = pendingOf st ∧ (arrOf st').Perm (arrOf st) ∧ ∀ i, i < lo → (arrOf st')[i]? = (arrOf st)[i]?
theorem Stp.refl (lo : Nat) (st : SortSt) : Stp lo st st := ⟨rfl, rfl, rfl, Array.Perm.refl _, fun _ _ => rfl⟩
theorem Stp.trans {lo : Nat} {a b c : SortSt} (h : Stp lo a b) (k : Stp lo b c) : Stp lo a c := ⟨k.1.trans h.1, k.2.1.trans h.2.1, k.2.2.1.trans h.2.2.1, k.2.2.2.1.trans h.2.2.2.1, fun i hi => (k.2.2.2.2 i hi).trans (h.2.2.2.2 i hi)⟩
theorem Stp.size {lo : Nat} {a b : SortSt} (h : Stp lo a b) : (arrOf b).size = (arrOf a).size := h.2.2.2.1.size_eq
theorem Stp.all {lo : Nat} {a b : SortSt} (h : Stp lo a b) (hS : ∀ x ∈ (arrOf a).toList, S x) : ∀ x ∈ (arrOf b).toList, S x := fun x hx => hS x ((Array.perm_iff_toList_perm.mp h.2.2.2.1).mem_iff.mp hx)
end
end PyProof.Rows
namespace PyProof.Rows
open PySem
section
variable {M : Model} {A : Around} {E : Value → Shared → Prop} {s : Shared} {O : KeyOrd} {key : Keyed → O.α} {kd : SortKind} {S : Keyed → Prop}
/-- where the runs lie -/
def offs : List (List Keyed) → Nat → List (Nat × Nat)
  | [], _ => []
  | g :: gs, o => (o, g.length) :: offs gs (o + g.length)
structure PI (O : KeyOrd) (key : Keyed → O.α) (kd : SortKind) (a₀ : Array Keyed) (st : SortSt) (segs : List (List Keyed)) (rest : List Keyed) : Prop where
  kind : kindOf st = kd
  fail : failedOf st = none
  perm : (arrOf st).Perm a₀
  arr : (arrOf st).toList = segs.flatten ++ rest
  srt : ∀ g ∈ segs, 1 ≤ g.length ∧ g.Pairwise (RK O key)
  pend : (pendingOf st).toList.map (fun p => (p.1, p.2.1)) = offs segs 0
theorem PI.size {a₀ : Array Keyed} {st : SortSt} {segs : List (List Keyed)} {rest : List Keyed} (h : PI O key kd a₀ st segs rest) : a₀.size = segs.flatten.length + rest.length := by
  rw [← h.perm.size_eq, ← Array.length_toList, h.arr, List.length_append]
end
end PyProof.Rows

/-! ## sorted(list of tuples of ints), however long -/
namespace L2
open PySem PySem.Spec PyProof.Rows
section
variable {prog : Program} {w : World} {A : Around} {E : Value → Shared → Prop} {s : Shared}
def sameBut (a : Addr) (h h' : Heap) : Prop := ∀ b o, b ≠ a → h.get? b = some o → h'.get? b = some o
/-! ### tuples of ints as keys -/
end
end L2
namespace L2
open PySem PySem.Spec PyProof.Rows My
section
variable {X : Cx}
end
end L2

/-! ## a tuple in a list of tuples, and not in it -/
namespace L2
open PySem PySem.Spec PyProof.Rows
section
variable {X : Cx}
end
end L2
namespace My
open PySem L2
/-! ### rows in order -/
end My

/-! ## a tie beside a tree has a ring -/
namespace My
open PySem L2
end My

/-! ## greater numbers -/
namespace L2
open PySem PySem.Spec PyProof.Rows
section
variable {X : Cx}
end
end L2

/-! ## sorted(list of lists of ints) -/
namespace L2
open PySem PySem.Spec PyProof.Rows
open PySem.SeqAt
open PySem.AutoSeq1 (wpAny_loadPart')
open PySem.MeetsSeq PySem.MeetsSeq2 PySem.MeetsSeq3
end L2
namespace L2
open PySem PySem.Spec PyProof.Rows My
section
variable {prog : Program} {w : World} {A : Around} {E : Value → Shared → Prop} {s : Shared}
end
section
variable {X : Cx}
end
end L2

/-! ## greater factors -/
namespace L2
open PySem PySem.Spec PyProof.Rows
def CMulC (i j : Int) : Prop := (-(10 ^ 200) < i ∧ i < 10 ^ 200) ∧ (-(10 ^ 200) < j ∧ j < 10 ^ 200)
theorem bits_great {a : Int} (h1 : -(10 ^ 200) < a) (h2 : a < 10 ^ 200) : Builtin.Int.intBits a ≤ 1000 := by
  have h : a.natAbs < 10 ^ 200 := by omega
  exact PySem.intBits_le_iff.mpr (Nat.lt_trans h (by decide))
section
variable {X : Cx}
theorem op_mulC : OpR X (binaryOp .Mult) (rI CMulC fun i j => .int (i * j)) := opI fun _ _ _ _ _ _ _ hc q => mul_int q (.of_bits (Nat.le_trans (bits_great hc.1.1 hc.1.2) (by decide)) (Nat.le_trans (bits_great hc.2.1 hc.2.2) (by decide)))
end
end L2

/-! ## all rows of ties that are not longer than a tree -/
namespace My
open PySem L2
end My

/-! ## min(list of ints) -/
namespace L2
open PySem PySem.Spec PyProof.Rows
section
variable {X : Cx}
end
end L2

/-! ## ways from tree to tree -/
namespace My
open PySem L2
/-- the steps of a way: by the ties of the other tree, in their order -/
inductive WP (n : Int) (ps : List (Int × Int)) (W : List Int) (T0 : List Int) : List Int → List (Int × Int) → List Int → Prop
  | nil : WP n ps W T0 [] [] T0
  | skip {l : List Int} {ws : List (Int × Int)} {T : List Int} {z : Int} : WP n ps W T0 l ws T → z ∈ T → WP n ps W T0 (l ++ [z]) ws T
  | step {l : List Int} {ws : List (Int × Int)} {T T' : List Int} {z o : Int} : WP n ps W T0 l ws T → z ∉ T → o ∈ ringA n ps T z T → o ∉ W → (∀ y ∈ ringA n ps T z T, y ∉ W → o ≤ y) → T'.Perm (wo T o ++ [z]) → T'.Pairwise (· ≤ ·) → WP n ps W T0 (l ++ [z]) (ws ++ [(o, z)]) T'
end My

/-! ## pieces joined -/
namespace My
open PySem L2
theorem asc_ext {a b : List Int} (ha : a.Pairwise (· < ·)) (hb : b.Pairwise (· < ·)) (h : ∀ z, z ∈ a ↔ z ∈ b) : a = b :=
  (asc_sub ha hb fun z hz => (h z).mp hz).eq_of_length (Nat.le_antisymm (asc_sub ha hb fun z hz => (h z).mp hz).length_le (asc_sub hb ha fun z hz => (h z).mpr hz).length_le)
end My

/-! ## webs numbered anew -/
namespace My
open PySem L2
end My

/-! ## min and max of a tuple of ints -/
namespace L2
open PySem PySem.Spec PyProof.Rows
section
variable {prog : Program} {w : World} {A : Around} {E : Value → Shared → Prop} {s : Shared} {l : Addr} {xs : Array (Int × Tok)}
end
section
variable {X : Cx}
end
end L2

/-! ## one tie left out, two places drawn together -/
namespace My
open PySem L2
theorem cut_from2 {xs : List V} {i : Int} (h0 : 0 ≤ i) : cutV xs (some i) none = xs.drop i.toNat := by
  have e : HT.sIx xs.length 0 (some i) = min i.toNat xs.length := by
    show (if i < 0 then (i + (xs.length : Int)).toNat else min i.toNat xs.length) = _
    rw [if_neg (by omega)]
  unfold cutV
  rw [e, HT.sIx_none, List.take_of_length_le (by rw [List.length_drop]; exact Nat.le_refl _)]
  by_cases h : i.toNat ≤ xs.length
  · rw [Nat.min_eq_left h]
  · rw [Nat.min_eq_right (by omega), List.drop_eq_nil_of_le (Nat.le_refl _), List.drop_eq_nil_of_le (by omega)]
/-- all but the one at z -/
def cutz {α : Type} (l : List α) (z : Int) : List α := l.take z.toNat ++ l.drop (z.toNat + 1)
theorem cut_z {xs : List V} {z : Int} (h0 : 0 ≤ z) : cutV xs none (some z) ++ cutV xs (some (z + 1)) none = cutz xs z := by
  rw [cut_upto h0, cut_from2 (by omega), show (z + 1).toNat = z.toNat + 1 by omega]
  rfl
theorem cutz_len {α : Type} (l : List α) (z : Int) : (cutz l z).length ≤ l.length := by
  unfold cutz
  rw [List.length_append, List.length_take, List.length_drop]
  omega
/-- a place's number when hi is drawn to lo -/
def dn (lo hi i : Int) : Int := if i = hi then lo else if i < hi then i else i - 1
theorem rgL_succ (i : Nat) : rgL (i + 1) = rgL i ++ [(i : Int)] := by unfold rgL; rw [List.range_succ, List.map_append]; rfl
end My

/-! ## an item of a list or of a tuple; two tests with one end -/
namespace L2
open PySem PySem.Spec PyProof.Rows
section
variable {X : Cx}
end
end L2

/-! ## lists of a known length -/
namespace My
theorem len1 {α : Type} {l : List α} (h : l.length = 1) : ∃ a, l = [a] := by
  cases l with
  | nil => cases h
  | cons a l => cases l with
    | nil => exact ⟨a, rfl⟩
    | cons b l => simp at h
theorem len2 {α : Type} {l : List α} (h : l.length = 2) : ∃ a b, l = [a, b] := by
  cases l with
  | nil => cases h
  | cons a l =>
    obtain ⟨b, rfl⟩ := len1 (Nat.succ.inj h)
    exact ⟨a, b, rfl⟩
theorem len3 {α : Type} {l : List α} (h : l.length = 3) : ∃ a b c, l = [a, b, c] := by
  cases l with
  | nil => cases h
  | cons a l =>
    obtain ⟨b, c, rfl⟩ := len2 (Nat.succ.inj h)
    exact ⟨a, b, c, rfl⟩
end My

/-! ## the script's numbers have a weight; products within it -/
namespace L2
open PySem PySem.Spec PyProof.Rows
section
variable {X : Cx}
end
end L2
namespace Att
open PySem PySem.W PySem.Calls PyProof.Rows
end Att
namespace L2
open PySem PySem.Spec PyProof.Rows
end L2

/-! ## two webs put together; a pair many times -/
namespace My
open PySem L2
theorem PairsV.rep {H : Hp} {v : V} {p : Int × Int} (h : PairV H v p) (k : Nat) : PairsV H (List.replicate k v) (List.replicate k p) := by
  refine ⟨by rw [List.length_replicate, List.length_replicate], fun i q e => ?_⟩
  rw [List.getElem?_replicate] at e
  split at e
  · rename_i hi
    cases e
    exact ⟨v, by rw [List.getElem?_replicate, if_pos hi], h⟩
  · cases e
end My

/-! ## tuple(list or tuple), told once -/
namespace L2
open PySem PySem.Spec PyProof.Rows
section
variable {X : Cx}
end
end L2
namespace My
open PySem L2
end My

/-! ## tuple(reversed(tuple)) -/
namespace L2
open PySem PySem.Spec PyProof.Rows
section
variable {prog : Program} {w : World} {A : Around} {E : Value → Shared → Prop} {s : Shared} {it a : Addr} {items : Array Value}
end
section
variable {X : Cx} {p p2 pos pos2 : Pos} {e : Expr} {t : TA}
end
end L2

/-! ## t + u and t[lo:hi] of own tuples, told once -/
namespace L2
open PySem PySem.Spec PyProof.Rows
section
variable {X : Cx}
end
end L2

/-! ## partners between two trees -/
namespace My
open PySem L2
theorem Conn.lift {es fs : List (Nat × Nat)} (h : ∀ e ∈ es, Conn fs e.1 e.2) {i j : Nat} (c : Conn es i j) : Conn fs i j := by
  induction c with
  | refl i => exact .refl i
  | edge e => exact h _ e
  | symm _ ih => exact ih.symm
  | trans _ _ ih1 ih2 => exact ih1.trans ih2
end My

/-! ## trees within joined ties, trees with a tie -/
namespace My
open PySem L2
end My

/-! ## tuple(..) of an own tuple or a list: an own tuple -/
namespace L2
open PySem PySem.Spec PyProof.Rows
section
variable {X : Cx}
end
end L2
namespace My
open PySem L2
/-- a walk of good steps from a tree -/
inductive Wk (n : Int) (ps : List (Int × Int)) (T0 : List Int) : List (Int × Int) → List Int → Prop
  | nil : Wk n ps T0 [] T0
  | step {ws : List (Int × Int)} {T T' : List Int} {o z : Int} : Wk n ps T0 ws T → exg n ps T o z → T'.Perm (wo T o ++ [z]) → T'.Pairwise (· ≤ ·) → Wk n ps T0 (ws ++ [(o, z)]) T'
end My

/-! ## the tree farthest from a tree -/
namespace My
open PySem L2
theorem cnt_same {M N : List Int} (s : SameP M N) : cnt M = cnt N := by
  unfold cnt fstA
  rw [← s.1]
  refine congrArg List.length (List.filter_congr fun p hp => ?_)
  have hp := List.mem_range.mp hp
  rw [Bool.eq_iff_iff, fstB_iff, fstB_iff]
  constructor
  · intro h i hi e
    exact h i hi ((s.2 i p (by omega) hp).mpr e)
  · intro h i hi e
    exact h i hi ((s.2 i p (by omega) hp).mp e)
end My

/-! ## forests, listed in order -/
namespace My
open PySem L2
/-- no ring among them -/
def Fr (n : Nat) (ps : List (Int × Int)) (l : List Int) : Bool := decide (grw n ps l = l)
/-- the forests of so many ties -/
def frs (n : Nat) (ps : List (Int × Int)) (k : Nat) : List (List Int) := (cmb (ps.length : Int) k).filter (Fr n ps)
end My

/-! ## a tree that no exchange makes shorter is a shortest one -/
namespace My
open PySem L2
end My

/-! ## the gains of a tree, found tie by tie -/
namespace My
open PySem L2
end My

/-! ## the least and the greatest tree with some ties and without others -/
namespace My
open PySem L2
theorem srt_strict {a : List Int} (h : a.Pairwise (· ≤ ·)) (hn : a.Nodup) : a.Pairwise (· < ·) := (h.and hn).imp fun h => by have := h.1; have := h.2; omega
theorem asc_split {p r : List Int} {x : Int} (h : (p ++ x :: r).Pairwise (· < ·)) : (∀ z ∈ p, z < x) ∧ ∀ z ∈ x :: r, x ≤ z := by
  have a := List.pairwise_append.mp h
  refine ⟨fun z hz => a.2.2 z hz x List.mem_cons_self, fun z hz => ?_⟩
  rcases List.mem_cons.mp hz with h | h
  · rw [h]; exact Int.le_refl _
  · exact Int.le_of_lt ((List.pairwise_cons.mp a.2.1).1 z h)
end My

/-! ## for x in reversed(a list or a tuple) -/
namespace L2
open PySem PySem.Spec PyProof.Rows
section
variable {X : Cx}
end
end L2
namespace My
open PySem L2
end My

/-! ## the tree behind and the tree ahead -/
namespace My
open PySem L2
/-! ### what a call may answer: nothing, or a tree -/
end My

/-! ## a + b of two lists, wherever they lie -/
namespace L2
open PySem PySem.Spec PyProof.Rows
section
variable {X : Cx}
end
end L2

/-! ## trees counted by parting -/
namespace My
open PySem L2
/-- there are c trees -/
def TC (n : Int) (ps : List (Int × Int)) (c : Nat) : Prop := ∃ L : List (List Int), L.Nodup ∧ (∀ l, l ∈ L ↔ IsTree n ps l) ∧ L.length = c
theorem set_snoc {m : Nat} {T : List Int} : IsSet (m + 1) (T ++ [(m : Int)]) ↔ IsSet m T := by
  constructor
  · intro h
    have a := isSet_iff.mp h
    have b := List.pairwise_append.mp a.2
    refine isSet_iff.mpr ⟨fun z hz => ?_, b.1⟩
    have c := a.1 z (List.mem_append_left _ hz)
    have d := b.2.2 z hz m (List.mem_singleton.mpr rfl)
    omega
  · exact fun h => h.snoc
theorem set_last {m : Nat} {T : List Int} (h : IsSet (m + 1) T) : IsSet m T ∨ ∃ T', T = T' ++ [(m : Int)] ∧ IsSet m T' := by
  have a := isSet_iff.mp h
  by_cases hm : (m : Int) ∈ T
  · obtain ⟨p, r, e⟩ := List.append_of_mem hm
    have b := asc_split (e ▸ a.2)
    cases r with
    | nil => exact .inr ⟨p, e, set_snoc.mp (e ▸ h)⟩
    | cons y r =>
      have h1 := a.1 y (by rw [e]; simp)
      have h2 := (List.pairwise_cons.mp (List.pairwise_append.mp (e ▸ a.2)).2.1).1 y List.mem_cons_self
      omega
  · refine .inl (isSet_iff.mpr ⟨fun z hz => ?_, a.2⟩)
    have h1 := a.1 z hz
    have h2 : z ≠ (m : Int) := fun e => hm (e ▸ hz)
    omega
theorem conn_flip {es : List (Nat × Nat)} {a b i j : Nat} (c : Conn (es ++ [(a, b)]) i j) : Conn (es ++ [(b, a)]) i j := c.lift fun e he => by
  rcases List.mem_append.mp he with q | q
  · exact .edge (List.mem_append_left _ q)
  · rw [List.mem_singleton.mp q]
    exact .symm (.edge (by simp))
end My

/-! ## loops in front -/
namespace My
open PySem L2
theorem kit_int_bool {K : PySem.W.Frag} : PySem.W.kitOne K (.type "int") (.type "bool") = some false := by
  unfold PySem.W.kitOne
  rw [if_neg (by decide)]
  rfl
end My

/-! ## list.insert -/
namespace L2
open PySem PySem.Spec PyProof.Rows
section
variable {X : Cx}
end
end L2

/-! ## forests, tie after tie -/
namespace My
open PySem L2
theorem prod_lt {a b M N : Int} (a0 : 0 ≤ a) (aM : a < M) (b0 : 0 ≤ b) (bN : b < N) : 0 ≤ a * b ∧ a * b < M * N := ⟨Int.mul_nonneg a0 b0, Int.lt_of_le_of_lt (Int.mul_le_mul_of_nonneg_left (Int.le_of_lt bN) a0) (Int.mul_lt_mul_of_pos_right aM (by omega))⟩
end My

/-! ## for x, y in zip(list, list) -/
namespace L2
open PySem PySem.Spec PyProof.Rows
/-- at turn i: a new pair of the two lists' i-th ones -/
def Itz (K : PySem.W.Frag) (a b : Addr) : It :=
  ⟨fun i H => ∃ xs ys x y, SqL K H a xs ∧ SqL K H b ys ∧ xs[i]? = some x ∧ ys[i]? = some y, fun i H v H' => ∃ T x y, H T = none ∧ v = .ref T ∧ H' = upd H T (.tup [x, y]) ∧ (∀ xs, SqL K H a xs → xs[i]? = some x) ∧ ∀ ys, SqL K H b ys → ys[i]? = some y,
   fun i H => ∃ xs ys, SqL K H a xs ∧ SqL K H b ys ∧ (xs.length ≤ i ∨ ys.length ≤ i)⟩
theorem turn_zip {P : Program} {w : World} {K : PySem.W.Frag} {elts : List Expr} {x1 : Nat} {pos : Pos} (a b z TI TO i1 i2 : Addr) (D : ZipApart z TI TO i1 i2 a b) :
    Turn P w K (.Tuple elts x1 pos) (Itz K a b) [z, TI, TO, i1, i2] z (fun i h => IsZip h z TI TO .none ∧ IsPair h TI (.ref i1) (.ref i2) ∧ (∃ c d, IsPair h TO c d) ∧ h.IsListIter i1 a i ∧ h.IsListIter i2 b i) where
  mem := by simp
  obj := fun i h st c hc => by
    obtain ⟨hz, hTI, ⟨u, v, hTO⟩, ⟨o1, e1, _, d1⟩, ⟨o2, e2, _, d2⟩⟩ := st
    have hc' : c = z ∨ c = TI ∨ c = TO ∨ c = i1 ∨ c = i2 := by simpa using hc
    rcases hc' with rfl | rfl | rfl | rfl | rfl
    · exact ⟨_, hz, fun v q => by
        have q' : Data.fields _ = Data.cell v := q
        cases q'⟩
    · exact ⟨_, hTI, fun v q => by
        have q' : Data.seq _ _ = Data.cell v := q
        cases q'⟩
    · exact ⟨_, hTO, fun v q => by
        have q' : Data.seq _ _ = Data.cell v := q
        cases q'⟩
    · exact ⟨o1, e1, fun v q => by rw [d1] at q; cases q⟩
    · exact ⟨o2, e2, fun v q => by rw [d2] at q; cases q⟩
  keep := fun i h h' st k => by
    obtain ⟨hz, hTI, ⟨u, v, hTO⟩, h1, h2⟩ := st
    exact ⟨k z (by simp) _ hz, k TI (by simp) _ hTI, ⟨u, v, k TO (by simp) _ hTO⟩, h1.at fun o e => k i1 (by simp) o e, h2.at fun o e => k i2 (by simp) o e⟩
  item := by
    intro X hP hw hK hc i pins s σ H E I hf st hg
    subst hP hw hK
    obtain ⟨xs, ys, x, y, hq, hq2, hx, hy⟩ := hg
    obtain ⟨hz, hTI, ⟨u0, v0, hTO⟩, h1, h2⟩ := st
    obtain ⟨its, rv, p, _⟩ := I.list hq
    obtain ⟨u, hu, ru⟩ := rv.get hx
    obtain ⟨its2, rv2, p2, _⟩ := I.list hq2
    obtain ⟨v, hv, rv'⟩ := rv2.get hy
    have fz := hf z (by simp)
    have fTO := hf TO (by simp)
    have fi1 := hf i1 (by simp)
    have fi2 := hf i2 (by simp)
    have hT0 : H s.heap.objs.size = none := I.hok.fresh (Nat.le_refl _)
    refine wpAny_pyNext_zip_item D hz hTI hTO h1 h2 p.isList p2.isList (x := u) (y := v) (by simpa using hu) (by simpa using hv) fun h' a1 a2 a3 a4 a5 hsz hk => ?_
    have ltT : ∀ b ob, s.heap.get? b = some ob → b ≠ s.heap.objs.size := fun b ob z => Nat.ne_of_lt (Heap.lt_size z)
    have ltH : ∀ b ob, H b = some ob → b ≠ s.heap.objs.size := fun b ob z => Nat.ne_of_lt (I.hok.lt z)
    have nof : ∀ c ob, H c = some ob → c ≠ z ∧ c ≠ TO ∧ c ≠ i1 ∧ c ≠ i2 := fun c ob q => ⟨fun e => (by rw [e, fz.1] at q; cases q), fun e => (by rw [e, fTO.1] at q; cases q), fun e => (by rw [e, fi1.1] at q; cases q), fun e => (by rw [e, fi2.1] at q; cases q)⟩
    have hkc : ∀ c o, c ∉ [z, TO, i1, i2] → s.heap.get? c = some o → h'.get? c = some o := fun c o hcx q => hk c o (fun e => hcx (by simp [e])) (fun e => hcx (by simp [e])) (fun e => hcx (by simp [e])) (fun e => hcx (by simp [e])) q
    have I1 : Inv X pins σ (upd H s.heap.objs.size (.tup [x, y])) { s with heap := h' } := by
      refine I.step (g' := s.gens) (d' := s.drawn) (t' := s.toks) (ch := [z, TO, i1, i2]) (fun c hb => ?_) (fun c o _ _ hcx q _ => hkc c o hcx q) (fun c o _ _ hcx q _ => ⟨o.slots, hkc c o hcx q⟩)
        (fun c o _ q n => by rw [upd_ne (ltT c o q)]; exact n) (fun c o hcx q => ⟨o, hkc c o hcx q⟩) (fun c ys q => by rw [upd_ne (ltH c _ q)]; exact q) (fun c o v q => by rw [upd_ne (ltH c _ q)]; exact q)
        (fun c ps q => ⟨#[], by rw [upd_ne (ltH c _ q), q]; simp⟩) (fun m hm => ?_) (fun c v' q => ?_) I.bare
      · have hc' : c = z ∨ c = TO ∨ c = i1 ∨ c = i2 := by simpa using hb
        rcases hc' with rfl | rfl | rfl | rfl
        · exact ⟨fz.2.2.2.1, fz.2.1, fz.2.2.2.2.1, fz.2.2.2.2.2⟩
        · exact ⟨fTO.2.2.2.1, fTO.2.1, fTO.2.2.2.2.1, fTO.2.2.2.2.2⟩
        · exact ⟨fi1.2.2.2.1, fi1.2.1, fi1.2.2.2.2.1, fi1.2.2.2.2.2⟩
        · exact ⟨fi2.2.2.2.1, fi2.2.1, fi2.2.2.2.2.1, fi2.2.2.2.2.2⟩
      · obtain ⟨o, es, ep, ho', r⟩ := hm
        exact ⟨o, es, ep, hk _ o (Ne.symm fz.2.1) (Ne.symm fTO.2.1) (Ne.symm fi1.2.1) (Ne.symm fi2.2.1) ho', r⟩
      · by_cases hb : c = s.heap.objs.size
        · subst hb
          rw [upd_same] at q
          cases q
          exact ⟨by show 2 ≤ sizeLine; decide, [u, v], .cons ru (.cons rv' .nil), ⟨_, a5, rfl, _, rfl⟩⟩
        · rw [upd_ne hb] at q
          refine (I.hok c v' q).stay (fun e w' hc' q' => ?_) (fun e q => by rw [upd_ne (ltH e _ q)]; exact q) fun e ys q => by rw [upd_ne (ltH e _ q)]; exact q
          rcases hc' with rfl | hc'
          · have := nof e _ q
            exact hk e w' this.1 this.2.1 this.2.2.1 this.2.2.2 q'
          · have := nof e _ hc'
            exact hk e w' this.1 this.2.1 this.2.2.1 this.2.2.2 q'
    refine ⟨_, rfl, wpAny_letOwnedTupleGo_zip a1 fun h2 hz2 hs2 => ?_⟩
    have fT : z ≠ s.heap.objs.size := ltT z _ hz
    have I2 : Inv X pins σ (upd H s.heap.objs.size (.tup [x, y])) { s with heap := h2 } := Inv.turned (s := { s with heap := h' }) (h' := h2) (t' := s.toks) (it := z) I1 (fun b o hb q => hs2.extBut b o hb q) (by rw [upd_ne fT]; exact fz.1) fz.2.1 fz.2.2.2.1 fz.2.2.2.2.1 fz.2.2.2.2.2
    refine ⟨.ref s.heap.objs.size, _, I2, rfl, ⟨_, x, y, hT0, rfl, rfl, fun ys hy' => by rw [I.list_inj hy' hq]; exact hx, fun ys hy' => by rw [I.list_inj hy' hq2]; exact hy⟩,
      ⟨hz2, hs2.extBut _ _ D.TIz (hkc _ _ (by have := D.TIz; have := D.TITO; have := D.TIi1; have := D.TIi2; simp; exact ⟨D.TIz, D.TITO, D.TIi1, D.TIi2⟩) hTI), ⟨u, v, hs2.extBut _ _ D.TOz a2⟩, a3.at fun o q => hs2.extBut i1 o D.i1z q, a4.at fun o q => hs2.extBut i2 o D.i2z q⟩, fun c hc => ?_⟩
    have hc' : c = z ∨ c = TI ∨ c = TO ∨ c = i1 ∨ c = i2 := by simpa using hc
    have hn := (hf c hc).1
    rcases hc' with rfl | rfl | rfl | rfl | rfl
    · rw [upd_ne fT]; exact hn
    · rw [upd_ne (ltT _ _ hTI)]; exact hn
    · rw [upd_ne (ltT _ _ hTO)]; exact hn
    · obtain ⟨o, eo, _⟩ := h1
      rw [upd_ne (ltT _ o eo)]; exact hn
    · obtain ⟨o, eo, _⟩ := h2
      rw [upd_ne (ltT _ o eo)]; exact hn
  done := by
    intro X hP hw hK hc i pins s σ H E I hf st hg
    subst hP hw hK
    obtain ⟨xs, ys, hq, hq2, hend⟩ := hg
    obtain ⟨hz, hTI, ⟨u0, v0, hTO⟩, h1, h2⟩ := st
    obtain ⟨its, rv, p, _⟩ := I.list hq
    obtain ⟨its2, rv2, p2, _⟩ := I.list hq2
    have l1 := rv.length
    have l2 := rv2.length
    have fz := hf z (by simp)
    have fTO := hf TO (by simp)
    have fi1 := hf i1 (by simp)
    have fi2 := hf i2 (by simp)
    refine wpAny_pyNext_zip_end (I.ok.hd hc) D hz hTI hTO h1 h2 p.isList p2.isList (by
      rcases hend with e | e
      · exact .inl (by simp; omega)
      · exact .inr (by simp; omega)) fun h' hk => ⟨rfl, ?_⟩
    have hkc : ∀ c o, c ∉ [z, TO, i1, i2] → s.heap.get? c = some o → h'.get? c = some o := fun c o hcx q => hk c o (fun e => hcx (by simp [e])) (fun e => hcx (by simp [e])) (fun e => hcx (by simp [e])) (fun e => hcx (by simp [e])) q
    have nof : ∀ c ob, H c = some ob → c ≠ z ∧ c ≠ TO ∧ c ≠ i1 ∧ c ≠ i2 := fun c ob q => ⟨fun e => (by rw [e, fz.1] at q; cases q), fun e => (by rw [e, fTO.1] at q; cases q), fun e => (by rw [e, fi1.1] at q; cases q), fun e => (by rw [e, fi2.1] at q; cases q)⟩
    refine I.step (g' := s.gens) (d' := s.drawn) (t' := s.toks) (ch := [z, TO, i1, i2]) (fun c hb => ?_) (fun c o _ _ hcx q _ => hkc c o hcx q) (fun c o _ _ hcx q _ => ⟨o.slots, hkc c o hcx q⟩)
      (fun c o _ q n => n) (fun c o hcx q => ⟨o, hkc c o hcx q⟩) (fun c ys q => q) (fun c o v q => q)
      (fun c ps q => ⟨#[], by rw [q]; simp⟩) (fun m hm => ?_) (fun c v' q => ?_) I.bare
    · have hc' : c = z ∨ c = TO ∨ c = i1 ∨ c = i2 := by simpa using hb
      rcases hc' with rfl | rfl | rfl | rfl
      · exact ⟨fz.2.2.2.1, fz.2.1, fz.2.2.2.2.1, fz.2.2.2.2.2⟩
      · exact ⟨fTO.2.2.2.1, fTO.2.1, fTO.2.2.2.2.1, fTO.2.2.2.2.2⟩
      · exact ⟨fi1.2.2.2.1, fi1.2.1, fi1.2.2.2.2.1, fi1.2.2.2.2.2⟩
      · exact ⟨fi2.2.2.2.1, fi2.2.1, fi2.2.2.2.2.1, fi2.2.2.2.2.2⟩
    · obtain ⟨o, es, ep, ho', r⟩ := hm
      exact ⟨o, es, ep, hk _ o (Ne.symm fz.2.1) (Ne.symm fTO.2.1) (Ne.symm fi1.2.1) (Ne.symm fi2.2.1) ho', r⟩
    · refine (I.hok c v' q).stay (fun e w' hc' q' => ?_) (fun e q => q) fun e ys q => q
      rcases hc' with rfl | hc'
      · have := nof e _ q
        exact hk e w' this.1 this.2.1 this.2.2.1 this.2.2.2 q'
      · have := nof e _ hc'
        exact hk e w' this.1 this.2.1 this.2.2.1 this.2.2.2 q'
  self := fun _ _ _ _ _ st h => wpAny_pyIter_zip st.1 h
def iZip (K : PySem.W.Frag) (ta : TA) : TI := fun σ H R => ta σ H fun vs H1 => ∃ a b, vs = [.ref a, .ref b] ∧ (∃ xs ys, SqL K H1 a xs ∧ SqL K H1 b ys) ∧ R (Itz K a b) H1
section
variable {X : Cx}
theorem pi_zip (K : PySem.W.Frag) {elts : List Expr} {x1 : Nat} {tpos : Pos} {e f : Expr} {ta : TA} {p pos : Pos} (hg : Gl X "zip") (hm : X.mg "zip" = none) (ha : PA X [e, f] ta) (hs : starEach [e, f] X.env = (false, eval e X.env) :: starEach [f] X.env := by rfl) (hpl : (backTo pos (starEach [f] X.env)).any (·.1) = false := by rfl) (hk : X.K = K := by rfl) :
    PI X (.Tuple elts x1 tpos) (.Call (.Name "zip" p) [e, f] [] pos) (iZip K ta) := by
  subst hk
  intro pins s σ H R I h
  refine Call_ (ld_blt I hg hm Boot.«zip» (PyProof.Rows.callWith_type1 (thn (ha pos pins s σ H _ I h) fun us s1 ⟨vs, H1, I1, r1, q1⟩ => ?_) hs hpl))
  obtain ⟨a, b, ev, ⟨xs, ys, hq, hq2⟩, q⟩ := q1
  subst ev
  obtain ⟨u, u', rfl, ru, ru'⟩ := vals2 r1
  obtain rfl : u = Value.ref a := ru
  obtain rfl : u' = Value.ref b := ru'
  obtain ⟨its, rv, pl, _⟩ := I1.list hq
  obtain ⟨its2, rv2, pl2, _⟩ := I1.list hq2
  have lt1 : a < s1.heap.objs.size := let ⟨_, _, e, _⟩ := pl; Heap.lt_size e
  have lt2 : b < s1.heap.objs.size := let ⟨_, _, e, _⟩ := pl2; Heap.lt_size e
  have D : ZipApart (s1.heap.objs.size + 4) (s1.heap.objs.size + 2) (s1.heap.objs.size + 3) s1.heap.objs.size (s1.heap.objs.size + 1) a b := by
    have key : ∀ n x y : Nat, x < n → y < n → ZipApart (n + 4) (n + 2) (n + 3) n (n + 1) x y := fun n x y h1 h2 => by constructor <;> (intro q; have q' : (_ : Nat) = _ := q; omega)
    exact key _ _ _ lt1 lt2
  refine call_zip_2 pl.isList pl2.isList fun h' hz hTI hTO hi1 hi2 hsz hk => ?_
  refine wpAny_pyIter_zip (s := { s1 with heap := h' }) hz ?_
  refine ⟨s1.heap.objs.size + 4, [s1.heap.objs.size + 4, s1.heap.objs.size + 2, s1.heap.objs.size + 3, s1.heap.objs.size, s1.heap.objs.size + 1], _, _, H1, rfl, I1.kept (t' := s1.toks) hk, turn_zip a b _ _ _ _ _ D, ⟨hz, hTI, ⟨_, _, hTO⟩, hi1, hi2⟩, fun c hc => ?_, q⟩
  have hle : s1.heap.objs.size ≤ c := by
    have hc' : c = s1.heap.objs.size + 4 ∨ c = s1.heap.objs.size + 2 ∨ c = s1.heap.objs.size + 3 ∨ c = s1.heap.objs.size ∨ c = s1.heap.objs.size + 1 := by simpa using hc
    rcases hc' with e | e | e | e | e <;> rw [e] <;> first | exact Nat.le_refl _ | exact Nat.le_add_right _ _
  exact I1.fpOk hle (I1.hok.fresh hle)
end
end L2
namespace My
open PySem L2
section
variable {K : PySem.W.Frag} {a b : Addr} {xs ys : List V} {g : TG} {tt : TT} {te : TE} {o : Nat} {fr : List Nat} {σ : St} {H : Hp} {Q : VK}
/-- a list out of two -/
theorem lc_zip (Pv : Nat → List V → Hp → Prop) (h0 : Pv 0 [] H) (hxy : xs.length = ys.length) (hz : xs.length < sizeLine) (hl : ∀ i zs H, i ≤ xs.length → Pv i zs H → SqL K H a xs ∧ SqL K H b ys ∧ zs.length ≤ i)
    (hs : ∀ (i : Nat) x y zs H (p : Addr), H p = none → xs[i]? = some x → ys[i]? = some y → Pv i zs H → LcTurn Pv g tt te o fr σ i (.ref p) zs (upd H p (.tup [x, y]))) (hd : ∀ zs H, Pv xs.length zs H → ∀ p, H p = none → Q (.ref p) (upd H p (.lst zs))) : LcR (Itz K a b) g tt te o fr σ H Q := by
  refine ⟨fun i m zs H => m = xs.length - i ∧ i ≤ xs.length ∧ Pv i zs H, ⟨xs.length, by simp, Nat.zero_le _, h0⟩, ?_⟩
  rintro i m zs H ⟨rfl, hi, p⟩
  obtain ⟨q, q2, hy⟩ := hl i zs H hi p
  by_cases hlt : i < xs.length
  · refine .inr ⟨⟨xs, ys, xs[i], ys[i]'(by omega), q, q2, by simp [hlt], List.getElem?_eq_getElem (by omega)⟩, by omega, fun x H' ⟨T, u, v, hT, ex, eH, hu, hv⟩ => ?_⟩
    subst ex eH
    exact hs i u v zs H T hT (hu xs q) (hv ys q2) p (fun j zs H => ∃ m', m' < xs.length - i ∧ m' = xs.length - j ∧ j ≤ xs.length ∧ Pv j zs H) fun zs H p' => ⟨xs.length - (i + 1), by omega, rfl, hlt, p'⟩
  · have e : i = xs.length := by omega
    subst e
    exact .inl ⟨⟨xs, ys, q, q2, .inl (Nat.le_refl _)⟩, by omega, hd zs H p⟩
end
end My

/-! ## determinants, by the first row -/
namespace My
abbrev Mx := Nat → Nat → Int
/-- the sum of the first n -/
def sm : Nat → (Nat → Int) → Int
  | 0, _ => 0
  | n + 1, f => sm n f + f n
theorem sm_congr {f g : Nat → Int} : ∀ {n : Nat}, (∀ i, i < n → f i = g i) → sm n f = sm n g
  | 0, _ => rfl
  | n + 1, h => by
    show sm n f + f n = sm n g + g n
    rw [sm_congr fun i hi => h i (by omega), h n (by omega)]
theorem sm_add {f g : Nat → Int} : ∀ {n : Nat}, sm n (fun i => f i + g i) = sm n f + sm n g
  | 0 => rfl
  | n + 1 => by
    show sm n (fun i => f i + g i) + (f n + g n) = sm n f + f n + (sm n g + g n)
    rw [sm_add]
    omega
theorem sm_mul {c : Int} {f : Nat → Int} : ∀ {n : Nat}, sm n (fun i => c * f i) = c * sm n f
  | 0 => (Int.mul_zero c).symm
  | n + 1 => by
    show sm n (fun i => c * f i) + c * f n = c * (sm n f + f n)
    rw [sm_mul, Int.mul_add]
theorem sm_zero : ∀ {n : Nat}, sm n (fun _ => 0) = 0
  | 0 => rfl
  | n + 1 => by
    show sm n (fun _ => 0) + 0 = 0
    rw [sm_zero]
    rfl
theorem sm_none {f : Nat → Int} {n : Nat} (h : ∀ i, i < n → f i = 0) : sm n f = 0 := by rw [sm_congr h]; exact sm_zero
theorem sm_first {f : Nat → Int} : ∀ {n : Nat}, sm (n + 1) f = f 0 + sm n (fun i => f (i + 1))
  | 0 => by show 0 + f 0 = f 0 + 0; omega
  | n + 1 => by
    show sm (n + 1) f + f (n + 1) = f 0 + (sm n (fun i => f (i + 1)) + f (n + 1))
    rw [sm_first]
    omega
theorem sm_swap {f : Nat → Nat → Int} {m : Nat} : ∀ {n : Nat}, sm n (fun i => sm m (f i)) = sm m (fun j => sm n (fun i => f i j))
  | 0 => sm_zero.symm
  | n + 1 => by
    show sm n (fun i => sm m (f i)) + sm m (f n) = sm m (fun j => sm n (fun i => f i j) + f n j)
    rw [sm_swap, sm_add]
/-- all numbers but j -/
def sk (j k : Nat) : Nat := if k < j then k else k + 1
def mn (A : Mx) (j : Nat) : Mx := fun i k => A (i + 1) (sk j k)
def sg (j : Nat) : Int := if j % 2 = 0 then 1 else -1
theorem sg_succ (j : Nat) : sg (j + 1) = - sg j := by
  unfold sg
  by_cases h : j % 2 = 0
  · rw [if_pos h, if_neg (by omega)]
  · rw [if_neg h, if_pos (by omega)]; rfl
def det : Nat → Mx → Int
  | 0, _ => 1
  | n + 1, A => sm (n + 1) fun j => sg j * A 0 j * det n (mn A j)
theorem sk_lt {j k n : Nat} (h : k < n) : sk j k < n + 1 := by unfold sk; split <;> omega
theorem det_congr : ∀ {n : Nat} {A B : Mx}, (∀ i j, i < n → j < n → A i j = B i j) → det n A = det n B
  | 0, _, _, _ => rfl
  | n + 1, A, B, h => sm_congr fun j hj => by
    rw [h 0 j (by omega) hj, det_congr (A := mn A j) (B := mn B j) fun i k hi hk => h (i + 1) (sk j k) (by omega) (sk_lt hk)]
theorem det_lin : ∀ {n : Nat} {A B C : Mx} {c : Int} {i : Nat}, i < n → (∀ r j, r < n → j < n → r ≠ i → A r j = B r j ∧ A r j = C r j) → (∀ j, j < n → A i j = c * B i j + C i j) → det n A = c * det n B + det n C
  | 0, _, _, _, _, _, hi, _, _ => absurd hi (Nat.not_lt_zero _)
  | n + 1, A, B, C, c, i, hi, h1, h2 => by
    show sm (n + 1) (fun j => sg j * A 0 j * det n (mn A j)) = c * sm (n + 1) (fun j => sg j * B 0 j * det n (mn B j)) + sm (n + 1) (fun j => sg j * C 0 j * det n (mn C j))
    rw [← sm_mul, ← sm_add]
    refine sm_congr fun j hj => ?_
    cases i with
    | zero =>
      have e1 : det n (mn B j) = det n (mn A j) := det_congr fun r k hr hk => (h1 (r + 1) (sk j k) (by omega) (sk_lt hk) (by omega)).1.symm
      have e2 : det n (mn C j) = det n (mn A j) := det_congr fun r k hr hk => (h1 (r + 1) (sk j k) (by omega) (sk_lt hk) (by omega)).2.symm
      rw [e1, e2, h2 j hj]
      generalize det n (mn A j) = d
      generalize sg j = s
      rw [Int.mul_add, Int.add_mul, ← Int.mul_assoc s c, Int.mul_comm s c, Int.mul_assoc c s, Int.mul_assoc c]
    | succ i =>
      have e := det_lin (n := n) (A := mn A j) (B := mn B j) (C := mn C j) (c := c) (i := i) (by omega) (fun r k hr hk hne => h1 (r + 1) (sk j k) (by omega) (sk_lt hk) (by omega)) (fun k hk => h2 (sk j k) (sk_lt hk))
      have e0 := h1 0 j (by omega) hj (by omega)
      rw [e, ← e0.1, ← e0.2]
      generalize det n (mn B j) = d
      generalize det n (mn C j) = d'
      generalize sg j * A 0 j = s
      rw [Int.mul_add, ← Int.mul_assoc, ← Int.mul_assoc, Int.mul_comm s c]
theorem mn_mn {A : Mx} {j k i l : Nat} (h : j ≤ k) : mn (mn A j) k i l = mn (mn A (k + 1)) j i l := by
  show A (i + 1 + 1) (sk j (sk k l)) = A (i + 1 + 1) (sk (k + 1) (sk j l))
  refine congrArg _ ?_
  unfold sk
  by_cases h1 : l < j
  · rw [if_pos (show l < k by omega), if_pos h1, if_pos (show l < k + 1 by omega)]
  · rw [if_neg h1]
    by_cases h2 : l < k
    · rw [if_pos h2, if_neg h1, if_pos (show l + 1 < k + 1 by omega)]
    · rw [if_neg h2, if_neg (show ¬ l + 1 < j by omega), if_neg (show ¬ l + 1 < k + 1 by omega)]
/-- two neighbouring rows alike -/
theorem det_next : ∀ {n : Nat} {A : Mx} {i : Nat}, i + 1 < n → (∀ j, j < n → A i j = A (i + 1) j) → det n A = 0
  | 0, _, _, hi, _ => absurd hi (Nat.not_lt_zero _)
  | n + 1, A, i + 1, hi, h => sm_none fun j hj => by
    rw [det_next (A := mn A j) (i := i) (by omega) fun k hk => h (sk j k) (sk_lt hk), Int.mul_zero]
  | 1, _, 0, hi, _ => absurd hi (by omega)
  | n + 2, A, 0, _, h => by
    -- t j k: columns j and then k
    obtain ⟨t, ht⟩ : ∃ t : Nat → Nat → Int, t = fun j k => sg j * A 0 j * (sg k * A 1 (sk j k) * det n (mn (mn A j) k)) := ⟨_, rfl⟩
    have e1 : det (n + 2) A = sm (n + 2) fun j => sm (n + 1) (t j) := sm_congr fun j hj => by
      rw [ht, sm_mul]
      rfl
    have e2 : ∀ j k, j ≤ k → k < n + 1 → t (k + 1) j = - t j k := fun j k hjk hk => by
      rw [ht]
      show sg (k + 1) * A 0 (k + 1) * (sg j * A 1 (sk (k + 1) j) * det n (mn (mn A (k + 1)) j)) = - (sg j * A 0 j * (sg k * A 1 (sk j k) * det n (mn (mn A j) k)))
      have f1 : sk (k + 1) j = j := by unfold sk; rw [if_pos (by omega)]
      have f2 : sk j k = k + 1 := by unfold sk; rw [if_neg (by omega)]
      have f3 : det n (mn (mn A (k + 1)) j) = det n (mn (mn A j) k) := det_congr fun i l _ _ => (mn_mn hjk).symm
      rw [f1, f2, f3, sg_succ, ← h j (by omega), ← h (k + 1) (by omega)]
      generalize det n (mn (mn A j) k) = d
      generalize A 0 j = x
      generalize A 0 (k + 1) = y
      generalize sg j = s
      generalize sg k = u
      simp only [Int.neg_mul, Int.neg_inj]
      simp only [Int.mul_comm, Int.mul_left_comm, Int.mul_assoc]
    have e3 : sm (n + 2) (fun j => sm (n + 1) (t j)) = sm (n + 2) (fun j => sm (n + 1) fun k => if k < j then t j k else 0) + sm (n + 2) (fun j => sm (n + 1) fun k => if k < j then 0 else t j k) := by
      rw [← sm_add]
      refine sm_congr fun j _ => ?_
      rw [← sm_add]
      refine sm_congr fun k _ => ?_
      split <;> omega
    have e4 : sm (n + 2) (fun j => sm (n + 1) fun k => if k < j then t j k else 0) = sm (n + 1) (fun k => sm (n + 1) fun j => if k ≤ j then t (j + 1) k else 0) := by
      rw [sm_swap]
      refine sm_congr fun k _ => ?_
      rw [sm_first, if_neg (by omega), Int.zero_add]
      refine sm_congr fun j _ => ?_
      by_cases c : k ≤ j
      · rw [if_pos c, if_pos (by omega)]
      · rw [if_neg c, if_neg (by omega)]
    have e5 : sm (n + 2) (fun j => sm (n + 1) fun k => if k < j then 0 else t j k) = sm (n + 1) (fun j => sm (n + 1) fun k => if j ≤ k then t j k else 0) := by
      show sm (n + 1) (fun j => sm (n + 1) fun k => if k < j then 0 else t j k) + sm (n + 1) (fun k => if k < n + 1 then 0 else t (n + 1) k) = _
      rw [sm_none (f := fun k => if k < n + 1 then 0 else t (n + 1) k) fun k hk => if_pos hk, Int.add_zero]
      refine sm_congr fun j _ => sm_congr fun k _ => ?_
      by_cases c : j ≤ k
      · rw [if_pos c, if_neg (by omega)]
      · rw [if_neg c, if_pos (by omega)]
    rw [e1, e3, e4, e5, ← sm_add]
    refine sm_none fun j hj => ?_
    rw [← sm_add]
    refine sm_none fun k hk => ?_
    by_cases c : j ≤ k
    · rw [if_pos c, if_pos c, e2 j k c hk]
      omega
    · rw [if_neg c, if_neg c]
      rfl
end My

/-! ## determinants: rows exchanged, rows taken off -/
namespace My
/-- rows i and i + 1 put in -/
def put2 (A : Mx) (i : Nat) (x y : Nat → Int) : Mx := fun r => if r = i then x else if r = i + 1 then y else A r
theorem det_put2 {n : Nat} {A : Mx} {i : Nat} {x x' y : Nat → Int} (hi : i + 1 < n) : det n (put2 A i (fun j => x j + x' j) y) = det n (put2 A i x y) + det n (put2 A i x' y) := by
  have := det_lin (n := n) (A := put2 A i (fun j => x j + x' j) y) (B := put2 A i x y) (C := put2 A i x' y) (c := 1) (i := i) (by omega) (fun r j _ _ hne => by unfold put2; rw [if_neg hne, if_neg hne, if_neg hne]; exact ⟨rfl, rfl⟩) (fun j _ => by unfold put2; rw [if_pos rfl, if_pos rfl, if_pos rfl, Int.one_mul])
  rw [this, Int.one_mul]
theorem det_put2' {n : Nat} {A : Mx} {i : Nat} {x y y' : Nat → Int} (hi : i + 1 < n) : det n (put2 A i x (fun j => y j + y' j)) = det n (put2 A i x y) + det n (put2 A i x y') := by
  have ne : ¬ i + 1 = i := by omega
  have := det_lin (n := n) (A := put2 A i x (fun j => y j + y' j)) (B := put2 A i x y) (C := put2 A i x y') (c := 1) (i := i + 1) (by omega) (fun r j _ _ hne => by unfold put2; rw [if_neg hne, if_neg hne, if_neg hne]; exact ⟨rfl, rfl⟩) (fun j _ => by unfold put2; rw [if_neg ne, if_neg ne, if_neg ne, if_pos rfl, if_pos rfl, if_pos rfl, Int.one_mul])
  rw [this, Int.one_mul]
theorem det_same {n : Nat} {A : Mx} {i : Nat} {x : Nat → Int} (hi : i + 1 < n) : det n (put2 A i x x) = 0 := det_next hi fun j _ => by
  unfold put2
  rw [if_pos rfl, if_neg (by omega), if_pos rfl]
theorem det_turn {n : Nat} {A : Mx} {i : Nat} {x y : Nat → Int} (hi : i + 1 < n) : det n (put2 A i y x) = - det n (put2 A i x y) := by
  have h := det_same (A := A) (x := fun j => x j + y j) hi
  rw [det_put2 hi, det_put2' hi, det_put2' hi, det_same hi, det_same hi] at h
  omega
theorem put2_own {A : Mx} {i : Nat} : put2 A i (A i) (A (i + 1)) = A := by
  funext r
  unfold put2
  by_cases h : r = i
  · rw [if_pos h, h]
  · rw [if_neg h]
    by_cases h2 : r = i + 1
    · rw [if_pos h2, h2]
    · rw [if_neg h2]
theorem det_swap {n : Nat} {A : Mx} {i : Nat} (hi : i + 1 < n) : det n (put2 A i (A (i + 1)) (A i)) = - det n A := by
  have := det_turn (A := A) (x := A i) (y := A (i + 1)) hi
  rw [put2_own] at this
  exact this
/-- two rows alike -/
theorem det_alike {n : Nat} {a : Nat} : ∀ {d : Nat} {A : Mx}, a + d + 1 < n → (∀ j, j < n → A a j = A (a + d + 1) j) → det n A = 0
  | 0, A, hn, h => det_next hn h
  | d + 1, A, hn, h => by
    have e := det_swap (n := n) (A := A) (i := a + d + 1) (by omega)
    have z : det n (put2 A (a + d + 1) (A (a + d + 1 + 1)) (A (a + d + 1))) = 0 := by
      refine det_alike (a := a) (d := d) (by omega) fun j hj => ?_
      unfold put2
      rw [if_neg (by omega), if_neg (by omega), if_pos rfl]
      exact h j hj
    omega
/-- row k + t put before row k -/
def rotN (k t i : Nat) : Nat := if i < k then i else if i = k then k + t else if i ≤ k + t then i - 1 else i
theorem rotN_zero (k i : Nat) : rotN k 0 i = i := by
  unfold rotN
  by_cases h : i < k
  · rw [if_pos h]
  · rw [if_neg h]
    by_cases h2 : i = k
    · rw [if_pos h2, h2]; rfl
    · rw [if_neg h2, if_neg (by omega)]
theorem det_rot {n k : Nat} : ∀ {t : Nat} {A : Mx}, k + t < n → det n (fun i => A (rotN k t i)) = sg t * det n A
  | 0, A, _ => by
    rw [show sg 0 = 1 from rfl, Int.one_mul]
    exact det_congr fun i j _ _ => by rw [rotN_zero]
  | t + 1, A, h => by
    have e := det_rot (n := n) (k := k) (t := t) (A := put2 A (k + t) (A (k + t + 1)) (A (k + t))) (by omega)
    rw [det_swap (by omega)] at e
    have f : det n (fun i => A (rotN k (t + 1) i)) = det n (fun i => put2 A (k + t) (A (k + t + 1)) (A (k + t)) (rotN k t i)) := det_congr fun i j _ _ => by
      refine congrFun ?_ j
      have r1 : rotN k (t + 1) i = if i < k then i else if i = k then k + (t + 1) else if i ≤ k + (t + 1) then i - 1 else i := rfl
      have r2 : rotN k t i = if i < k then i else if i = k then k + t else if i ≤ k + t then i - 1 else i := rfl
      unfold put2
      by_cases h1 : i < k
      · rw [if_pos h1] at r1 r2
        rw [r1, r2, if_neg (by omega), if_neg (by omega)]
      · rw [if_neg h1] at r1 r2
        by_cases h2 : i = k
        · rw [if_pos h2] at r1 r2
          rw [r1, r2, if_pos rfl]
          rfl
        · rw [if_neg h2] at r1 r2
          by_cases h3 : i ≤ k + t
          · rw [if_pos (by omega)] at r1
            rw [if_pos h3] at r2
            rw [r1, r2, if_neg (by omega), if_neg (by omega)]
          · rw [if_neg h3] at r2
            by_cases h4 : i = k + t + 1
            · rw [if_pos (by omega)] at r1
              rw [r1, r2, if_neg (by omega), if_pos h4]
              exact congrArg A (by omega)
            · rw [if_neg (by omega)] at r1
              rw [r1, r2, if_neg (by omega), if_neg h4]
    rw [f, e, sg_succ, Int.mul_neg, Int.neg_mul]
theorem det_col0 : ∀ {n : Nat} {A : Mx}, (∀ i, i < n + 1 → A i 0 = 0) → det (n + 1) A = 0
  | 0, A, h => by
    show 0 + sg 0 * A 0 0 * 1 = 0
    rw [h 0 (by omega), Int.mul_zero]
    rfl
  | n + 1, A, h => sm_none fun j hj => by
    cases j with
    | zero => rw [h 0 (by omega), Int.mul_zero, Int.zero_mul]
    | succ j =>
      rw [det_col0 (A := mn A (j + 1)) fun i hi => ?_, Int.mul_zero]
      show A (i + 1) (sk (j + 1) 0) = 0
      rw [show sk (j + 1) 0 = 0 from rfl]
      exact h (i + 1) (by omega)
theorem det_first {n : Nat} {A : Mx} (h : ∀ i, i < n → A (i + 1) 0 = 0) : det (n + 1) A = A 0 0 * det n (fun i j => A (i + 1) (j + 1)) := by
  show sm (n + 1) (fun j => sg j * A 0 j * det n (mn A j)) = _
  rw [sm_first, sm_none fun j hj => ?_]
  · rw [Int.add_zero, show sg 0 = 1 from rfl, Int.one_mul]
    refine congrArg (A 0 0 * ·) (det_congr fun i j _ _ => ?_)
    rfl
  · cases n with
    | zero => exact absurd hj (Nat.not_lt_zero _)
    | succ n =>
      rw [det_col0 (A := mn A (j + 1)) fun i hi => ?_, Int.mul_zero]
      exact h i hi
theorem det_row0 {n : Nat} {A : Mx} {i : Nat} (hi : i < n) (h : ∀ j, j < n → A i j = 0) : det n A = 0 := by
  have := det_lin (A := A) (B := A) (C := A) (c := 1) hi (fun r j _ _ _ => ⟨rfl, rfl⟩) (fun j hj => by rw [h j hj]; rfl)
  omega
theorem det_scale {c : Int} : ∀ {n : Nat} {A : Mx}, det n (fun i j => c * A i j) = c ^ n * det n A
  | 0, _ => by show (1 : Int) = c ^ 0 * 1; rw [Int.pow_zero]; rfl
  | n + 1, A => by
    show sm (n + 1) (fun j => sg j * (c * A 0 j) * det n (mn (fun i j => c * A i j) j)) = c ^ (n + 1) * sm (n + 1) (fun j => sg j * A 0 j * det n (mn A j))
    rw [← sm_mul]
    refine sm_congr fun j _ => ?_
    have e : det n (mn (fun i j => c * A i j) j) = c ^ n * det n (mn A j) := det_scale (A := mn A j)
    rw [e, Int.pow_succ]
    generalize det n (mn A j) = d
    generalize c ^ n = p
    generalize sg j = s
    generalize A 0 j = x
    simp only [Int.mul_comm, Int.mul_left_comm, Int.mul_assoc]
/-- what stays of the rows below, once the first is taken off -/
def offN (R : Mx) : Mx := fun i j => R 0 0 * R (i + 1) (j + 1) - R (i + 1) 0 * R 0 (j + 1)
def offB (R : Mx) (k : Nat) : Mx := fun r j => if r = 0 then R 0 j else if r ≤ k then R 0 0 * R r j - R r 0 * R 0 j else R r j
theorem det_offB {m : Nat} {R : Mx} : ∀ {k : Nat}, k < m + 1 → det (m + 1) (offB R k) = R 0 0 ^ k * det (m + 1) R
  | 0, _ => by
    rw [Int.pow_zero, Int.one_mul]
    refine det_congr fun i j _ _ => ?_
    unfold offB
    by_cases h : i = 0
    · rw [if_pos h, h]
    · rw [if_neg h, if_neg (by omega)]
  | k + 1, hk => by
    have ih := det_offB (m := m) (R := R) (k := k) (by omega)
    -- the row in question: another of the first
    obtain ⟨C, hC⟩ : ∃ C : Mx, C = fun r j => if r = k + 1 then - R (k + 1) 0 * R 0 j else offB R k r j := ⟨_, rfl⟩
    obtain ⟨B, hB⟩ : ∃ B : Mx, B = fun r j => if r = k + 1 then R 0 j else offB R k r j := ⟨_, rfl⟩
    obtain ⟨Z, hZ⟩ : ∃ Z : Mx, Z = fun r j => if r = k + 1 then 0 else offB R k r j := ⟨_, rfl⟩
    have hBz : det (m + 1) B = 0 := det_alike (n := m + 1) (a := 0) (d := k) (by omega) fun j hj => by
      rw [hB]
      show (if 0 = k + 1 then _ else offB R k 0 j) = if 0 + k + 1 = k + 1 then _ else _
      rw [if_neg (by omega), if_pos (by omega)]
      rfl
    have hZz : det (m + 1) Z = 0 := det_row0 (i := k + 1) hk fun j hj => by rw [hZ]; exact if_pos rfl
    have hCz : det (m + 1) C = 0 := by
      have := det_lin (A := C) (B := B) (C := Z) (c := - R (k + 1) 0) hk (fun r j _ _ hne => by
        rw [hC, hB, hZ]
        show (if r = k + 1 then _ else offB R k r j) = (if r = k + 1 then _ else offB R k r j) ∧ (if r = k + 1 then _ else offB R k r j) = (if r = k + 1 then _ else offB R k r j)
        rw [if_neg hne, if_neg hne, if_neg hne]
        exact ⟨rfl, rfl⟩) (fun j _ => by
        rw [hC, hB, hZ]
        show (if k + 1 = k + 1 then _ else _) = _ * (if k + 1 = k + 1 then _ else _) + (if k + 1 = k + 1 then _ else _)
        rw [if_pos rfl, if_pos rfl, if_pos rfl, Int.add_zero])
      rw [this, hBz, hZz, Int.mul_zero]
      rfl
    have := det_lin (A := offB R (k + 1)) (B := offB R k) (C := C) (c := R 0 0) hk (fun r j _ _ hne => by
      have e1 : offB R (k + 1) r j = offB R k r j := by
        unfold offB
        by_cases h0 : r = 0
        · rw [if_pos h0, if_pos h0]
        · rw [if_neg h0, if_neg h0]
          by_cases h1 : r ≤ k
          · rw [if_pos h1, if_pos (by omega)]
          · rw [if_neg h1, if_neg (by omega)]
      refine ⟨e1, ?_⟩
      rw [hC, e1]
      show _ = if r = k + 1 then _ else _
      rw [if_neg hne]) (fun j _ => by
      have e1 : offB R (k + 1) (k + 1) j = R 0 0 * R (k + 1) j - R (k + 1) 0 * R 0 j := by
        unfold offB
        rw [if_neg (by omega), if_pos (by omega)]
      have e2 : offB R k (k + 1) j = R (k + 1) j := by
        unfold offB
        rw [if_neg (by omega), if_neg (by omega)]
      rw [e1, e2, hC]
      show _ = _ + (if k + 1 = k + 1 then - R (k + 1) 0 * R 0 j else _)
      rw [if_pos rfl, Int.neg_mul]
      rfl)
    rw [this, hCz, ih, Int.add_zero, Int.pow_succ]
    rw [← Int.mul_assoc, Int.mul_comm (R 0 0)]
theorem det_off {m : Nat} {R : Mx} : R 0 0 * det m (offN R) = R 0 0 ^ m * det (m + 1) R := by
  rw [← det_offB (k := m) (by omega), det_first fun i hi => ?_]
  · have e0 : offB R m 0 0 = R 0 0 := if_pos rfl
    rw [e0]
    refine congrArg (R 0 0 * ·) (det_congr fun i j hi hj => ?_)
    unfold offB offN
    rw [if_neg (by omega), if_pos (by omega)]
  · unfold offB
    rw [if_neg (by omega), if_pos (by omega), Int.mul_comm]
    omega
end My

/-! ## determinants, without fractions -/
namespace My
/-- the first k, and then those behind them that r names -/
def ex (k : Nat) (r : Nat → Nat) (i : Nat) : Nat := if i < k then i else k + r (i - k)
/-- the rows that stay after k steps are minors of the table: last is what divides -/
def Bar (A : Mx) (k M : Nat) (R : Mx) (last : Int) : Prop := last ≠ 0 ∧ ∀ (m : Nat) (r c : Nat → Nat), (∀ i, i < m + 1 → r i < M ∧ c i < M) →
  det (m + 1) (fun i j => R (r i) (c j)) = det (k + m + 1) (fun i j => A (ex k r i) (ex k c j)) * last ^ m
theorem bar_start (A : Mx) (n : Nat) : Bar A 0 n A 1 := ⟨by decide, fun m r c _ => by
  rw [Int.one_pow, Int.mul_one, Nat.zero_add]
  refine det_congr fun i j _ _ => ?_
  unfold ex
  rw [if_neg (Nat.not_lt_zero _), if_neg (Nat.not_lt_zero _), Nat.zero_add, Nat.zero_add, Nat.sub_zero, Nat.sub_zero]⟩
theorem pow_ne {p : Int} (h : p ≠ 0) : ∀ n : Nat, p ^ n ≠ 0
  | 0 => by rw [Int.pow_zero]; decide
  | n + 1 => by rw [Int.pow_succ]; exact Int.mul_ne_zero (pow_ne h n) h
/-- one before, then the next ones -/
def bef (r : Nat → Nat) : Nat → Nat
  | 0 => 0
  | i + 1 => r i + 1
theorem ex_bef (k : Nat) (r : Nat → Nat) (i : Nat) : ex k (bef r) i = ex (k + 1) r i := by
  unfold ex
  by_cases h : i < k
  · rw [if_pos h, if_pos (by omega)]
  · rw [if_neg h]
    by_cases h2 : i = k
    · rw [if_pos (by omega), h2, Nat.sub_self]
      rfl
    · rw [if_neg (by omega)]
      obtain ⟨d, rfl⟩ : ∃ d, i = k + d + 1 := ⟨i - k - 1, by omega⟩
      rw [show k + d + 1 - k = d + 1 by omega, show k + d + 1 - (k + 1) = d by omega]
      show k + (r d + 1) = k + 1 + r d
      omega
/-- what the numbers before the division are -/
theorem bar_off {A : Mx} {k M : Nat} {R : Mx} {last : Int} (h : Bar A k (M + 1) R last) (hp : R 0 0 ≠ 0) {m : Nat} {r c : Nat → Nat} (hb : ∀ i, i < m + 1 → r i < M ∧ c i < M) :
    det (m + 1) (fun i j => offN R (r i) (c j)) = R 0 0 ^ m * (last ^ (m + 1) * det (k + 1 + m + 1) (fun i j => A (ex (k + 1) r i) (ex (k + 1) c j))) := by
  have e1 := det_off (m := m + 1) (R := fun i j => R (bef r i) (bef c j))
  have e2 := h.2 (m + 1) (bef r) (bef c) fun i hi => by
    cases i with
    | zero => exact ⟨Nat.succ_pos _, Nat.succ_pos _⟩
    | succ i => have := hb i (by omega); exact ⟨Nat.succ_lt_succ this.1, Nat.succ_lt_succ this.2⟩
  have e3 : det (m + 1) (offN fun i j => R (bef r i) (bef c j)) = det (m + 1) (fun i j => offN R (r i) (c j)) := rfl
  have e4 : det (k + (m + 1) + 1) (fun i j => A (ex k (bef r) i) (ex k (bef c) j)) = det (k + 1 + m + 1) (fun i j => A (ex (k + 1) r i) (ex (k + 1) c j)) := by
    rw [show k + (m + 1) + 1 = k + 1 + m + 1 by omega]
    exact det_congr fun i j _ _ => by rw [ex_bef, ex_bef]
  rw [e3] at e1
  rw [e4] at e2
  have e5 : R (bef r 0) (bef c 0) = R 0 0 := rfl
  rw [e5, e2] at e1
  generalize det (m + 1) (fun i j => offN R (r i) (c j)) = x at *
  generalize det (k + 1 + m + 1) (fun i j => A (ex (k + 1) r i) (ex (k + 1) c j)) = y at *
  rw [Int.pow_succ] at e1
  refine Int.eq_of_mul_eq_mul_left hp ?_
  rw [e1, Int.mul_comm y, Int.mul_comm (R 0 0 ^ m), Int.mul_assoc]
theorem det_one (A : Mx) : det 1 A = A 0 0 := by
  show 0 + sg 0 * A 0 0 * 1 = A 0 0
  rw [show sg 0 = 1 from rfl]
  omega
/-- each number before the division is a minor, last times -/
theorem bar_num {A : Mx} {k M : Nat} {R : Mx} {last : Int} (h : Bar A k (M + 1) R last) (hp : R 0 0 ≠ 0) {i j : Nat} (hi : i < M) (hj : j < M) :
    offN R i j = last * det (k + 2) (fun a b => A (ex (k + 1) (fun _ => i) a) (ex (k + 1) (fun _ => j) b)) := by
  have := bar_off h hp (m := 0) (r := fun _ => i) (c := fun _ => j) fun _ _ => ⟨hi, hj⟩
  rw [det_one, Int.pow_zero, Int.one_mul, Int.pow_succ, Int.pow_zero, Int.one_mul] at this
  exact this
theorem bar_step {A : Mx} {k M : Nat} {R R' : Mx} {last : Int} (h : Bar A k (M + 1) R last) (hp : R 0 0 ≠ 0) (hR : ∀ i j, i < M → j < M → R' i j = (offN R i j).fdiv last) : Bar A (k + 1) M R' (R 0 0) := by
  refine ⟨hp, fun m r c hb => ?_⟩
  have ex1 : ∀ i j, i < M → j < M → offN R i j = last * R' i j := fun i j hi hj => by
    rw [hR i j hi hj, bar_num h hp hi hj, Int.mul_fdiv_cancel_left _ h.1]
  have e1 := bar_off h hp hb
  have e2 : det (m + 1) (fun i j => offN R (r i) (c j)) = last ^ (m + 1) * det (m + 1) (fun i j => R' (r i) (c j)) := by
    rw [← det_scale]
    exact det_congr fun i j hi hj => ex1 _ _ (hb i hi).1 (hb j hj).2
  rw [e2] at e1
  refine Int.eq_of_mul_eq_mul_left (pow_ne h.1 (m + 1)) ?_
  rw [e1]
  generalize det (k + 1 + m + 1) (fun i j => A (ex (k + 1) r i) (ex (k + 1) c j)) = y
  rw [Int.mul_left_comm, Int.mul_comm y]
/-- a row moved up -/
theorem bar_rot {A : Mx} {k M t : Nat} {R : Mx} {last : Int} (h : Bar A k M R last) (ht : t < M) : Bar (fun i => A (rotN k t i)) k M (fun i => R (rotN 0 t i)) last := by
  refine ⟨h.1, fun m r c hb => ?_⟩
  have e := h.2 m (fun i => rotN 0 t (r i)) c fun i hi => ⟨by
    have := (hb i hi).1
    unfold rotN
    rw [if_neg (by omega)]
    split
    · omega
    · split <;> omega, (hb i hi).2⟩
  rw [e]
  refine congrArg (· * last ^ m) (det_congr fun i j _ _ => ?_)
  refine congrArg (fun a => A a (ex k c j)) ?_
  unfold ex
  by_cases hi : i < k
  · rw [if_pos hi, if_pos hi]
    unfold rotN
    rw [if_pos hi]
  · rw [if_neg hi, if_neg hi]
    show k + rotN 0 t (r (i - k)) = rotN k t (k + r (i - k))
    generalize r (i - k) = a
    have r1 : rotN 0 t a = if a < 0 then a else if a = 0 then 0 + t else if a ≤ 0 + t then a - 1 else a := rfl
    have r2 : rotN k t (k + a) = if k + a < k then k + a else if k + a = k then k + t else if k + a ≤ k + t then k + a - 1 else k + a := rfl
    rw [if_neg (by omega)] at r1 r2
    by_cases h1 : a = 0
    · rw [if_pos h1] at r1
      rw [if_pos (by omega)] at r2
      rw [r1, r2]
      omega
    · rw [if_neg h1] at r1
      rw [if_neg (by omega)] at r2
      by_cases h2 : a ≤ t
      · rw [if_pos (by omega)] at r1
        rw [if_pos (by omega)] at r2
        rw [r1, r2]
        omega
      · rw [if_neg (by omega)] at r1
        rw [if_neg (by omega)] at r2
        rw [r1, r2]
theorem ex_id (k i : Nat) : ex k (fun i => i) i = i := by
  unfold ex
  by_cases h : i < k
  · rw [if_pos h]
  · rw [if_neg h]
    show k + (i - k) = i
    omega
theorem bar_none {A : Mx} {k M : Nat} {R : Mx} {last : Int} (h : Bar A k (M + 1) R last) (h0 : ∀ i, i < M + 1 → R i 0 = 0) : det (k + M + 1) A = 0 := by
  have e := h.2 M (fun i => i) (fun i => i) fun i hi => ⟨hi, hi⟩
  rw [det_col0 (A := fun i j => R i j) h0] at e
  have e2 : det (k + M + 1) (fun i j => A (ex k (fun i => i) i) (ex k (fun i => i) j)) = det (k + M + 1) A := det_congr fun i j _ _ => by rw [ex_id, ex_id]
  rw [e2] at e
  rcases Int.mul_eq_zero.mp e.symm with z | z
  · exact z
  · exact absurd z (pow_ne h.1 M)
theorem bar_end {A : Mx} {k : Nat} {R : Mx} {last : Int} (h : Bar A k 1 R last) : R 0 0 = det (k + 1) A := by
  have e := h.2 0 (fun i => i) (fun i => i) fun i hi => ⟨by omega, by omega⟩
  rw [det_one, Int.pow_zero, Int.mul_one] at e
  have e2 : det (k + 0 + 1) (fun i j => A (ex k (fun i => i) i) (ex k (fun i => i) j)) = det (k + 1) A := det_congr fun i j _ _ => by rw [ex_id, ex_id]
  rw [e2] at e
  exact e
end My

/-! ## products and quotients of great numbers -/
namespace L2
open PySem PySem.Spec PyProof.Rows
def CMulL (i j : Int) : Prop := i.natAbs < 2 ^ 9000 ∧ j.natAbs < 2 ^ 9000
def CDivL (i j : Int) : Prop := j ≠ 0 ∧ j.natAbs < 2 ^ 9000
theorem bits_long {a : Int} (h : a.natAbs < 2 ^ 9000) : Builtin.Int.intBits a ≤ 9000 := PySem.intBits_le_iff.mpr h
section
variable {X : Cx}
theorem op_mulL : OpR X (binaryOp .Mult) (rI CMulL fun i j => .int (i * j)) := opI fun _ _ _ _ _ _ _ hc q => mul_int q (.of_bits (Nat.le_trans (bits_long hc.1) (by decide)) (Nat.le_trans (bits_long hc.2) (by decide)))
theorem op_fdivL : OpR X (binaryOp .FloorDiv) (rI CDivL fun i j => .int (i.fdiv j)) := opI fun _ _ _ _ _ _ _ hc q => floordiv_int hc.1 q (.inl (PyProof.noPylong_of_log2 ((Nat.log2_lt (by have := hc.1; omega)).mpr hc.2)))
end
end L2

/-! ## tables as rows of rows -/
namespace My
def fnL (L : List (List Int)) : Mx := fun i j => (L.getD i []).getD j 0
theorem fnL_at {L : List (List Int)} {l : List Int} {i j : Nat} {x : Int} (h : L[i]? = some l) (h2 : l[j]? = some x) : fnL L i j = x := by
  have e : L.getD i [] = l := by rw [List.getD_eq_getElem?_getD, h]; rfl
  unfold fnL
  rw [e, List.getD_eq_getElem?_getD, h2]
  rfl
/-- how great a determinant can be -/
def bnd (B : Nat) : Nat → Nat
  | 0 => 1
  | n + 1 => (n + 1) * (B * bnd B n)
theorem sm_abs {f : Nat → Int} {C : Nat} : ∀ {n : Nat}, (∀ i, i < n → (f i).natAbs ≤ C) → (sm n f).natAbs ≤ n * C
  | 0, _ => by show (0 : Int).natAbs ≤ 0 * C; rw [Nat.zero_mul]; exact Nat.le_refl 0
  | n + 1, h => by
    have h1 := sm_abs (n := n) fun i hi => h i (by omega)
    have h2 := h n (by omega)
    have h3 : (sm n f + f n).natAbs ≤ (sm n f).natAbs + (f n).natAbs := Int.natAbs_add_le ..
    show (sm n f + f n).natAbs ≤ (n + 1) * C
    rw [Nat.succ_mul]
    omega
theorem det_abs {B : Nat} : ∀ {n : Nat} {A : Mx}, (∀ i j, i < n → j < n → (A i j).natAbs ≤ B) → (det n A).natAbs ≤ bnd B n
  | 0, _, _ => Nat.le_refl 1
  | n + 1, A, h => by
    refine sm_abs fun j hj => ?_
    have e : (sg j).natAbs = 1 := by
      unfold sg
      split <;> rfl
    rw [Int.natAbs_mul, Int.natAbs_mul, e, Nat.one_mul]
    exact Nat.mul_le_mul (h 0 j (by omega) hj) (det_abs fun i k hi hk => h (i + 1) (sk j k) (by omega) (sk_lt hk))
theorem bnd_le {b : Nat} : ∀ {n : Nat}, n ≤ 16 → bnd (2 ^ b) n ≤ 2 ^ ((b + 4) * n)
  | 0, _ => by show 1 ≤ 2 ^ ((b + 4) * 0); rw [Nat.mul_zero]; exact Nat.le_refl 1
  | n + 1, h => by
    have ih := bnd_le (b := b) (n := n) (by omega)
    have e : 2 ^ ((b + 4) * (n + 1)) = 16 * (2 ^ b * 2 ^ ((b + 4) * n)) := by
      rw [Nat.mul_succ, Nat.pow_add, Nat.pow_add, Nat.mul_comm (2 ^ ((b + 4) * n)), Nat.mul_comm (2 ^ b) (2 ^ 4), Nat.mul_assoc]
    rw [e]
    show (n + 1) * (2 ^ b * bnd (2 ^ b) n) ≤ _
    exact Nat.mul_le_mul h (Nat.mul_le_mul (Nat.le_refl _) ih)
theorem det_small {n : Nat} {A : Mx} (hn : n ≤ 16) (h : ∀ i j, i < n → j < n → (A i j).natAbs ≤ 2 ^ 400) : (det n A).natAbs < 2 ^ 9000 := by
  have h1 := det_abs h
  have h2 := bnd_le (b := 400) hn
  have h3 : 2 ^ ((400 + 4) * n) ≤ 2 ^ (404 * 16) := Nat.pow_le_pow_right (by decide) (Nat.mul_le_mul (Nat.le_refl _) hn)
  have h4 : 2 ^ (404 * 16) < 2 ^ 9000 := Nat.pow_lt_pow_right (by decide) (by decide)
  exact Nat.lt_of_le_of_lt (Nat.le_trans h1 (Nat.le_trans h2 h3)) h4
theorem bar_at {A : Mx} {k M : Nat} {R : Mx} {last : Int} (h : Bar A k M R last) {i j : Nat} (hi : i < M) (hj : j < M) : R i j = det (k + 1) (fun a b => A (ex k (fun _ => i) a) (ex k (fun _ => j) b)) := by
  have := h.2 0 (fun _ => i) (fun _ => j) fun _ _ => ⟨hi, hj⟩
  rw [det_one, Int.pow_zero, Int.mul_one] at this
  exact this
theorem bar_small {A : Mx} {k M n : Nat} {R : Mx} {last : Int} (h : Bar A k M R last) (hn : k + M = n) (hn16 : n ≤ 16) (hA : ∀ i j, i < n → j < n → (A i j).natAbs ≤ 2 ^ 400) {i j : Nat} (hi : i < M) (hj : j < M) : (R i j).natAbs < 2 ^ 9000 := by
  rw [bar_at h hi hj]
  refine det_small (by omega) fun a b ha hb => hA _ _ ?_ ?_
  · have e : ex k (fun _ => i) a = if a < k then a else k + i := rfl
    rw [e]
    split <;> omega
  · have e : ex k (fun _ => j) b = if b < k then b else k + j := rfl
    rw [e]
    split <;> omega
theorem rot_get {L : List (List Int)} {l : List Int} {t : Nat} (h : L[t]? = some l) (i : Nat) : (l :: L.eraseIdx t)[i]? = L[rotN 0 t i]? := by
  have ht := (List.getElem?_eq_some_iff.mp h).1
  have r : rotN 0 t i = if i < 0 then i else if i = 0 then 0 + t else if i ≤ 0 + t then i - 1 else i := rfl
  rw [if_neg (by omega)] at r
  cases i with
  | zero =>
    rw [if_pos rfl, Nat.zero_add] at r
    rw [r, h]
    rfl
  | succ i =>
    rw [if_neg (by omega), Nat.zero_add] at r
    rw [r, List.getElem?_cons_succ, List.getElem?_eraseIdx]
    by_cases c : i + 1 ≤ t
    · rw [if_pos c, if_pos (by omega)]
      rfl
    · rw [if_neg c, if_neg (by omega)]
theorem rot_fnL {L : List (List Int)} {l : List Int} {t : Nat} (h : L[t]? = some l) : fnL (l :: L.eraseIdx t) = fun i => fnL L (rotN 0 t i) := by
  funext i j
  show ((l :: L.eraseIdx t).getD i []).getD j 0 = (L.getD (rotN 0 t i) []).getD j 0
  refine congrArg (fun r : List Int => r.getD j 0) ?_
  rw [List.getD_eq_getElem?_getD, List.getD_eq_getElem?_getD, rot_get h]
/-- a row once the pivot is taken off -/
def tkn (y : Int) (p : List Int) (last : Int) (l : List Int) : List Int := List.zipWith (fun own other => (y * own - l.headD 0 * other).fdiv last) l.tail p
theorem tkn_len {y last : Int} {p l : List Int} (h : l.length = p.length + 1) : (tkn y p last l).length = p.length := by
  unfold tkn
  rw [List.length_zipWith, List.length_tail]
  omega
theorem tkn_fnL {y last : Int} {p : List Int} {L : List (List Int)} {M : Nat} (hp : p.length = M) (hL : L.length = M) (hl : ∀ l ∈ L, l.length = M + 1) {i j : Nat} (hi : i < M) (hj : j < M) :
    fnL (L.map (tkn y p last)) i j = (offN (fnL ((y :: p) :: L)) i j).fdiv last := by
  obtain ⟨l, hli⟩ : ∃ l, L[i]? = some l := ⟨_, List.getElem?_eq_getElem (by omega)⟩
  have hll := hl l (List.mem_of_getElem? hli)
  obtain ⟨x, l', rfl⟩ : ∃ x l', l = x :: l' := by
    cases l with
    | nil => cases hll
    | cons x l' => exact ⟨x, l', rfl⟩
  have hl' : l'.length = M := by rw [List.length_cons] at hll; omega
  obtain ⟨u, hu⟩ : ∃ u, l'[j]? = some u := ⟨_, List.getElem?_eq_getElem (by omega)⟩
  obtain ⟨v, hv⟩ : ∃ v, p[j]? = some v := ⟨_, List.getElem?_eq_getElem (by omega)⟩
  have e1 : fnL (L.map (tkn y p last)) i j = (y * u - x * v).fdiv last := fnL_at (l := tkn y p last (x :: l')) (by rw [List.getElem?_map, hli]; rfl) (by
    show (List.zipWith _ l' p)[j]? = _
    rw [List.getElem?_zipWith, hu, hv]
    rfl)
  have e2 : fnL ((y :: p) :: L) 0 0 = y := rfl
  have e3 : fnL ((y :: p) :: L) (i + 1) (j + 1) = u := fnL_at (l := x :: l') hli hu
  have e4 : fnL ((y :: p) :: L) (i + 1) 0 = x := fnL_at (l := x :: l') hli rfl
  have e5 : fnL ((y :: p) :: L) 0 (j + 1) = v := fnL_at (l := y :: p) rfl hv
  rw [e1]
  unfold offN
  rw [e2, e3, e4, e5]
end My

/-! ## tables as they lie -/
namespace My
open PySem L2
def RowV (K : PySem.W.Frag) (H : Hp) (v : V) (l : List Int) : Prop := ∃ (r : Addr) (k : Bool), v = .ref r ∧ SqK k K H r (IL l)
/-- a list that is not the one at d -/
def LiV (d : Addr) (H : Hp) (v : V) (l : List Int) : Prop := ∃ r, v = .ref r ∧ H r = some (.lst (IL l)) ∧ r ≠ d
theorem LiV.same {d : Addr} {H H' : Hp} {v : V} {l : List Int} (s : Same H H') (h : LiV d H v l) : LiV d H' v l := by
  obtain ⟨r, e, h, n⟩ := h
  exact ⟨r, e, s _ _ h, n⟩
theorem LiV.mut {d : Addr} {H : Hp} {v : V} {l : List Int} {o : HO} (h : LiV d H v l) : LiV d (upd H d o) v l := by
  obtain ⟨r, e, h, n⟩ := h
  exact ⟨r, e, by rw [upd_ne n]; exact h, n⟩
theorem LiV.list {d : Addr} {H : Hp} {v : V} {l : List Int} (h : LiV d H v l) : ListV H v l := by
  obtain ⟨r, e, h, _⟩ := h
  exact ⟨r, e, h⟩
theorem Bears.erase {α : Type} [DecidableEq α] {R : V → α → Prop} {xs : List V} {l : List α} (h : Bears R xs l) (t : Nat) : Bears R (xs.eraseIdx t) (l.eraseIdx t) := by
  have hl := h.1
  refine ⟨by rw [List.length_eraseIdx, List.length_eraseIdx, hl], fun i a e => ?_⟩
  rw [List.getElem?_eraseIdx] at e
  rw [List.getElem?_eraseIdx]
  split at e
  · next c => rw [if_pos c]; exact h.2 _ _ e
  · next c => rw [if_neg c]; exact h.2 _ _ e
theorem cut_tail (x : Int) (l : List Int) : cutV (IL (x :: l)) (some 1) none = IL l := by
  rw [cut_from2 (by decide)]
  rfl
theorem sg_sq (t : Nat) : sg t * sg t = 1 := by
  unfold sg
  split <;> rfl
end My

/-! ## determinants: columns, turned tables, any two rows -/
namespace My
theorem sm_reord {f : Nat → Nat → Int} {n m : Nat} : sm n (fun i => sm m (fun j => f i j)) = sm m (fun j => sm n (fun i => f i j)) := sm_swap
/-- by the first column -/
theorem det_col : ∀ {n : Nat} {A : Mx}, det (n + 1) A = sm (n + 1) fun i => sg i * A i 0 * det n (fun r c => A (sk i r) (c + 1))
  | 0, A => rfl
  | n + 1, A => by
    have e1 : det (n + 2) A = sg 0 * A 0 0 * det (n + 1) (mn A 0) + sm (n + 1) fun j => sg (j + 1) * A 0 (j + 1) * det (n + 1) (mn A (j + 1)) := sm_first
    have e2 : sm (n + 2) (fun i => sg i * A i 0 * det (n + 1) (fun r c => A (sk i r) (c + 1))) = sg 0 * A 0 0 * det (n + 1) (fun r c => A (sk 0 r) (c + 1)) + sm (n + 1) fun i => sg (i + 1) * A (i + 1) 0 * det (n + 1) (fun r c => A (sk (i + 1) r) (c + 1)) := sm_first
    rw [e1, e2]
    have e3 : det (n + 1) (mn A 0) = det (n + 1) (fun r c => A (sk 0 r) (c + 1)) := det_congr fun r c _ _ => rfl
    rw [e3]
    refine congrArg (fun z : Int => sg 0 * A 0 0 * det (n + 1) (fun r c => A (sk 0 r) (c + 1)) + z) ?_
    -- what stays without two rows and two columns
    obtain ⟨D, hD⟩ : ∃ D : Nat → Nat → Int, D = fun i j => det n (fun r c => A (sk i r + 1) (sk (j + 1) (c + 1))) := ⟨_, rfl⟩
    have e4 : ∀ j, j < n + 1 → det (n + 1) (mn A (j + 1)) = sm (n + 1) fun i => sg i * A (i + 1) 0 * D i j := fun j _ => by
      rw [det_col, hD]
      rfl
    have e5 : ∀ i, i < n + 1 → det (n + 1) (fun r c => A (sk (i + 1) r) (c + 1)) = sm (n + 1) fun j => sg j * A 0 (j + 1) * D i j := fun i hi => by
      show sm (n + 1) (fun j => sg j * A (sk (i + 1) 0) (j + 1) * det n (mn (fun r c => A (sk (i + 1) r) (c + 1)) j)) = _
      refine sm_congr fun j _ => ?_
      rw [hD]
      show sg j * A (sk (i + 1) 0) (j + 1) * det n (mn (fun r c => A (sk (i + 1) r) (c + 1)) j) = sg j * A 0 (j + 1) * det n (fun r c => A (sk i r + 1) (sk (j + 1) (c + 1)))
      rw [show sk (i + 1) 0 = 0 from rfl]
      refine congrArg (sg j * A 0 (j + 1) * ·) (det_congr fun r c _ _ => ?_)
      show A (sk (i + 1) (r + 1)) (sk j c + 1) = A (sk i r + 1) (sk (j + 1) (c + 1))
      have f1 : sk (i + 1) (r + 1) = sk i r + 1 := by
        unfold sk
        by_cases h : r < i
        · rw [if_pos h, if_pos (by omega)]
        · rw [if_neg h, if_neg (by omega)]
      have f2 : sk j c + 1 = sk (j + 1) (c + 1) := by
        unfold sk
        by_cases h : c < j
        · rw [if_pos h, if_pos (by omega)]
        · rw [if_neg h, if_neg (by omega)]
      rw [f1, f2]
    have e6 : sm (n + 1) (fun j => sg (j + 1) * A 0 (j + 1) * det (n + 1) (mn A (j + 1))) = sm (n + 1) fun j => sm (n + 1) fun i => sg (j + 1) * A 0 (j + 1) * (sg i * A (i + 1) 0 * D i j) := sm_congr fun j hj => by rw [e4 j hj, sm_mul]
    have e7 : sm (n + 1) (fun i => sg (i + 1) * A (i + 1) 0 * det (n + 1) (fun r c => A (sk (i + 1) r) (c + 1))) = sm (n + 1) fun i => sm (n + 1) fun j => sg (i + 1) * A (i + 1) 0 * (sg j * A 0 (j + 1) * D i j) := sm_congr fun i hi => by rw [e5 i hi, sm_mul]
    rw [e6, e7, sm_reord]
    refine sm_congr fun i _ => sm_congr fun j _ => ?_
    rw [sg_succ, sg_succ]
    generalize D i j = d
    generalize A 0 (j + 1) = x
    generalize A (i + 1) 0 = y
    generalize sg i = s
    generalize sg j = u
    simp only [Int.neg_mul, Int.neg_inj]
    simp only [Int.mul_comm, Int.mul_left_comm, Int.mul_assoc]
/-- rows and columns exchanged -/
theorem det_T : ∀ {n : Nat} {A : Mx}, det n (fun i j => A j i) = det n A
  | 0, _ => rfl
  | n + 1, A => by
    rw [det_col (A := A)]
    refine sm_congr fun j _ => ?_
    show sg j * A j 0 * det n (fun i k => A (sk j k) (i + 1)) = sg j * A j 0 * det n (fun r c => A (sk j r) (c + 1))
    rw [← det_T (A := fun r c => A (sk j r) (c + 1))]
/-- the product of the first n -/
def pr : Nat → (Nat → Int) → Int
  | 0, _ => 1
  | n + 1, f => pr n f * f n
theorem det_two {n a b : Nat} {A : Mx} (ha : a < n) (hb : b < n) (hne : a ≠ b) (h : ∀ j, j < n → A a j = A b j) : det n A = 0 := by
  rcases Nat.lt_or_gt_of_ne hne with c | c
  · obtain ⟨d, rfl⟩ : ∃ d, b = a + d + 1 := ⟨b - a - 1, by omega⟩
    exact det_alike hb h
  · obtain ⟨d, rfl⟩ : ∃ d, a = b + d + 1 := ⟨a - b - 1, by omega⟩
    exact det_alike ha fun j hj => (h j hj).symm
/-- a row put in -/
def putr (A : Mx) (i : Nat) (x : Nat → Int) : Mx := fun r => if r = i then x else A r
theorem det_putr {n i : Nat} {A : Mx} {c : Int} {x y : Nat → Int} (hi : i < n) : det n (putr A i (fun j => c * x j + y j)) = c * det n (putr A i x) + det n (putr A i y) :=
  det_lin hi (fun r j _ _ hne => by unfold putr; rw [if_neg hne, if_neg hne, if_neg hne]; exact ⟨rfl, rfl⟩) (fun j _ => by unfold putr; rw [if_pos rfl, if_pos rfl, if_pos rfl])
theorem putr_own {A : Mx} {i : Nat} : putr A i (A i) = A := by
  funext r
  unfold putr
  by_cases h : r = i
  · rw [if_pos h, h]
  · rw [if_neg h]
theorem det_addr {n a b : Nat} {A : Mx} {c : Int} (ha : a < n) (hb : b < n) (hne : a ≠ b) : det n (putr A a (fun j => A a j + c * A b j)) = det n A := by
  have e : (fun j => A a j + c * A b j) = fun j => c * A b j + A a j := by funext j; omega
  rw [e, det_putr ha, putr_own, det_two ha hb hne (A := putr A a (A b)) fun j _ => ?_, Int.mul_zero, Int.zero_add]
  unfold putr
  rw [if_pos rfl, if_neg (Ne.symm hne)]
end My

/-! ## the tables of webs: a tie more -/
namespace My
theorem rot_sk (a i : Nat) : rotN 0 a (i + 1) = sk a i := by
  have r : rotN 0 a (i + 1) = if i + 1 < 0 then i + 1 else if i + 1 = 0 then 0 + a else if i + 1 ≤ 0 + a then i + 1 - 1 else i + 1 := rfl
  rw [if_neg (by omega), if_neg (by omega)] at r
  rw [r]
  unfold sk
  by_cases h : i < a
  · rw [if_pos h, if_pos (by omega)]
    omega
  · rw [if_neg h, if_neg (by omega)]
theorem sm_only {f : Nat → Int} {a : Nat} : ∀ {n : Nat}, a < n → (∀ j, j < n → j ≠ a → f j = 0) → sm n f = f a
  | 0, h, _ => absurd h (Nat.not_lt_zero _)
  | n + 1, h, h0 => by
    show sm n f + f n = f a
    by_cases c : a = n
    · rw [sm_none fun i hi => h0 i (by omega) (by omega), c, Int.zero_add]
    · rw [sm_only (n := n) (by omega) fun j hj hne => h0 j (by omega) hne, h0 n (by omega) (by omega), Int.add_zero]
/-- a row with one 1 alone, in its own column -/
theorem det_unit {n a : Nat} {A : Mx} (ha : a < n + 1) : det (n + 1) (putr A a (fun j => if j = a then 1 else 0)) = det n (fun i j => A (sk a i) (sk a j)) := by
  have e := det_rot (n := n + 1) (k := 0) (t := a) (A := putr A a (fun j => if j = a then 1 else 0)) (by omega)
  have r0 : rotN 0 a 0 = a := by
    show (if 0 < 0 then 0 else if 0 = 0 then 0 + a else _) = a
    rw [if_neg (by omega), if_pos rfl, Nat.zero_add]
  have top : det (n + 1) (fun i => putr A a (fun j => if j = a then 1 else 0) (rotN 0 a i)) = sg a * det n (fun i j => A (sk a i) (sk a j)) := by
    show sm (n + 1) (fun j => sg j * putr A a (fun j => if j = a then 1 else 0) (rotN 0 a 0) j * det n (mn (fun i => putr A a (fun j => if j = a then 1 else 0) (rotN 0 a i)) j)) = _
    rw [sm_only ha fun j _ hne => ?_]
    · rw [r0]
      have e1 : putr A a (fun j => if j = a then 1 else 0) a a = 1 := by unfold putr; rw [if_pos rfl, if_pos rfl]
      rw [e1, Int.mul_one]
      refine congrArg (sg a * ·) (det_congr fun i j _ _ => ?_)
      show putr A a (fun j => if j = a then 1 else 0) (rotN 0 a (i + 1)) (sk a j) = A (sk a i) (sk a j)
      rw [rot_sk]
      unfold putr
      rw [if_neg (by unfold sk; split <;> omega)]
    · rw [r0]
      have e1 : putr A a (fun j => if j = a then 1 else 0) a j = 0 := by unfold putr; rw [if_pos rfl, if_neg hne]
      rw [e1, Int.mul_zero, Int.zero_mul]
  rw [top] at e
  have h := congrArg (sg a * ·) e
  simp only [← Int.mul_assoc] at h
  rw [show sg a * sg a = 1 by unfold sg; split <;> rfl, Int.one_mul, Int.one_mul] at h
  exact h.symm
/-- w more in one place of the diagonal -/
theorem det_diag {n a : Nat} {A : Mx} {w : Int} (ha : a < n + 1) : det (n + 1) (fun i j => A i j + w * ((if i = a then 1 else 0) * (if j = a then 1 else 0))) = det (n + 1) A + w * det n (fun i j => A (sk a i) (sk a j)) := by
  have e : det (n + 1) (fun i j => A i j + w * ((if i = a then 1 else 0) * (if j = a then 1 else 0))) = det (n + 1) (putr A a (fun j => w * (fun j => if j = a then 1 else 0) j + A a j)) := det_congr fun i j _ _ => by
    unfold putr
    by_cases h : i = a
    · subst h
      rw [if_pos rfl, if_pos rfl, Int.one_mul]
      show A i j + w * (if j = i then 1 else 0) = w * (if j = i then 1 else 0) + A i j
      exact Int.add_comm ..
    · rw [if_neg h, if_neg h, Int.zero_mul, Int.mul_zero, Int.add_zero]
  rw [e, det_putr ha, putr_own, det_unit ha]
  omega
/-- where a tie begins and where it ends -/
def ind (u v i : Nat) : Int := (if i = u then 1 else 0) - (if i = v then 1 else 0)
/-- row b with row a, column b with column a -/
def fold2 (A : Mx) (a b : Nat) : Mx := fun i j => (A i j + (if i = b then A a j else 0)) + (if j = b then A i a + (if i = b then A a a else 0) else 0)
theorem det_fold2 {n a b : Nat} {A : Mx} (ha : a < n) (hb : b < n) (hne : a ≠ b) : det n (fold2 A a b) = det n A := by
  have e1 : det n A = det n (putr A b (fun j => A b j + 1 * A a j)) := (det_addr hb ha (Ne.symm hne)).symm
  obtain ⟨R, hR⟩ : ∃ R : Mx, R = putr A b (fun j => A b j + 1 * A a j) := ⟨_, rfl⟩
  have e2 : det n R = det n (putr (fun i j => R j i) b (fun j => (fun i j => R j i) b j + 1 * (fun i j => R j i) a j)) := by
    rw [det_addr (A := fun i j => R j i) hb ha (Ne.symm hne)]
    exact det_T.symm
  rw [e1, ← hR, e2, ← det_T (A := putr (fun i j => R j i) b (fun j => (fun i j => R j i) b j + 1 * (fun i j => R j i) a j))]
  refine det_congr fun i j _ _ => ?_
  have rv : ∀ r c, R r c = A r c + (if r = b then A a c else 0) := fun r c => by
    rw [hR]
    unfold putr
    by_cases h : r = b
    · rw [if_pos h, if_pos h, h]; omega
    · rw [if_neg h, if_neg h]; omega
  unfold fold2
  show _ = (putr (fun i j => R j i) b (fun j => R j b + 1 * R j a)) j i
  unfold putr
  by_cases h : j = b
  · rw [if_pos h, if_pos h, rv, rv, h]
    by_cases h2 : i = b
    · rw [if_pos h2, if_pos h2]; omega
    · rw [if_neg h2, if_neg h2]; omega
  · rw [if_neg h, if_neg h]
    show _ = R i j
    rw [rv]
    omega
/-- a tie between two of the places that stay -/
theorem det_tie {n a b : Nat} {A : Mx} {w : Int} (ha : a < n + 1) (hb : b < n + 1) (hne : a ≠ b) : det (n + 1) (fun i j => A i j + w * (ind a b i * ind a b j)) = det (n + 1) A + w * det n (fun i j => fold2 A a b (sk a i) (sk a j)) := by
  have e1 := det_fold2 (A := fun i j => A i j + w * (ind a b i * ind a b j)) ha hb hne
  have e2 : det (n + 1) (fold2 (fun i j => A i j + w * (ind a b i * ind a b j)) a b) = det (n + 1) (fun i j => fold2 A a b i j + w * ((if i = a then 1 else 0) * (if j = a then 1 else 0))) := det_congr fun i j _ _ => by
    have na : ¬ a = b := hne
    have nb : ¬ b = a := Ne.symm hne
    unfold fold2 ind
    by_cases hi : i = b
    · subst hi
      by_cases hj : j = i
      · subst hj
        simp [na, nb]
        omega
      · by_cases hj2 : j = a
        · subst hj2
          simp [na, nb, hj]
          omega
        · simp [na, nb, hj, hj2]
    · by_cases hi2 : i = a
      · subst hi2
        by_cases hj : j = b
        · subst hj
          simp [na, nb]
          omega
        · by_cases hj2 : j = i
          · subst hj2
            simp [na, nb]
          · simp [na, nb, hj, hj2]
      · by_cases hj : j = b
        · subst hj
          simp [na, nb, hi, hi2]
        · by_cases hj2 : j = a
          · subst hj2
            simp [na, nb, hi, hi2]
          · simp [na, nb, hi, hi2, hj, hj2]
  rw [← e1, e2, det_diag ha, det_fold2 ha hb hne]
end My

/-! ## the tables of webs tell their trees -/
namespace My
open PySem L2
abbrev Ed := Nat × Nat × Int
/-- the table of some ties with weights -/
def lapE : List Ed → Mx
  | [] => fun _ _ => 0
  | e :: E => fun i j => e.2.2 * (ind e.1 e.2.1 i * ind e.1 e.2.1 j) + lapE E i j
theorem lapE_snoc (E : List Ed) (e : Ed) (i j : Nat) : lapE (E ++ [e]) i j = lapE E i j + e.2.2 * (ind e.1 e.2.1 i * ind e.1 e.2.1 j) := by
  induction E with
  | nil => show _ + 0 = 0 + _; omega
  | cons f E ih =>
    show _ + lapE (E ++ [e]) i j = _ + lapE E i j + _
    rw [ih]
    omega
def edE (E : List Ed) (z : Int) : Nat × Nat := ((E.getD z.toNat (0, 0, 0)).1, (E.getD z.toNat (0, 0, 0)).2.1)
def wtE (E : List Ed) : List Int → Int
  | [] => 1
  | z :: T => (E.getD z.toNat (0, 0, 0)).2.2 * wtE E T
theorem wtE_app (E : List Ed) (S T : List Int) : wtE E (S ++ T) = wtE E S * wtE E T := by
  induction S with
  | nil => show _ = 1 * _; rw [Int.one_mul]; rfl
  | cons z S ih => show _ * wtE E (S ++ T) = _ * _ * _; rw [ih, Int.mul_assoc]
/-- a tree over the places 0 to k -/
def IsT (k : Nat) (E : List Ed) (T : List Int) : Prop := IsSet E.length T ∧ T.length = k ∧ ∀ i j, i < k + 1 → j < k + 1 → Conn (T.map (edE E)) i j
def TW (k : Nat) (E : List Ed) (s : Int) : Prop := ∃ L : List (List Int), L.Nodup ∧ (∀ T, T ∈ L ↔ IsT k E T) ∧ (L.map (wtE E)).sum = s
theorem getD_up {E : List Ed} {e : Ed} {z : Int} (h0 : 0 ≤ z) (h1 : z < (E.length : Int)) : (E ++ [e]).getD z.toNat (0, 0, 0) = E.getD z.toNat (0, 0, 0) := by
  rw [List.getD_eq_getElem?_getD, List.getD_eq_getElem?_getD, List.getElem?_append_left (by omega)]
theorem getD_last (E : List Ed) (e : Ed) : (E ++ [e]).getD (E.length : Int).toNat (0, 0, 0) = e := by
  rw [List.getD_eq_getElem?_getD, Int.toNat_natCast, List.getElem?_append_right (Nat.le_refl _), Nat.sub_self]
  rfl
theorem map_up {E : List Ed} {e : Ed} {T : List Int} (h : IsSet E.length T) : T.map (edE (E ++ [e])) = T.map (edE E) := List.map_congr_left fun z hz => by
  have := h.all z hz
  unfold edE
  rw [getD_up this.1 this.2]
theorem wt_up {E : List Ed} {e : Ed} {T : List Int} (h : ∀ z ∈ T, 0 ≤ z ∧ z < (E.length : Int)) : wtE (E ++ [e]) T = wtE E T := by
  induction T with
  | nil => rfl
  | cons z T ih =>
    have hz := h z List.mem_cons_self
    show _ * wtE (E ++ [e]) T = _ * wtE E T
    rw [getD_up hz.1 hz.2, ih fun y hy => h y (List.mem_cons_of_mem _ hy)]
theorem isT_up {k : Nat} {E : List Ed} {e : Ed} {T : List Int} (h : IsSet E.length T) : IsT k (E ++ [e]) T ↔ IsT k E T := by
  have h2 : IsSet (E ++ [e]).length T := by rw [List.length_append]; exact h.up
  constructor
  · rintro ⟨_, a, b⟩
    exact ⟨h, a, by rw [map_up h] at b; exact b⟩
  · rintro ⟨_, a, b⟩
    exact ⟨h2, a, by rw [map_up h]; exact b⟩
theorem map_snoc {E : List Ed} {e : Ed} {T : List Int} (h : IsSet E.length T) : (T ++ [(E.length : Int)]).map (edE (E ++ [e])) = T.map (edE E) ++ [(e.1, e.2.1)] := by
  rw [List.map_append, map_up h]
  show _ ++ [edE (E ++ [e]) (E.length : Int)] = _
  unfold edE
  rw [getD_last]
/-- label a goes to b, and is left out -/
def sh (a x : Nat) : Nat := if x < a then x else x - 1
def dl (a b x : Nat) : Nat := if x = a then sh a b else sh a x
theorem sh_sk (a y : Nat) : sh a (sk a y) = y := by
  unfold sk
  by_cases h : y < a
  · rw [if_pos h]
    unfold sh
    rw [if_pos h]
  · rw [if_neg h]
    unfold sh
    rw [if_neg (by omega)]
    omega
theorem sk_ne (a y : Nat) : sk a y ≠ a := by
  unfold sk
  split <;> omega
theorem sk_sh {a x : Nat} (h : x ≠ a) : sk a (sh a x) = x := by
  unfold sh
  by_cases c : x < a
  · rw [if_pos c]
    unfold sk
    rw [if_pos c]
  · rw [if_neg c]
    unfold sk
    rw [if_neg (by omega)]
    omega
theorem dl_sk (a b y : Nat) : dl a b (sk a y) = y := by
  unfold dl
  rw [if_neg (sk_ne a y), sh_sk]
theorem sh_inj {a x y : Nat} (hx : x ≠ a) (hy : y ≠ a) (h : sh a x = sh a y) : x = y := by
  have := congrArg (sk a) h
  rw [sk_sh hx, sk_sh hy] at this
  exact this
theorem dl_eq {a b x y : Nat} (hne : b ≠ a) (h : dl a b x = dl a b y) : x = y ∨ (x = a ∧ y = b) ∨ (x = b ∧ y = a) := by
  unfold dl at h
  by_cases hx : x = a
  · rw [if_pos hx] at h
    by_cases hy : y = a
    · exact .inl (hx.trans hy.symm)
    · rw [if_neg hy] at h
      exact .inr (.inl ⟨hx, (sh_inj hne hy h).symm⟩)
  · rw [if_neg hx] at h
    by_cases hy : y = a
    · rw [if_pos hy] at h
      exact .inr (.inr ⟨sh_inj hx hne h, hy⟩)
    · rw [if_neg hy] at h
      exact .inl (sh_inj hx hy h)
theorem dl_ab (a b : Nat) (hne : b ≠ a) : dl a b a = dl a b b := by
  unfold dl
  rw [if_pos rfl, if_neg hne]
theorem cdl_down {a b : Nat} {es : List (Nat × Nat)} {i j : Nat} (hne : b ≠ a) (c : Conn (es ++ [(a, b)]) i j) : Conn (es.map fun e => (dl a b e.1, dl a b e.2)) (dl a b i) (dl a b j) := by
  induction c with
  | refl i => exact .refl _
  | edge q =>
    rcases List.mem_append.mp q with q | q
    · exact .edge (List.mem_map.mpr ⟨_, q, rfl⟩)
    · have e := List.mem_singleton.mp q
      injection e with e1 e2
      rw [e1, e2, dl_ab a b hne]
      exact .refl _
  | symm _ ih => exact .symm ih
  | trans _ _ a b => exact .trans a b
theorem cdl_lift {a b : Nat} {es : List (Nat × Nat)} {u v : Nat} (hne : b ≠ a) (c : Conn (es.map fun e => (dl a b e.1, dl a b e.2)) u v) : ∀ i j, dl a b i = u → dl a b j = v → Conn (es ++ [(a, b)]) i j := by
  have he : Conn (es ++ [(a, b)]) a b := .edge (by simp)
  have same : ∀ i j, dl a b i = dl a b j → Conn (es ++ [(a, b)]) i j := fun i j e => by
    rcases dl_eq hne e with e | ⟨e1, e2⟩ | ⟨e1, e2⟩
    · rw [e]; exact .refl _
    · rw [e1, e2]; exact he
    · rw [e1, e2]; exact he.symm
  induction c with
  | refl u => exact fun i j e1 e2 => same i j (e1.trans e2.symm)
  | edge q =>
    intro i j e1 e2
    obtain ⟨⟨x, y⟩, hxy, e⟩ := List.mem_map.mp q
    injection e with x1 x2
    exact (same i x (e1.trans x1.symm)).trans (.trans (.edge (List.mem_append_left _ hxy)) (same y j (x2.trans e2.symm)))
  | symm _ ih => exact fun i j e1 e2 => (ih j i e2 e1).symm
  | @trans x y z _ _ ih1 ih2 => exact fun i j e1 e2 => (ih1 i (sk a y) e1 (dl_sk a b y)).trans (ih2 (sk a y) j (dl_sk a b y) e2)
theorem dl_lt {a b x k : Nat} (ha : a < k + 1) (hb : b < k + 2) (hne : b ≠ a) (hx : x < k + 2) : dl a b x < k + 1 := by
  unfold dl sh
  by_cases h : x = a
  · rw [if_pos h]
    split <;> omega
  · rw [if_neg h]
    split <;> omega
theorem cdl {a b k : Nat} {es : List (Nat × Nat)} (ha : a < k + 1) (hb : b < k + 2) (hne : b ≠ a) : (∀ i j, i < k + 2 → j < k + 2 → Conn (es ++ [(a, b)]) i j) ↔ ∀ i j, i < k + 1 → j < k + 1 → Conn (es.map fun e => (dl a b e.1, dl a b e.2)) i j := by
  constructor
  · intro c i j h1 h2
    have := cdl_down hne (c (sk a i) (sk a j) (sk_lt h1) (sk_lt h2))
    rw [dl_sk, dl_sk] at this
    exact this
  · exact fun c i j h1 h2 => cdl_lift hne (c _ _ (dl_lt ha hb hne h1) (dl_lt ha hb hne h2)) i j rfl rfl
/-- ties drawn together -/
def drE (a b : Nat) (E : List Ed) : List Ed := E.map fun e => (dl a b e.1, dl a b e.2.1, e.2.2)
theorem drE_get {a b : Nat} {E : List Ed} {z : Int} (h0 : 0 ≤ z) (h1 : z < (E.length : Int)) : (drE a b E).getD z.toNat (0, 0, 0) = (dl a b (E.getD z.toNat (0, 0, 0)).1, dl a b (E.getD z.toNat (0, 0, 0)).2.1, (E.getD z.toNat (0, 0, 0)).2.2) := by
  unfold drE
  rw [List.getD_eq_getElem?_getD, List.getD_eq_getElem?_getD, List.getElem?_map, List.getElem?_eq_getElem (by omega)]
  rfl
theorem drE_map {a b : Nat} {E : List Ed} {T : List Int} (h : IsSet E.length T) : T.map (edE (drE a b E)) = (T.map (edE E)).map fun e => (dl a b e.1, dl a b e.2) := by
  rw [List.map_map]
  refine List.map_congr_left fun z hz => ?_
  have := h.all z hz
  unfold edE
  rw [drE_get this.1 this.2]
  rfl
theorem drE_wt {a b : Nat} {E : List Ed} {T : List Int} (h : ∀ z ∈ T, 0 ≤ z ∧ z < (E.length : Int)) : wtE (drE a b E) T = wtE E T := by
  induction T with
  | nil => rfl
  | cons z T ih =>
    have hz := h z List.mem_cons_self
    show _ * wtE (drE a b E) T = _ * wtE E T
    rw [drE_get hz.1 hz.2, ih fun y hy => h y (List.mem_cons_of_mem _ hy)]
theorem isT_dr {k a b : Nat} {E : List Ed} {e : Ed} {T : List Int} (ha : a < k + 1) (hb : b < k + 2) (hne : b ≠ a) (he : (e.1 = a ∧ e.2.1 = b) ∨ (e.1 = b ∧ e.2.1 = a)) (h : IsSet E.length T) : IsT (k + 1) (E ++ [e]) (T ++ [(E.length : Int)]) ↔ IsT k (drE a b E) T := by
  have hl : (drE a b E).length = E.length := List.length_map ..
  have hc : (∀ i j, i < k + 2 → j < k + 2 → Conn ((T ++ [(E.length : Int)]).map (edE (E ++ [e]))) i j) ↔ ∀ i j, i < k + 2 → j < k + 2 → Conn (T.map (edE E) ++ [(a, b)]) i j := by
    rw [map_snoc h]
    rcases he with ⟨e1, e2⟩ | ⟨e1, e2⟩
    · rw [e1, e2]
    · rw [e1, e2]
      exact ⟨fun c i j x y => conn_flip (c i j x y), fun c i j x y => conn_flip (c i j x y)⟩
  have h2 : IsSet (E ++ [e]).length (T ++ [(E.length : Int)]) := by rw [List.length_append]; exact h.snoc
  constructor
  · rintro ⟨_, x, y⟩
    refine ⟨hl ▸ h, ?_, ?_⟩
    · rw [List.length_append, List.length_singleton] at x
      omega
    · rw [drE_map h]
      exact (cdl ha hb hne).mp (hc.mp y)
  · rintro ⟨_, x, y⟩
    rw [drE_map h] at y
    refine ⟨h2, by rw [List.length_append, List.length_singleton, x], hc.mpr ((cdl ha hb hne).mpr y)⟩
theorem isT_loop {k : Nat} {E : List Ed} {e : Ed} {T : List Int} (hE : ∀ f ∈ E, f.1 < k + 1 ∧ f.2.1 < k + 1) (he : e.1 = e.2.1) (h : IsSet E.length T) : ¬ IsT k (E ++ [e]) (T ++ [(E.length : Int)]) := by
  rintro ⟨_, x, y⟩
  rw [map_snoc h] at y
  have hcov : ∀ i j, i < k + 1 → j < k + 1 → Conn (T.map (edE E)) i j := fun i j hi hj => (y i j hi hj).lift fun f hf => by
    rcases List.mem_append.mp hf with q | q
    · exact .edge q
    · rw [List.mem_singleton.mp q, he]
      exact .refl _
  have hin : InN (k + 1) (T.map (edE E)) := fun f hf => by
    obtain ⟨z, hz, rfl⟩ := List.mem_map.mp hf
    have := h.all z hz
    unfold edE
    rw [List.getD_eq_getElem?_getD, List.getElem?_eq_getElem (by omega)]
    exact hE _ (List.getElem_mem _)
  have h2 := (cnt_conn (by omega) hin).mpr hcov
  have h3 := cnt_lms _ hin
  rw [List.length_map] at h3
  rw [List.length_append, List.length_singleton] at x
  omega
theorem tw_loop {k : Nat} {E : List Ed} {e : Ed} {s : Int} (hE : ∀ f ∈ E, f.1 < k + 1 ∧ f.2.1 < k + 1) (he : e.1 = e.2.1) (h : TW k E s) : TW k (E ++ [e]) s := by
  obtain ⟨L, a1, a2, a3⟩ := h
  refine ⟨L, a1, fun T => ?_, ?_⟩
  · rw [a2]
    constructor
    · exact fun h => (isT_up h.1).mpr h
    · intro h
      have hs := h.1
      rw [List.length_append] at hs
      rcases set_last hs with c | ⟨T', c, c2⟩
      · exact (isT_up c).mp h
      · exact absurd (c ▸ h) (isT_loop hE he c2)
  · rw [← a3]
    refine congrArg List.sum (List.map_congr_left fun T hT => wt_up ((a2 T).mp hT).1.all)
theorem sum_app (a b : List Int) : (a ++ b).sum = a.sum + b.sum := by
  induction a with
  | nil => rw [List.nil_append, List.sum_nil, Int.zero_add]
  | cons x a ih => rw [List.cons_append, List.sum_cons, List.sum_cons, ih]; omega
theorem sum_scale (w : Int) (l : List (List Int)) (f : List Int → Int) : (l.map fun T => f T * w).sum = w * (l.map f).sum := by
  induction l with
  | nil => rw [List.map_nil, List.map_nil, List.sum_nil, Int.mul_zero]
  | cons x l ih => rw [List.map_cons, List.map_cons, List.sum_cons, List.sum_cons, ih, Int.mul_add, Int.mul_comm]
theorem tw_part {k a b : Nat} {E : List Ed} {e : Ed} {s1 s2 : Int} (ha : a < k + 1) (hb : b < k + 2) (hne : b ≠ a) (he : (e.1 = a ∧ e.2.1 = b) ∨ (e.1 = b ∧ e.2.1 = a)) (h1 : TW (k + 1) E s1) (h2 : TW k (drE a b E) s2) : TW (k + 1) (E ++ [e]) (s1 + e.2.2 * s2) := by
  obtain ⟨L, a1, a2, a3⟩ := h1
  obtain ⟨M, b1, b2, b3⟩ := h2
  have hl : (drE a b E).length = E.length := List.length_map ..
  refine ⟨L ++ M.map (· ++ [(E.length : Int)]), List.nodup_append.mpr ⟨a1, ?_, fun x hx y hy c => ?_⟩, fun T => ?_, ?_⟩
  · exact List.Pairwise.map _ (fun x y h c => h (List.append_cancel_right c)) b1
  · obtain ⟨z, hz, c2⟩ := List.mem_map.mp hy
    have := ((a2 x).mp hx).1.all (E.length : Int) (by rw [c, ← c2]; simp)
    omega
  · rw [List.mem_append, a2, List.mem_map]
    constructor
    · rintro (h | ⟨T', hT, rfl⟩)
      · exact (isT_up h.1).mpr h
      · have := (b2 T').mp hT
        exact (isT_dr ha hb hne he (hl ▸ this.1)).mpr this
    · intro h
      have hs := h.1
      rw [List.length_append] at hs
      rcases set_last hs with c | ⟨T', c, c2⟩
      · exact .inl ((isT_up c).mp h)
      · exact .inr ⟨T', (b2 T').mpr ((isT_dr ha hb hne he c2).mp (c ▸ h)), c.symm⟩
  · rw [List.map_append, sum_app, List.map_map]
    have e1 : L.map (wtE (E ++ [e])) = L.map (wtE E) := List.map_congr_left fun T hT => wt_up ((a2 T).mp hT).1.all
    have e2 : M.map (wtE (E ++ [e]) ∘ (· ++ [(E.length : Int)])) = M.map fun T => wtE (drE a b E) T * e.2.2 := List.map_congr_left fun T hT => by
      have hs : IsSet E.length T := hl ▸ ((b2 T).mp hT).1
      show wtE (E ++ [e]) (T ++ [(E.length : Int)]) = _
      rw [wtE_app, wt_up hs.all, drE_wt hs.all]
      show _ * (((E ++ [e]).getD (E.length : Int).toNat (0, 0, 0)).2.2 * 1) = _
      rw [getD_last, Int.mul_one]
    rw [e1, e2, a3, sum_scale, b3]
end My

/-! ## the matrix-tree theorem -/
namespace My
open PySem L2
theorem ind_dl {a b u v i : Nat} (hne : b ≠ a) : ind (dl a b u) (dl a b v) i = ind u v (sk a i) + (if sk a i = b then ind u v a else 0) := by
  have key : ∀ x : Nat, ((if i = dl a b x then 1 else 0 : Int)) = (if sk a i = x then 1 else 0) + (if sk a i = b then (if a = x then 1 else 0) else 0) := fun x => by
    unfold dl
    by_cases hx : x = a
    · rw [if_pos hx, if_neg (show ¬ sk a i = x from hx ▸ sk_ne a i), Int.zero_add]
      by_cases h : sk a i = b
      · rw [if_pos h, if_pos hx.symm, if_pos]
        rw [← h, sh_sk]
      · rw [if_neg h, if_neg]
        intro e
        exact h (by rw [e, sk_sh hne])
    · rw [if_neg hx]
      have e2 : (if sk a i = b then (if a = x then 1 else 0 : Int) else 0) = 0 := by
        rw [if_neg (Ne.symm hx)]
        split <;> rfl
      rw [e2, Int.add_zero]
      by_cases h : sk a i = x
      · rw [if_pos h, if_pos]
        rw [← h, sh_sk]
      · rw [if_neg h, if_neg]
        intro e
        exact h (by rw [e, sk_sh hx])
  unfold ind
  rw [key u, key v]
  by_cases h : sk a i = b
  · rw [if_pos h, if_pos h, if_pos h]
    omega
  · rw [if_neg h, if_neg h, if_neg h]
    omega
theorem lapE_dr {a b : Nat} (hne : b ≠ a) (i j : Nat) : ∀ E : List Ed, lapE (drE a b E) i j = fold2 (lapE E) a b (sk a i) (sk a j)
  | [] => by
    show (0 : Int) = _
    unfold fold2 lapE
    by_cases h : sk a i = b
    · by_cases h2 : sk a j = b
      · rw [if_pos h, if_pos h2]; rfl
      · rw [if_pos h, if_neg h2]; rfl
    · by_cases h2 : sk a j = b
      · rw [if_neg h, if_pos h2]; rfl
      · rw [if_neg h, if_neg h2]; rfl
  | e :: E => by
    have ih := lapE_dr hne i j E
    show e.2.2 * (ind (dl a b e.1) (dl a b e.2.1) i * ind (dl a b e.1) (dl a b e.2.1) j) + lapE (drE a b E) i j = _
    rw [ih, ind_dl hne, ind_dl hne]
    unfold fold2
    show _ = (e.2.2 * (ind e.1 e.2.1 (sk a i) * ind e.1 e.2.1 (sk a j)) + lapE E (sk a i) (sk a j) + (if sk a i = b then e.2.2 * (ind e.1 e.2.1 a * ind e.1 e.2.1 (sk a j)) + lapE E a (sk a j) else 0)) + (if sk a j = b then (e.2.2 * (ind e.1 e.2.1 (sk a i) * ind e.1 e.2.1 a) + lapE E (sk a i) a) + (if sk a i = b then e.2.2 * (ind e.1 e.2.1 a * ind e.1 e.2.1 a) + lapE E a a else 0) else 0)
    generalize ind e.1 e.2.1 (sk a i) = x
    generalize ind e.1 e.2.1 (sk a j) = y
    generalize ind e.1 e.2.1 a = z
    generalize e.2.2 = w
    by_cases h : sk a i = b
    · by_cases h2 : sk a j = b
      · simp only [if_pos h, if_pos h2, Int.mul_add, Int.add_mul]
        omega
      · simp only [if_pos h, if_neg h2, Int.mul_add, Int.add_mul, Int.add_zero, Int.mul_zero]
        omega
    · by_cases h2 : sk a j = b
      · simp only [if_neg h, if_pos h2, Int.mul_add, Int.add_mul, Int.add_zero, Int.zero_mul]
        omega
      · simp only [if_neg h, if_neg h2, Int.add_zero]
theorem ind_swap (u v i : Nat) : ind v u i = - ind u v i := by
  unfold ind
  omega
theorem det_lap {k a b : Nat} {E : List Ed} {e : Ed} (ha : a < k + 1) (hb : b < k + 2) (hne : b ≠ a) (he : (e.1 = a ∧ e.2.1 = b) ∨ (e.1 = b ∧ e.2.1 = a)) : det (k + 1) (lapE (E ++ [e])) = det (k + 1) (lapE E) + e.2.2 * det k (lapE (drE a b E)) := by
  have e1 : det (k + 1) (lapE (E ++ [e])) = det (k + 1) (fun i j => lapE E i j + e.2.2 * (ind a b i * ind a b j)) := det_congr fun i j _ _ => by
    rw [lapE_snoc]
    rcases he with ⟨x, y⟩ | ⟨x, y⟩
    · rw [x, y]
    · rw [x, y, ind_swap a b i, ind_swap a b j, Int.neg_mul_neg]
  have e2 : det k (lapE (drE a b E)) = det k (fun i j => fold2 (lapE E) a b (sk a i) (sk a j)) := det_congr fun i j _ _ => lapE_dr hne i j E
  rw [e1, e2]
  by_cases hk : b < k + 1
  · exact det_tie ha hk (Ne.symm hne)
  · have e3 : det (k + 1) (fun i j => lapE E i j + e.2.2 * (ind a b i * ind a b j)) = det (k + 1) (fun i j => lapE E i j + e.2.2 * ((if i = a then 1 else 0) * (if j = a then 1 else 0))) := det_congr fun i j hi hj => by
      unfold ind
      rw [if_neg (show ¬ i = b by omega), if_neg (show ¬ j = b by omega), Int.sub_zero, Int.sub_zero]
    have e4 : det k (fun i j => fold2 (lapE E) a b (sk a i) (sk a j)) = det k (fun i j => lapE E (sk a i) (sk a j)) := det_congr fun i j hi hj => by
      have h1 := sk_lt (j := a) hi
      have h2 := sk_lt (j := a) hj
      unfold fold2
      rw [if_neg (show ¬ sk a i = b by omega), if_neg (show ¬ sk a j = b by omega), Int.add_zero, Int.add_zero]
    rw [e3, e4]
    exact det_diag ha
theorem lapE_loop {E : List Ed} {e : Ed} (he : e.1 = e.2.1) : lapE (E ++ [e]) = lapE E := by
  funext i j
  rw [lapE_snoc, he]
  unfold ind
  rw [Int.sub_self, Int.zero_mul, Int.mul_zero, Int.add_zero]
/-- the table tells the trees and their weights -/
theorem matrix_tree : ∀ (m k : Nat) (E : List Ed), E.length = m → (∀ e ∈ E, e.1 < k + 1 ∧ e.2.1 < k + 1) → TW k E (det k (lapE E))
  | 0, k, E, hm, _ => by
    obtain rfl := List.length_eq_zero_iff.mp hm
    cases k with
    | zero =>
      refine ⟨[[]], by simp, fun T => ?_, rfl⟩
      rw [List.mem_singleton]
      constructor
      · rintro rfl
        exact ⟨IsSet.nil _, rfl, fun i j hi hj => by
          have : i = j := by omega
          rw [this]
          exact .refl j⟩
      · intro h
        exact List.length_eq_zero_iff.mp h.2.1
    | succ k =>
      refine ⟨[], .nil, fun T => ⟨fun h => (by cases h), fun h => ?_⟩, ?_⟩
      · have h1 := h.1.len
        have h2 := h.2.1
        rw [List.length_nil] at h1
        omega
      · exact (det_row0 (i := 0) (by omega) fun j _ => rfl).symm
  | m + 1, k, E, hm, hE => by
    obtain ⟨E', e, rfl⟩ : ∃ E' e, E = E' ++ [e] := ⟨E.dropLast, E.getLast (fun h => by rw [h] at hm; cases hm), (List.dropLast_concat_getLast _).symm⟩
    have hm' : E'.length = m := by rw [List.length_append] at hm; simpa using hm
    have hE' : ∀ f ∈ E', f.1 < k + 1 ∧ f.2.1 < k + 1 := fun f hf => hE f (List.mem_append_left _ hf)
    have he := hE e (by simp)
    have ih := matrix_tree m k E' hm' hE'
    by_cases hl : e.1 = e.2.1
    · rw [lapE_loop hl]
      exact tw_loop hE' hl ih
    · obtain ⟨k', rfl⟩ : ∃ k', k = k' + 1 := ⟨k - 1, by omega⟩
      obtain ⟨a, b, ha, hb, hne, hab⟩ : ∃ a b, a < k' + 1 ∧ b < k' + 2 ∧ b ≠ a ∧ ((e.1 = a ∧ e.2.1 = b) ∨ (e.1 = b ∧ e.2.1 = a)) := by
        by_cases c : e.1 < k' + 1
        · exact ⟨e.1, e.2.1, c, he.2, fun h => hl h.symm, .inl ⟨rfl, rfl⟩⟩
        · exact ⟨e.2.1, e.1, by omega, he.1, hl, .inr ⟨rfl, rfl⟩⟩
      have ih2 := matrix_tree m k' (drE a b E') (by unfold drE; rw [List.length_map]; exact hm') fun f hf => by
        obtain ⟨g, hg, rfl⟩ := List.mem_map.mp hf
        have := hE' g hg
        exact ⟨dl_lt ha hb hne this.1, dl_lt ha hb hne this.2⟩
      rw [det_lap ha hb hne hab]
      exact tw_part ha hb hne hab ih ih2
/-! ### for webs -/
def edsOf (ps : List (Int × Int)) (ws : List Int) : List Ed := List.zipWith (fun p w => (p.1.toNat, p.2.toNat, w)) ps ws
theorem isT_web {n : Int} {ps : List (Int × Int)} {ws : List Int} {T : List Int} (h1 : 1 ≤ n) (hw : ws.length = ps.length) : IsT (n - 1).toNat (edsOf ps ws) T ↔ IsTree n ps T := by
  have hl : (edsOf ps ws).length = ps.length := by unfold edsOf; rw [List.length_zipWith]; omega
  have hm : IsSet ps.length T → T.map (edE (edsOf ps ws)) = endsOf ps T := fun hs => List.map_congr_left fun z hz => by
    have := hs.all z hz
    unfold edE edsOf
    rw [List.getD_eq_getElem?_getD, List.getElem?_zipWith, List.getElem?_eq_getElem (by omega), List.getElem?_eq_getElem (show z.toNat < ws.length by omega), List.getD_eq_getElem?_getD, List.getElem?_eq_getElem (by omega)]
    rfl
  unfold IsT IsTree
  rw [hl]
  constructor
  · rintro ⟨a, b, c⟩
    rw [hm a] at c
    exact ⟨a, by omega, fun i j hi hj => c i j (by omega) (by omega)⟩
  · rintro ⟨a, b, c⟩
    rw [hm a]
    exact ⟨a, by omega, fun i j hi hj => c i j (by omega) (by omega)⟩
theorem wt_one {E : List Ed} (h : ∀ e ∈ E, e.2.2 = 1) : ∀ {T : List Int}, (∀ z ∈ T, 0 ≤ z ∧ z < (E.length : Int)) → wtE E T = 1
  | [], _ => rfl
  | z :: T, hb => by
    have hz := hb z List.mem_cons_self
    show (E.getD z.toNat (0, 0, 0)).2.2 * wtE E T = 1
    rw [wt_one h fun y hy => hb y (List.mem_cons_of_mem _ hy), Int.mul_one, List.getD_eq_getElem?_getD, List.getElem?_eq_getElem (by omega)]
    exact h _ (List.getElem_mem _)
theorem sum_ones {l : List (List Int)} {f : List Int → Int} (h : ∀ T ∈ l, f T = 1) : (l.map f).sum = (l.length : Int) := by
  induction l with
  | nil => rfl
  | cons x l ih =>
    rw [List.map_cons, List.sum_cons, ih fun T hT => h T (List.mem_cons_of_mem _ hT), h x List.mem_cons_self, List.length_cons]
    omega
theorem eds_in {n : Int} {ps : List (Int × Int)} (g : GoodW n ps) (ws : List Int) : ∀ e ∈ edsOf ps ws, e.1 < (n - 1).toNat + 1 ∧ e.2.1 < (n - 1).toNat + 1 := fun e he => by
  unfold edsOf at he
  obtain ⟨i, hi⟩ := List.getElem?_of_mem he
  rw [List.getElem?_zipWith] at hi
  have g1 := g.1
  cases h1 : ps[i]? with
  | none => rw [h1] at hi; cases hi
  | some p =>
    cases h2 : ws[i]? with
    | none => rw [h1, h2] at hi; cases hi
    | some w =>
      rw [h1, h2] at hi
      obtain rfl := Option.some.inj hi
      obtain ⟨a, b, c, d⟩ := g.2.2.2 p (List.mem_of_getElem? h1)
      exact ⟨by show p.1.toNat < _; omega, by show p.2.toNat < _; omega⟩
/-- as many trees as the determinant says -/
theorem tree_det {n : Int} {ps : List (Int × Int)} (g : GoodW n ps) {L : List (List Int)} (hL : L.Nodup) (hm : ∀ l, l ∈ L ↔ IsTree n ps l) : det (n - 1).toNat (lapE (edsOf ps (List.replicate ps.length 1))) = (L.length : Int) := by
  have g1 := g.1
  have hw : (List.replicate ps.length (1 : Int)).length = ps.length := List.length_replicate
  obtain ⟨M, a1, a2, a3⟩ := matrix_tree _ (n - 1).toNat (edsOf ps (List.replicate ps.length 1)) rfl (eds_in g _)
  have hl : (edsOf ps (List.replicate ps.length 1)).length = ps.length := by unfold edsOf; rw [List.length_zipWith, hw]; omega
  have w1 : ∀ e ∈ edsOf ps (List.replicate ps.length (1 : Int)), e.2.2 = 1 := fun e he => by
    unfold edsOf at he
    obtain ⟨i, hi⟩ := List.getElem?_of_mem he
    rw [List.getElem?_zipWith] at hi
    cases h1 : ps[i]? with
    | none => rw [h1] at hi; cases hi
    | some p =>
      cases h2 : (List.replicate ps.length (1 : Int))[i]? with
      | none => rw [h1, h2] at hi; cases hi
      | some w =>
        rw [h1, h2] at hi
        obtain rfl := Option.some.inj hi
        exact List.eq_of_mem_replicate (List.mem_of_getElem? h2)
  rw [← a3, sum_ones fun T hT => wt_one w1 ((a2 T).mp hT).1.all]
  have hp : M.Perm L := (List.perm_ext_iff_of_nodup a1 hL).mpr fun l => by rw [a2, hm, isT_web g1 hw]
  rw [hp.length_eq]
end My

/-! ## o[i] += e, o a list -/
namespace L2
open PySem PySem.Spec PyProof.Rows
section
variable {X : Cx}
def rGetL (K : PySem.W.Frag) : V → V → Hp → VK → Prop := fun x y H Q => ∃ p xs i v, x = .ref p ∧ y = .int i ∧ SqL K H p xs ∧ 0 ≤ i ∧ xs[i.toNat]? = some v ∧ Q v H
theorem get_listK (K : PySem.W.Frag) (hk : X.K = K := by rfl) : PGet X (rGetL K) := by
  subst hk
  intro pins s σ H o i ov iv Q I ro ri h
  obtain ⟨p, xs, j, z, rfl, rfl, hq, h0, he, q⟩ := h
  cases ro
  obtain ⟨t, rfl⟩ := ri
  obtain ⟨its, r, pl, hz⟩ := I.list hq
  obtain ⟨w, ew, rw'⟩ := r.get he
  have hl := r.length
  have hn := line63
  have hlt := (List.getElem?_eq_some_iff.mp he).1
  exact wpAny_getItem_list pl.isList h0 (by omega) (by simpa using ew) ⟨z, H, I, rw', q⟩
end
end L2

/-! ## a table that is written into; loops over two lists -/
namespace My
open PySem L2
theorem for_zip {K : PySem.W.Frag} {a b : Addr} {xs ys : List V} {g : TG} {tb : TS} {D : Ends} {σ : St} {H : Hp} (hxy : xs.length = ys.length) (Pv : Nat → St → Hp → Prop) (h0 : Pv 0 σ H) (hl : ∀ i σ H, i ≤ xs.length → Pv i σ H → SqL K H a xs ∧ SqL K H b ys)
    (hs : ∀ (i : Nat) x y σ H (p : Addr), H p = none → xs[i]? = some x → ys[i]? = some y → Pv i σ H → g (.ref p) σ (upd H p (.tup [x, y])) fun σ2 H2 => tb { D with nx := Pv (i + 1), ct := Pv (i + 1), bk := D.nx } σ2 H2) (hd : ∀ σ H, Pv xs.length σ H → D.nx σ H) :
    ∃ W : Nat → Nat → St → Hp → Prop, (∃ m, W 0 m σ H) ∧ ∀ i m σ H, W i m σ H →
      ((Itz K a b).stop i H ∧ D.nx σ H) ∨ ((Itz K a b).go i H ∧ ∃ N : St → Hp → Prop, (∀ σ' H', N σ' H' → ∃ m', m' < m ∧ W (i + 1) m' σ' H') ∧ ∀ x H', (Itz K a b).yld i H x H' → g x σ H' fun σ2 H2 => tb { D with nx := N, ct := N, bk := D.nx } σ2 H2) := by
  refine ⟨fun i m σ H => m = xs.length - i ∧ i ≤ xs.length ∧ Pv i σ H, ⟨xs.length, by simp, Nat.zero_le _, h0⟩, ?_⟩
  rintro i m σ H ⟨rfl, hi, p⟩
  obtain ⟨q, q2⟩ := hl i σ H hi p
  by_cases hlt : i < xs.length
  · refine .inr ⟨⟨xs, ys, xs[i], ys[i]'(by omega), q, q2, by simp [hlt], List.getElem?_eq_getElem (by omega)⟩, Pv (i + 1), fun σ' H' p' => ⟨xs.length - (i + 1), by omega, rfl, hlt, p'⟩, fun x H' ⟨T, u, v, hT, ex, eH, hu, hv⟩ => ?_⟩
    subst ex eH
    exact hs i u v σ H T hT (hu xs q) (hv ys q2) p
  · have e : i = xs.length := by omega
    subst e
    exact .inl ⟨⟨xs, ys, q, q2, .inl (Nat.le_refl _)⟩, hd σ H p⟩
/-- a table of own rows at r, made since H0 -/
structure TabAt (H0 : Hp) (r : Addr) (n : Nat) (H : Hp) (ys : List V) (L : List (List Int)) : Prop where
  tab : H r = some (.lst ys)
  rows : Bears (LiV r H) ys L
  len : L.length = n
  all : ∀ l ∈ L, l.length = n
  nd : ys.Nodup
  new : ∀ A, V.ref A ∈ ys → H0 A = none
theorem TabAt.same {H0 H H' : Hp} {r : Addr} {n : Nat} {ys : List V} {L : List (List Int)} (s : Same H H') (h : TabAt H0 r n H ys L) : TabAt H0 r n H' ys L := ⟨s _ _ h.tab, h.rows.imp fun _ _ q => q.same s, h.len, h.all, h.nd, h.new⟩
theorem TabAt.at {H0 H : Hp} {r : Addr} {n : Nat} {ys : List V} {L : List (List Int)} (h : TabAt H0 r n H ys L) {i : Nat} (hi : i < n) : ∃ (A : Addr) (l : List Int), ys[i]? = some (.ref A) ∧ L[i]? = some l ∧ H A = some (.lst (IL l)) ∧ l.length = n ∧ H0 A = none ∧ A ≠ r := by
  have hl := h.len
  obtain ⟨l, e⟩ : ∃ l, L[i]? = some l := ⟨_, List.getElem?_eq_getElem (by omega)⟩
  obtain ⟨v, e1, A, rfl, e2, e3⟩ := h.rows.2 i l e
  exact ⟨A, l, e1, e, e2, h.all l (List.mem_of_getElem? e), h.new A (List.mem_of_getElem? e1), e3⟩
theorem TabAt.put {H0 H : Hp} {r : Addr} {n : Nat} {ys : List V} {L : List (List Int)} (h : TabAt H0 r n H ys L) {i : Nat} {A : Addr} {l l' : List Int} (e1 : ys[i]? = some (.ref A)) (e2 : L[i]? = some l) (e3 : A ≠ r) (hl : l'.length = n) : TabAt H0 r n (upd H A (.lst (IL l'))) ys (L.set i l') := by
  have hi := (List.getElem?_eq_some_iff.mp e2).1
  have hil := (List.getElem?_eq_some_iff.mp e1).1
  refine ⟨by rw [upd_ne (Ne.symm e3)]; exact h.tab, ⟨by rw [List.length_set]; exact h.rows.1, fun j m em => ?_⟩, by rw [List.length_set]; exact h.len, fun m hm => ?_, h.nd, h.new⟩
  · rw [List.getElem?_set] at em
    by_cases c : i = j
    · subst c
      rw [if_pos rfl, if_pos hi] at em
      obtain rfl := Option.some.inj em
      exact ⟨_, e1, A, rfl, upd_same, e3⟩
    · rw [if_neg c] at em
      obtain ⟨v, f1, B, rfl, f2, f3⟩ := h.rows.2 j m em
      refine ⟨_, f1, B, rfl, ?_, f3⟩
      rw [upd_ne]
      · exact f2
      · intro e
        rw [e] at f1
        exact c (nodup_get h.nd e1 f1)
  · rcases List.mem_or_eq_of_mem_set hm with e | e
    · exact h.all m e
    · rw [e]; exact hl
theorem fnL_put {L : List (List Int)} {l : List Int} {i j : Nat} {x : Int} (hi : L[i]? = some l) (hj : j < l.length) (a b : Nat) : fnL (L.set i (l.set j x)) a b = if a = i ∧ b = j then x else fnL L a b := by
  have hil := (List.getElem?_eq_some_iff.mp hi).1
  unfold fnL
  by_cases ha : a = i
  · subst ha
    have e1 : (L.set a (l.set j x)).getD a [] = l.set j x := by rw [List.getD_eq_getElem?_getD, List.getElem?_set, if_pos rfl, if_pos hil]; rfl
    have e2 : L.getD a [] = l := by rw [List.getD_eq_getElem?_getD, hi]; rfl
    rw [e1, e2]
    by_cases hb : b = j
    · subst hb
      rw [if_pos ⟨rfl, rfl⟩, List.getD_eq_getElem?_getD, List.getElem?_set, if_pos rfl, if_pos hj]
      rfl
    · rw [if_neg (fun h => hb h.2), List.getD_eq_getElem?_getD, List.getElem?_set, if_neg (Ne.symm hb), ← List.getD_eq_getElem?_getD]
  · have e1 : (L.set i (l.set j x)).getD a [] = L.getD a [] := by rw [List.getD_eq_getElem?_getD, List.getD_eq_getElem?_getD, List.getElem?_set, if_neg (Ne.symm ha)]
    rw [e1, if_neg (fun h => ha h.1)]
/-- the four numbers that a tie changes -/
theorem four {A : Mx} {u v : Nat} {w : Int} (hne : u ≠ v) (a b : Nat) {B C D E : Mx} (h1 : ∀ a b, B a b = if a = u ∧ b = u then A u u + w else A a b) (h2 : ∀ a b, C a b = if a = v ∧ b = v then B v v + w else B a b) (h3 : ∀ a b, D a b = if a = u ∧ b = v then C u v - w else C a b) (h4 : ∀ a b, E a b = if a = v ∧ b = u then D v u - w else D a b) : E a b = A a b + w * (ind u v a * ind u v b) := by
  have nv : ¬ v = u := Ne.symm hne
  unfold ind
  by_cases x1 : a = u
  · subst x1
    by_cases y1 : b = a
    · subst y1
      simp [h4, h3, h2, h1, hne, nv]
    · by_cases y2 : b = v
      · subst y2
        simp [h4, h3, h2, h1, hne, nv]
        omega
      · simp [h4, h3, h2, h1, hne, nv, y1, y2]
  · by_cases x2 : a = v
    · subst x2
      by_cases y1 : b = u
      · subst y1
        simp [h4, h3, h2, h1, hne, nv]
        omega
      · by_cases y2 : b = a
        · subst y2
          simp [h4, h3, h2, h1, hne, nv]
        · simp [h4, h3, h2, h1, hne, nv, y1, y2]
    · simp [h4, h3, h2, h1, hne, nv, x1, x2]
theorem eds_snoc {ps : List (Int × Int)} {ws : List Int} {i : Nat} {p : Int × Int} {w : Int} (hp : ps[i]? = some p) (hw : ws[i]? = some w) : edsOf (ps.take (i + 1)) (ws.take (i + 1)) = edsOf (ps.take i) (ws.take i) ++ [(p.1.toNat, p.2.toNat, w)] := by
  have h1 := (List.getElem?_eq_some_iff.mp hp).1
  have h2 := (List.getElem?_eq_some_iff.mp hw).1
  unfold edsOf
  rw [List.take_succ, List.take_succ, hp, hw]
  rw [List.zipWith_append (by rw [List.length_take, List.length_take]; omega)]
  rfl
end My

/-! ## one tie left out, wherever it stands -/
namespace My
open PySem L2
end My

/-! ## trees told back -/
namespace My
open PySem L2
end My

/-! ## two webs put together: their trees -/
namespace My
open PySem L2
theorem Conn.image {es fs : List (Nat × Nat)} {f : Nat → Nat} (h : ∀ e ∈ es, Conn fs (f e.1) (f e.2)) {i j : Nat} (c : Conn es i j) : Conn fs (f i) (f j) := by
  induction c with
  | refl i => exact .refl _
  | edge e => exact h _ e
  | symm _ ih => exact ih.symm
  | trans _ _ ih1 ih2 => exact ih1.trans ih2
theorem conn_len {n : Int} {ps : List (Int × Int)} {T : List Int} (g : GoodW n ps) (h : IsSet ps.length T) (c : ∀ i j, i < n.toNat → j < n.toNat → Conn (endsOf ps T) i j) : n - 1 ≤ (T.length : Int) := by
  have g1 := g.1
  have hin := ends_in (ns := T) g h.all
  have h2 := (cnt_conn (by omega) hin).mpr c
  have h3 := cnt_lms _ hin
  rw [show (endsOf ps T).length = T.length from List.length_map ..] at h3
  omega
end My

/-! ## how many sets there are; two webs put together the other way round -/
namespace My
open PySem L2
end My

/-! ## the table of a set: its places ascend -/
namespace L2
open PySem
/-- the places ascend, and who leads -/
def Ris (t : SetTable) : Prop := t.place.toList.Pairwise (· < ·)
theorem asc_get {xs : Array Nat} (h : xs.toList.Pairwise (· < ·)) {i k a b : Nat} (hik : i < k) (ha : xs[i]? = some a) (hb : xs[k]? = some b) : a < b := by
  rw [← Array.getElem?_toList] at ha hb
  obtain ⟨h1, e1⟩ := List.getElem?_eq_some_iff.mp ha
  obtain ⟨h2, e2⟩ := List.getElem?_eq_some_iff.mp hb
  rw [← e1, ← e2]
  exact List.pairwise_iff_getElem.mp h i k h1 h2 hik
theorem below_run {xs : Array Nat} {j : Nat} (h : xs.toList.Pairwise (· < ·)) : ∀ (f lo hi : Nat), hi - lo ≤ f → lo ≤ hi → hi ≤ xs.size → (∀ i v, xs[i]? = some v → i < lo → v < j) → (∀ i v, xs[i]? = some v → hi ≤ i → j ≤ v) →
    SetTable.below.go xs j f lo hi ≤ xs.size ∧ ∀ i v, xs[i]? = some v → (i < SetTable.below.go xs j f lo hi ↔ v < j)
  | 0, lo, hi, hf, hl, hs, a, b => by
    have e : lo = hi := by omega
    unfold SetTable.below.go
    refine ⟨by omega, fun i v hv => ⟨a i v hv, fun hvj => Nat.lt_of_not_le fun hc => ?_⟩⟩
    have := b i v hv (by omega)
    omega
  | f + 1, lo, hi, hf, hl, hs, a, b => by
    unfold SetTable.below.go
    by_cases c : lo < hi
    · rw [if_pos c]
      dsimp only
      obtain ⟨m, hm⟩ : ∃ m, xs[(lo + hi) / 2]? = some m := ⟨_, Array.getElem?_eq_getElem (by omega)⟩
      have em : xs.getD ((lo + hi) / 2) j = m := by rw [Array.getD_eq_getD_getElem?, hm]; rfl
      rw [em]
      by_cases d : m < j
      · rw [if_pos d]
        refine below_run h f _ hi (by omega) (by omega) hs (fun i v hv hi2 => ?_) b
        by_cases e : i = (lo + hi) / 2
        · rw [e, hm] at hv
          exact Option.some.inj hv ▸ d
        · have := asc_get h (show i < (lo + hi) / 2 by omega) hv hm
          omega
      · rw [if_neg d]
        refine below_run h f lo _ (by omega) (by omega) (by omega) a fun i v hv hi2 => ?_
        by_cases e : i = (lo + hi) / 2
        · rw [e, hm] at hv
          have := Option.some.inj hv
          omega
        · have := asc_get h (show (lo + hi) / 2 < i by omega) hm hv
          omega
    · rw [if_neg c]
      refine ⟨by omega, fun i v hv => ⟨a i v hv, fun hvj => Nat.lt_of_not_le fun hc => ?_⟩⟩
      have := b i v hv (by omega)
      omega
theorem below_tells {xs : Array Nat} (h : xs.toList.Pairwise (· < ·)) (j : Nat) : SetTable.below xs j ≤ xs.size ∧ ∀ i v, xs[i]? = some v → (i < SetTable.below xs j ↔ v < j) :=
  below_run h xs.size 0 xs.size (by omega) (Nat.zero_le _) (Nat.le_refl _) (fun i v _ h => absurd h (Nat.not_lt_zero _)) fun i v hv hi => by
    rw [Array.getElem?_eq_none hi] at hv
    cases hv
theorem below_at {xs : Array Nat} (h : xs.toList.Pairwise (· < ·)) {i v : Nat} (hv : xs[i]? = some v) : SetTable.below xs v = i := by
  obtain ⟨h1, h2⟩ := below_tells h v
  have a : ¬ i < SetTable.below xs v := fun q => by have := (h2 i v hv).mp q; omega
  refine Nat.le_antisymm (by omega) (Nat.le_of_not_lt fun q => ?_)
  have hlt := (Array.getElem?_eq_some_iff.mp hv).1
  obtain ⟨u, hu⟩ : ∃ u, xs[SetTable.below xs v]? = some u := ⟨_, Array.getElem?_eq_getElem (by omega)⟩
  have b := asc_get h q hu hv
  have := (h2 _ u hu).mpr b
  omega
theorem below_next {xs : Array Nat} (h : xs.toList.Pairwise (· < ·)) {i v : Nat} (hv : xs[i]? = some v) : SetTable.below xs (v + 1) = i + 1 := by
  obtain ⟨h1, h2⟩ := below_tells h (v + 1)
  have a := (h2 i v hv).mpr (Nat.lt_succ_self v)
  refine Nat.le_antisymm (Nat.le_of_not_lt fun q => ?_) a
  obtain ⟨u, hu⟩ : ∃ u, xs[i + 1]? = some u := ⟨_, Array.getElem?_eq_getElem (by omega)⟩
  have b := (h2 _ u hu).mp q
  have := asc_get h (Nat.lt_succ_self i) hv hu
  omega
theorem below_zero {xs : Array Nat} (h : xs.toList.Pairwise (· < ·)) : SetTable.below xs 0 = 0 := by
  obtain ⟨h1, h2⟩ := below_tells h 0
  refine Nat.le_zero.mp (Nat.le_of_not_lt fun q => ?_)
  obtain ⟨u, hu⟩ : ∃ u, xs[0]? = some u := ⟨_, Array.getElem?_eq_getElem (by omega)⟩
  exact Nat.not_lt_zero _ ((h2 _ u hu).mp q)
/-- no live one there -/
def NoLive (t : SetTable) (j : Nat) : Prop := t.place[SetTable.below t.place j]? ≠ some j
theorem ris_put {t : SetTable} {j : Nat} (h : Ris t) (hn : NoLive t j) : Ris (t.put j).1 := by
  obtain ⟨h1, h2⟩ := below_tells h j
  have up : ∀ i v, t.place[i]? = some v → SetTable.below t.place j ≤ i → j < v := fun i v hv hi => by
    have a : ¬ v < j := fun q => by have := (h2 i v hv).mpr q; omega
    have b : v ≠ j := fun e => hn (by rw [e] at hv; rw [below_at h hv]; exact hv)
    omega
  show (SetTable.insertAt t.place (SetTable.below t.place j) j).toList.Pairwise (· < ·)
  rw [SetTable.toList_insertAt]
  have dn : ∀ x ∈ t.place.toList.take (SetTable.below t.place j), x < j := fun x hx => by
    obtain ⟨i, hi⟩ := List.getElem?_of_mem hx
    rw [List.getElem?_take] at hi
    split at hi
    · rename_i q
      rw [Array.getElem?_toList] at hi
      exact (h2 i x hi).mp q
    · cases hi
  have ub : ∀ x ∈ t.place.toList.drop (SetTable.below t.place j), j < x := fun x hx => by
    obtain ⟨i, hi⟩ := List.getElem?_of_mem hx
    rw [List.getElem?_drop, Array.getElem?_toList] at hi
    exact up _ x hi (Nat.le_add_right _ _)
  refine List.pairwise_append.mpr ⟨List.Pairwise.sublist (List.take_sublist _ _) h, List.pairwise_cons.mpr ⟨ub, List.Pairwise.sublist (List.drop_sublist _ _) h⟩, fun a ha b hb => ?_⟩
  rcases List.mem_cons.mp hb with e | e
  · rw [e]; exact dn a ha
  · exact Nat.lt_trans (dn a ha) (ub b e)
theorem slot_empty {t : SetTable} {j : Nat} (h : t.slot j = .empty ∨ t.slot j = .dummy) : NoLive t j := fun e => by
  have e2 : t.slot j = .live (SetTable.below t.place j) := by
    unfold SetTable.slot
    dsimp only
    rw [if_pos (by rw [e]; simp)]
  rw [e2] at h
  rcases h with h | h <;> cases h
theorem probe_free {t : SetTable} {f : Nat → Int} {h : Int} : ∀ (n : Nat) (p : SetTable.Probe) (j : Nat) (d : Option Nat), (∀ e, p.dummy = some e → NoLive t e) → SetTable.probe.go t f h n p = some (.empty j d) → NoLive t j ∧ ∀ e, d = some e → NoLive t e
  | 0, p, j, d, _, h => by cases h
  | n + 1, p, j, d, hp, h => by
    have adv : ∀ q : SetTable.Probe, (t.advance q).dummy = q.dummy := fun q => by
      unfold SetTable.advance
      split <;> rfl
    unfold SetTable.probe.go at h
    split at h
    · rename_i hs
      cases h
      exact ⟨slot_empty (.inl hs), hp⟩
    · rename_i hs
      exact probe_free n _ j d (fun e he => by rw [adv] at he; cases he; exact slot_empty (.inr hs)) h
    · split at h
      · cases h
      · exact probe_free n _ j d (fun e he => hp e (by rw [adv] at he; exact he)) h
theorem free_slot {t : SetTable} {h : Int} {s : Nat} {b : Bool} (e : t.freeSlot h = some (s, b)) : NoLive t s := by
  unfold SetTable.freeSlot at e
  split at e
  · rename_i j d hp
    obtain ⟨a1, a2⟩ := probe_free _ _ j d (fun e he => by cases he) hp
    have e1 := congrArg Prod.fst (Option.some.inj e)
    dsimp only at e1
    rw [← e1]
    cases d with
    | none => exact a1
    | some x => exact a2 x rfl
  · cases e
theorem ris_stand (t : SetTable) (n : Nat) : Ris (t.standIn n) := by
  show (Array.range n).toList.Pairwise (· < ·)
  rw [Array.toList_range]
  exact List.pairwise_lt_range
theorem ris_new {t : SetTable} (h : Ris t) (es : Array (Int × Value)) (k : Int) (x : Value) : Ris (layNew t es k x).2.1 ∧ (layNew t es k x).2.1.led = t.led := by
  unfold layNew
  split
  · rename_i s b e
    dsimp only
    unfold SetTable.orStandIn
    split
    · exact ⟨ris_put h (free_slot e), rfl⟩
    · exact ⟨ris_stand _ _, rfl⟩
  · exact ⟨ris_stand _ _, rfl⟩
theorem ris_relay {t : SetTable} (h : Ris t) (es : Array (Int × Value)) (n : Nat) : Ris (relayAll t es n).2.1 ∧ (relayAll t es n).2.1.led = t.led := by
  unfold relayAll
  split
  · rename_i t' order e
    dsimp only
    split
    · unfold SetTable.relaid SetTable.laid at e
      cases ho : SetTable.layClean (SetTable.sizeAbove n - 1) (es.map (·.1)) with
      | none => rw [ho] at e; cases e
      | some owner =>
        rw [ho] at e
        have e1 := congrArg Prod.fst (Option.some.inj e)
        dsimp only at e1
        rw [← e1]
        refine ⟨?_, rfl⟩
        show (List.map _ (List.filterMap _ _)).toArray.toList.Pairwise (· < ·)
        rw [List.toList_toArray, List.pairwise_map, List.pairwise_filterMap]
        refine List.pairwise_lt_range.imp fun {a b} hab x hx y hy => ?_
        have ex : x.1 = a := by
          cases q : owner.getD a none with
          | none => rw [q] at hx; cases hx
          | some z => rw [q] at hx; cases hx; rfl
        have ey : y.1 = b := by
          cases q : owner.getD b none with
          | none => rw [q] at hy; cases hy
          | some z => rw [q] at hy; cases hy; rfl
        rw [ex, ey]
        exact hab
    · exact ⟨ris_stand _ _, rfl⟩
  · exact ⟨ris_stand _ _, rfl⟩
end L2

/-! ## an int put into a set, its table kept in order -/
namespace L2
open PySem PySem.Spec PyProof.Rows
/-- a set of ints stands at a; its table's places ascend -/
def SetR (P : Program) (w : World) (h : Heap) (a : Addr) (led : Bool) (S : Int → Bool) (n : Nat) : Prop :=
  ∃ (o : Obj) (es : Array (Int × Value)) (ep : Nat) (t : SetTable), h.get? a = some o ∧ o.ExactSet ∧ o.data = .set es ep t ∧ ElemsOf (intKind P w) es.toList ∧ (∀ z, S z = true ↔ ∃ y ∈ es.toList, (intKind P w).is z y.2 = true) ∧ es.size < scanBound ∧ t.fits es.size = true ∧ es.size = n ∧ Ris t ∧ t.led = led
theorem SetR.at {P : Program} {w : World} {h h' : Heap} {a : Addr} {led : Bool} {S : Int → Bool} {n : Nat} (q : SetR P w h a led S n) (k : ∀ o, h.get? a = some o → h'.get? a = some o) : SetR P w h' a led S n :=
  let ⟨o, es, ep, t, ho, r⟩ := q
  ⟨o, es, ep, t, k o ho, r⟩
section
variable {prog : Program} {w : World} {A : Around} {E : Value → Shared → Prop} {s : Shared}
theorem set_stored {h : Heap} {a : Addr} {o : Obj} {es : Array (Int × Value)} {ep : Nat} {t : SetTable} (ho : h.get? a = some o) (hx : o.ExactSet) (hd : o.data = .set es ep t) (fs : Array (Int × Value)) (u : SetTable) :
    (h.update a (Obj.putSet fs u)).get? a = some { o with data := .set fs (ep + 1) u } ∧ ({ o with data := .set fs (ep + 1) u } : Obj).ExactSet := by
  have q := Heap.get?_update_self (Obj.putSet fs u) ho (by rw [putSet_of fs u hd]; rfl)
  rw [putSet_of fs u hd] at q
  exact ⟨q, hx⟩
theorem add_rest {gv : Bool → Sem Unit} (hgv : ∀ (b : Bool) (s1 : Shared) (R : Unit → Shared → Prop), R () s1 → wpAny (model prog w) A (gv b) R E s1)
    {a : Addr} {o : Obj} {es fs : Array (Int × Value)} {ep : Nat} {t u : SetTable} (ho : s.heap.get? a = some o) (hx : o.ExactSet) (hd : o.data = .set es ep t)
    {S : Int → Bool} (he : ElemsOf (intKind prog w) fs.toList) (hm : ∀ z, S z = true ↔ ∃ y ∈ fs.toList, (intKind prog w).is z y.2 = true) (hb : fs.size < scanBound) (hf : u.fits fs.size = true) (hr : Ris u) {dm : Bool} {R : Option Bool → Shared → Prop}
    (k : ∀ h', Heap.SameBut a s.heap h' → SetR prog w h' a u.led S fs.size → R (some true) { s with heap := h' }) :
    wpAny (model prog w) A (do
      storeSet a fs u
      if (!dm && u.tooFull) = true then do
        gv (relayAll u fs (SetTable.grown fs.size)).2.2
        storeSet a (relayAll u fs (SetTable.grown fs.size)).1 (relayAll u fs (SetTable.grown fs.size)).2.1
        pure (some true)
      else pure (some true)) R E s := by
  obtain ⟨h1, x1⟩ := set_stored ho hx hd fs u
  have b1 := Heap.SameBut.update s.heap a (Obj.putSet fs u)
  refine wpAny_bind (wpAny_storeSet_of ho hd ?_ (fits_of_scanBound hb))
  by_cases c : (!dm && u.tooFull) = true
  · rw [if_pos c]
    have p := relayAll_perm u fs (SetTable.grown fs.size)
    have f := relayAll_fits u fs (SetTable.grown fs.size)
    obtain ⟨r, l⟩ := ris_relay hr fs (SetTable.grown fs.size)
    generalize relayAll u fs (SetTable.grown fs.size) = Z at p f r l ⊢
    obtain ⟨gs, v, gave⟩ := Z
    dsimp only at p f r l ⊢
    have ez : gs.size = fs.size := by rw [← Array.length_toList, p.length_eq, Array.length_toList]
    obtain ⟨h2, x2⟩ := set_stored h1 x1 rfl gs v
    refine wpAny_bind (hgv _ _ _ (wpAny_bind (wpAny_storeSet_of h1 rfl (wpAny_pure ?_) (fits_of_scanBound (by rw [ez]; exact hb)))))
    exact k _ (b1.trans (Heap.SameBut.update _ a _)) ⟨_, gs, _, v, h2, x2, rfl, he.perm p, fun z => (hm z).trans ⟨fun ⟨y, hy, q⟩ => ⟨y, p.mem_iff.mpr hy, q⟩, fun ⟨y, hy, q⟩ => ⟨y, p.mem_iff.mp hy, q⟩⟩, by rw [ez]; exact hb, f, ez, r, l⟩
  · rw [if_neg c]
    exact wpAny_pure (k _ b1 ⟨_, fs, _, u, h1, x1, rfl, he, hm, hb, hf, rfl, hr, rfl⟩)
theorem add_ris {a : Addr} {S : Int → Bool} {n : Nat} {z : Int} {x : Value} {led : Bool} {R : Bool → Shared → Prop} (hz : (intKind prog w).is z x = true) (hsc : x.scannable = true) (hS : SetR prog w s.heap a led S n) (room : n + 1 < scanBound)
    (k : ∀ h', Heap.SameBut a s.heap h' → SetR prog w h' a led (fun y => S y || decide (y = z)) (if S z then n else n + 1) → R (!S z) { s with heap := h' }) :
    wpAny (model prog w) A (setAddHashed a x ((intKind prog w).hash z)) R E s := by
  obtain ⟨o, es, ep, t, ho, hx, hd, he, hm, hb, hf, hn, hr, hl⟩ := hS
  unfold setAddHashed setAddHashedIn
  refine wpAny_holding (wpAny_bind (wpAny_setState_of ho hd hf ?_))
  dsimp only
  rw [if_pos (byScan_of hsc hb he)]
  unfold setAddByScan
  refine wpAny_bind (wpAny_bind (wpAny_rule (wpAny_bind (wpAny_setScan_of hz ho hd hf he ?_))))
  cases hw : List.findIdx? (fun y => (intKind prog w).is z y.2) es.toList with
  | some j =>
    obtain ⟨j1, j2, _⟩ := List.findIdx?_eq_some_iff_getElem.mp hw
    have yes : S z = true := (hm z).mpr ⟨es.toList[j], List.getElem_mem j1, j2⟩
    have fin := k s.heap (Heap.SameBut.refl a s.heap) ⟨o, es, ep, t, ho, hx, hd, he, fun y => by
      rw [Bool.or_eq_true, decide_eq_true_eq, ← hm y]
      exact ⟨fun q => q.elim id fun q => q ▸ yes, .inl⟩, hb, hf, by rw [yes]; exact hn, hr, hl⟩
    rw [yes] at fin
    dsimp only
    exact wpAny_pure (wpAny_pure fin)
  | none =>
    have no : S z = false := Bool.eq_false_iff.mpr fun q => by
      obtain ⟨y, hy, hp⟩ := (hm z).mp q
      have := List.findIdx?_eq_none_iff.mp hw y hy
      rw [hp] at this
      cases this
    dsimp only
    have p := layNew_perm t es ((intKind prog w).hash z) x
    have f := layNew_fits t es ((intKind prog w).hash z) x
    obtain ⟨r, l⟩ := ris_new hr es ((intKind prog w).hash z) x
    generalize layNew t es ((intKind prog w).hash z) x = Z at p f r l ⊢
    obtain ⟨fs, u, dm, gave⟩ := Z
    dsimp only at p f r l ⊢
    rw [Array.toList_push] at p
    have ez : fs.size = n + 1 := by rw [← Array.length_toList, p.length_eq, List.length_append, Array.length_toList, hn]; rfl
    have gw : ∀ (b : Bool) {s1 : Shared} {R' : Unit → Shared → Prop}, R' () s1 → wpAny (model prog w) A (match b with | true => rule "set.scan.the-table-gave-way" | false => pure ()) R' E s1 := fun b s1 R' q => by
      cases b
      · exact wpAny_pure q
      · exact wpAny_rule q
    have fin : ∀ h', Heap.SameBut a s.heap h' → SetR prog w h' a led (fun y => S y || decide (y = z)) fs.size → R true { s with heap := h' } := fun h' q1 q2 => by
      have q := k h' q1
      rw [no] at q
      rw [ez] at q2
      exact q q2
    have he1 := (he.push hz hsc).perm p
    have hm1 : ∀ y, (S y || decide (y = z)) = true ↔ ∃ v ∈ fs.toList, (intKind prog w).is y v.2 = true := mem_push_iff hz hm p
    have hb1 : fs.size < scanBound := by omega
    refine wpAny_bind (gw _ ?_)
    have tail : ∀ v : SetTable, v.fits fs.size = true → Ris v → v.led = led → wpAny (model prog w) A (do
        storeSet a fs v
        if (!dm && v.tooFull) = true then do
          (match (relayAll v fs (SetTable.grown fs.size)).2.2 with | true => rule "set.scan.the-table-gave-way" | false => pure ())
          storeSet a (relayAll v fs (SetTable.grown fs.size)).1 (relayAll v fs (SetTable.grown fs.size)).2.1
          pure (some true)
        else pure (some true)) (fun y s1 => wpAny (model prog w) A (match y with | some added => pure added | none => setAddHashedIn a x ((intKind prog w).hash z) 99999) R E s1) E s := fun v a1 a2 a3 =>
      add_rest (gv := fun b => match b with | true => rule "set.scan.the-table-gave-way" | false => pure ()) (fun b s1 R' q => gw b q) ho hx hd he1 hm1 hb1 a1 a2 fun h' q1 q2 => wpAny_pure (fin h' q1 (a3 ▸ q2))
    split
    · refine wpAny_bind ?_
      rw [hashByValue_scannable 8 hsc]
      refine wpAny_pure ?_
      split
      · exact tail u f r (l.trans hl)
      · exact tail _ (SetTable.fits_plain_off f) r (l.trans hl)
    · refine wpAny_bind (wpAny_pure ?_)
      rw [if_pos rfl]
      exact tail u f r (l.trans hl)
end
end L2

/-! ## set(list of ints), its table kept in order -/
namespace L2
open PySem PySem.Spec PyProof.Rows
section
variable {prog : Program} {w : World} {A : Around} {R : Result → Shared → Prop} {I : Addr} {fp wr : List Addr} {G : Array GenState → Array GenState → Prop} {n : Nat} {P : Nat → Value → Prop} {St : Nat → Shared → Prop}
theorem loop_ris (W : WalksS prog w A.in1 I fp wr G n P St) (b : Addr) (hbf : b ∉ fp) {led : Bool} (val : Nat → Int) (hv : ∀ i v, P i v → ∃ t, v = .int (val i) t) (hn : n + 1 < scanBound) :
    ∀ (k i : Nat) (s : Shared), n - i = k → i ≤ n → St i s → SetR prog w s.heap b led (fun z => (firstMet val i).any (· == z)) (firstMet val i).length →
      (∀ s', Moved (b :: wr) G s s' → SetR prog w s'.heap b led (fun z => (firstMet val n).any (· == z)) (firstMet val n).length → R (.ok (.ret .none)) s') →
      codeAny (model prog w) A (.builtin "set.update.loop" ⟨[.ref b, .ref I], []⟩) R s
  | 0, i, s, hk, hi, st, hS, q => by
    have e : i = n := by omega
    subst e
    refine codeAny_builtin F.entry_set_update_loop ?_
    rw [Around.under_plainId F.plain_set_update_loop _]
    show wpAny _ A.in1 (pyNext (.ref I) >>= _) _ _ s
    refine wpAny_bind (W.done s _ _ st fun s1 m => ?_)
    show wpAny _ A.in1 (ret Value.none) _ _ s1
    exact wpAny_pure (q s1 (m.mono fun c hc => .tail _ hc) (hS.at fun o ho => m.heap b o (fun hc => hbf (W.sub _ hc)) ho))
  | k + 1, i, s, hk, hi, st, hS, q => by
    have hlt : i < n := by omega
    refine codeAny_builtin F.entry_set_update_loop ?_
    rw [Around.under_plainId F.plain_set_update_loop _]
    show wpAny _ A.in1 (pyNext (.ref I) >>= _) _ _ s
    refine wpAny_bind (W.item i s _ _ hlt st fun v s1 hP st1 m => ?_)
    obtain ⟨t, rfl⟩ := hv i v hP
    have hS1 := hS.at (h' := s1.heap) fun o ho => m.heap b o (fun hc => hbf (W.sub _ hc)) ho
    show wpAny _ A.in1 (holding [Value.int (val i) t] (setAdd b (.int (val i) t)) >>= _) _ _ s1
    refine wpAny_bind (wpAny_holding ?_)
    unfold setAdd
    refine wpAny_holding (wpAny_bind ((intKind prog w).pyHash (k := val i) (intKind_is _ _ _ _) ?_))
    have fm := firstMet_length_le val i
    refine add_ris (s := { s1 with toks := s1.toks + 1 }) (intKind_is _ _ _ _) rfl hS1 (by omega) fun h2 sb hS2 => ?_
    have hS3 : SetR prog w h2 b led (fun z => (firstMet val (i + 1)).any (· == z)) (firstMet val (i + 1)).length := by
      have e1 : (fun z => (firstMet val (i + 1)).any (· == z)) = fun y => ((firstMet val i).any (· == y) || decide (y = val i)) := funext fun y => by rw [firstMet_succ, step_any]
      rw [e1, firstMet_succ, step_length]
      exact hS2
    have kept : ∀ c o, c ≠ b → s1.heap.get? c = some o → h2.get? c = some o := fun c o hc e => (sb.2 c hc).trans e
    refine wpAny_pure ⟨plainId_quiet F.plain_set_update_loop _, loop_ris W b hbf val hv hn k (i + 1) _ (by omega) hlt (W.frame _ s1 _ _ st1 (Nat.le_succ _) fun c hc o e => kept c o (fun e' => hbf (e' ▸ hc)) e) hS3 fun s2 m2 hS4 => ?_⟩
    exact q s2 (Moved.trans W.gtrans ((m.mono fun c hc => .tail _ hc).then_heap (Nat.le_succ _) fun c o hc e => kept c o (fun e' => hc (e' ▸ .head _)) e) m2) hS4
end
section
variable {prog : Program} {w : World} {A : Around} {E : Value → Shared → Prop} {s : Shared}
/-- a set that is new, where the order is not by text it is led -/
def freshO (w : World) : Obj := { cls := .type "set", dict := none, data := .set #[] 0 (.fresh 0 0 (!w.params.followText "set-order")) }
theorem new_ris (a : Value) {Q : Value → Shared → Prop} (k : Q (.ref s.heap.objs.size) { s with heap := s.heap.push (freshO w) }) :
    codeAny (model prog w) A (.call (.builtin "set.__new__") ⟨[.type "set", a], []⟩) (wants Q E) s := by
  refine codeAny_of_tree ?_
  show wpAny _ A.in1 (checkBuiltinCall "set.__new__" ⟨[.type "set", a], []⟩ >>= fun _ => again (.builtin "set.__new__" ⟨[.type "set", a], []⟩)) _ _ s
  refine wpAny_bind (wpAny_of_eq (F.newCall_set_1 a) (wpAny_pure ⟨plainId_quiet F.plain_set_new _, codeAny_builtin F.entry_set_new ?_⟩))
  rw [Around.under_plainId F.plain_set_new _]
  have hsub := sub_set_self
  unfold Builtin.«set.__new__» Builtin.Frozenset.newClass
  obtain ⟨hp, g, d, tk, os⟩ := s
  dsimp only
  wp_walk
  refine wpAny_askSetting (wpAny_pure ?_)
  simp only [newObj]
  refine wpAny_bind (wpAny_alloc (wpAny_pure (wpAny_pure k)))
theorem ris_fresh {h : Heap} {a : Addr} (e : h.get? a = some (freshO w)) : SetR prog w h a (!w.params.followText "set-order") (fun z => (firstMet (fun _ => 0) 0).any (· == z)) 0 := by
  refine ⟨_, #[], 0, _, e, ⟨rfl, rfl, rfl⟩, rfl, fun y hy => (by cases hy), fun z => ⟨fun q => (by cases q), fun ⟨y, hy, _⟩ => (by cases hy)⟩, by decide, by simp [SetTable.fits, SetTable.fresh, SetTable.fill], rfl, .nil, rfl⟩
end
end L2

/-! ## the call set(list of ints) -/
namespace L2
open PySem PySem.Spec PyProof.Rows
section
variable {prog : Program} {w : World} {A : Around} {E : Value → Shared → Prop} {s : Shared}
theorem ris_init {l : Addr} {items : Array Value} {ns : List Int} {h0 : Heap} {b : Addr} {Q : Value → Shared → Prop} (hh : A.handled = none) (hb0 : h0.get? b = some (freshO w)) (hl : h0.IsList l items) (hne : l ≠ b) (hi : IntsAre items.toList ns) (hn : items.size + 1 < scanBound)
    (k : ∀ h' tk, SetR prog w h' b (!w.params.followText "set-order") (fun z => (firstMet (fun i => ns.getD i 0) items.size).any (· == z)) (firstMet (fun i => ns.getD i 0) items.size).length → (∀ c o, c ≠ b → h0.get? c = some o → h'.get? c = some o) → Q .none { s with heap := h', toks := tk }) :
    wpAny (model prog w) A.in1 (Builtin.«set.__init__» ⟨[.ref b, .ref l], []⟩) (fun fin s' => match fin with | .done f => wants Q E (.ok f) s' | .again c' => c'.quiet = true ∧ codeAny (model prog w) A c' (wants Q E) s') (fun e s' => wants Q E (.error e) s') { s with heap := h0 } := by
  have hT : Shared.TypeIs { s with heap := h0 } (.ref b) "set" := ⟨_, hb0, rfl⟩
  have hl0 := hl
  obtain ⟨⟨ocls, odict, odata, oslots⟩, hol, hcl, nl, hdl⟩ := hl
  simp only at hcl hdl
  subst hcl hdl
  have q1 := F.sub_list_set
  have q2 := F.sub_list_frozenset
  have q3 : (Value.type "list" == Value.type "dict") = false := by decide
  unfold freshO at hb0
  unfold Builtin.«set.__init__» noKeywords Builtin.Frozenset.updateFrom
  generalize hPI : pyIter = PI
  wp_walk
  subst hPI
  refine wpAny_pyIter_list hl0 ?_
  refine wpAny_bind (wpAny_runValue ?_)
  have ltl : l < h0.objs.size := Heap.lt_size hol
  have ltb : b < h0.objs.size := Heap.lt_size hb0
  have bf : b ∉ [h0.objs.size, l] := fun q => by
    rcases List.mem_cons.mp q with e | e
    · exact Nat.ne_of_lt ltb e
    · exact hne (List.mem_singleton.mp e).symm
  refine loop_ris ((Walks.list (A := A.in1.in1) (by simp [hh]) _ l (Nat.ne_of_lt ltl) items).toS) b bf (led := !w.params.followText "set-order") (fun i => ns.getD i 0) (fun i v hv => IntsAre.int_at hi i v (by rw [Array.getElem?_toList]; exact hv)) hn (items.size - 0) 0 _ (by omega) (Nat.zero_le _)
    ⟨⟨_, Heap.get?_push_size _ rfl, rfl, rfl⟩, hl0.push _⟩ ?_ ?_
  · exact ris_fresh (Heap.get?_push_of_some _ hb0)
  · rintro ⟨h', g', d', tk', os'⟩ m hS
    have e1 : g' = s.gens := m.gens
    have e2 : d' = s.drawn := m.drawn
    have e3 : os' = s.os := m.os
    subst e1 e2 e3
    show wpAny _ _ _ _ _ _
    refine wpAny_pure ?_
    show wpAny _ _ (ret Value.none) _ _ _
    refine wpAny_pure (k h' tk' hS fun c o hc e => m.heap c o (fun q => ?_) (Heap.get?_push_of_some _ e))
    rcases List.mem_cons.mp q with e' | e'
    · exact hc e'
    · exact Nat.ne_of_lt (Heap.lt_size e) (List.mem_singleton.mp e')
set_option maxRecDepth 100000 in
set_option maxHeartbeats 3000000 in
theorem set_ris {l : Addr} {items : Array Value} {ns : List Int} {Q : Value → Shared → Prop} (hh : A.handled = none) (hl : s.heap.IsList l items) (hi : IntsAre items.toList ns) (hn : items.size + 1 < scanBound)
    (k : ∀ h' tk, SetR prog w h' s.heap.objs.size (!w.params.followText "set-order") (fun z => (firstMet (fun i => ns.getD i 0) items.size).any (· == z)) (firstMet (fun i => ns.getD i 0) items.size).length → (∀ c o, s.heap.get? c = some o → h'.get? c = some o) → Q (.ref s.heap.objs.size) { s with heap := h', toks := tk }) :
    wpAny (model prog w) A (call (.type "set") [.ref l]) Q E s := by
  obtain ⟨c, tl, hmro⟩ := F.called_set.mro
  have a1 := F.called_set.made
  have a2 := F.called_set.sub
  have a3 := F.called_set.notType
  have a4 := F.called_set.canCreate
  have a5 := F.typeCall_set_1 (.ref l)
  refine wpAny_call (codeAny_of_tree ?_)
  show wpAny _ _ (callAny (.type "set") _) _ _ _
  refine wpAny_pure ⟨Code.quiet_builtin _ (by decide +kernel), codeAny_builtin F.entry_type_call ?_⟩
  rw [Around.under_plain (weight_type_call_type "set" [.ref l] []) rfl]
  repeat any_goals first | assumption | wp_step
  refine codeAny_mono (new_ris (.ref l) (E := E) (Q := fun ob s1 => ob = .ref s.heap.objs.size ∧ s1 = { s with heap := s.heap.push (freshO w) }) ⟨rfl, rfl⟩) fun r s1 hr => ?_
  match r, hr with
  | .error e, hr => exact hr
  | .ok (.ret ob), hr =>
    obtain ⟨rfl, rfl⟩ := hr
    have hb0 : (s.heap.push (freshO w)).get? s.heap.objs.size = some (freshO w) := Heap.get?_push_size _ rfl
    have hT : Shared.TypeIs { s with heap := s.heap.push (freshO w) } (.ref s.heap.objs.size) "set" := ⟨_, hb0, rfl⟩
    have a6 := F.called_set.init.lookup
    have a7 := F.called_set.init.bind (.ref s.heap.objs.size)
    repeat any_goals first | assumption | wp_step
    have ltl : l < s.heap.objs.size := let ⟨_, e, _⟩ := hl; Heap.lt_size e
    refine codeAny_mono (codeAny_call_builtin (R := wants (fun r s2 => r = .none ∧ Q (.ref s.heap.objs.size) s2) E) F.called_set.init.plain F.entry_set_init (check_set_init_1 hT (ris_init (A := _) (s := s) ?_ hb0 (hl.push _) (Nat.ne_of_lt ltl) hi hn fun h' tk hS kp => ⟨rfl, k h' tk hS fun c o e => kp c o (Nat.ne_of_lt (Heap.lt_size e)) (Heap.get?_push_of_some _ e)⟩))) fun r2 s2 hr2 => ?_
    · simp [hh]
    · match r2, hr2 with
      | .error e, hr2 => exact hr2
      | .ok (.ret v), hr2 =>
        obtain ⟨rfl, q⟩ := hr2
        repeat any_goals first | assumption | wp_step
end
end L2

/-! ## what a set's iterator tells -/
namespace L2
open PySem PySem.Spec PyProof.Rows
theorem si_owner : Manifest.owners.lookup (String.ofList ['r', 'o', 't', 'a', 'r', 'e', 't', 'i', '_', 't', 'e', 's'].reverse) = some Manifest.sig_set_iterator := by kernel_rfl
theorem si_next : PySem.Slot "set_iterator" "__next__" "set_iterator.__next__" :=
  .of (owner := "set_iterator") (n := "__next__") (by rw [typeLookup_type, builtinLookup_eq_fast]; kernel_rfl) (by decide +kernel) (by decide +kernel) (by decide +kernel)
    (by first | exact .inl (by decide +kernel) | exact .inr (by decide +kernel)) (by rw [isSubtype_type]; kernel_rfl)
theorem si_enext : entryFor table "set_iterator.__next__" = some Builtin.«set_iterator.__next__» := entryFor_of_tree (by kernel_rfl)
theorem si_anext (a : Value) : argsOk "set_iterator.__next__" ⟨[a], []⟩ := by
  unfold argsOk; rw [signature?_of (id := "set_iterator.__next__") (n := ['_', '_', 't', 'x', 'e', 'n', '_', '_']) (o := ['r', 'o', 't', 'a', 'r', 'e', 't', 'i', '_', 't', 'e', 's']) (by kernel_rfl) si_owner]; kernel_rfl
theorem si_iter : PySem.Slot "set_iterator" "__iter__" "set_iterator.__iter__" :=
  .of (owner := "set_iterator") (n := "__iter__") (by rw [typeLookup_type, builtinLookup_eq_fast]; kernel_rfl) (by decide +kernel) (by decide +kernel) (by decide +kernel)
    (by first | exact .inl (by decide +kernel) | exact .inr (by decide +kernel)) (by rw [isSubtype_type]; kernel_rfl)
theorem si_aiter (a : Value) : argsOk "set_iterator.__iter__" ⟨[a], []⟩ := by
  unfold argsOk; rw [signature?_of (id := "set_iterator.__iter__") (n := ['_', '_', 'r', 'e', 't', 'i', '_', '_']) (o := ['r', 'o', 't', 'a', 'r', 'e', 't', 'i', '_', 't', 'e', 's']) (by kernel_rfl) si_owner]; kernel_rfl
theorem si_eiter : entryFor table "set_iterator.__iter__" = some Builtin.«dict_keyiterator.__iter__» :=
  entryFor_alias (id' := "dict_keyiterator.__iter__") (by kernel_rfl) (by first | rfl | decide +kernel | (unfold String.splitOn; simp +decide [String.splitOnAux])) (by decide +kernel) (by kernel_rfl)
theorem st_owner : Manifest.owners.lookup (String.ofList ['t', 'e', 's'].reverse) = some Manifest.sig_set := by kernel_rfl
theorem st_iter : PySem.Slot "set" "__iter__" "set.__iter__" :=
  .of (owner := "set") (n := "__iter__") (by rw [typeLookup_type, builtinLookup_eq_fast]; kernel_rfl) (by decide +kernel) (by decide +kernel) (by decide +kernel)
    (by first | exact .inl (by decide +kernel) | exact .inr (by decide +kernel)) (by rw [isSubtype_type]; kernel_rfl)
theorem st_aiter (a : Value) : argsOk "set.__iter__" ⟨[a], []⟩ := by
  unfold argsOk; rw [signature?_of (id := "set.__iter__") (n := ['_', '_', 'r', 'e', 't', 'i', '_', '_']) (o := ['t', 'e', 's']) (by kernel_rfl) st_owner]; kernel_rfl
theorem st_eiter : entryFor table "set.__iter__" = some Builtin.«frozenset.__iter__» :=
  entryFor_alias (id' := "frozenset.__iter__") (by kernel_rfl) (by first | rfl | decide +kernel | (unfold String.splitOn; simp +decide [String.splitOnAux])) (by decide +kernel) (by kernel_rfl)
/-- a set's iterator: what goes first, how many were told, the set, its size and its epoch -/
def IsSi (h : Heap) (I a : Addr) (f : Value) (i n ep : Nat) : Prop := ∃ o, h.get? I = some o ∧ o.cls = .type "set_iterator" ∧ o.data = .fields #[f, rawInt (i : Int), .ref a, rawInt (n : Int), rawInt (ep : Int)]
theorem IsSi.ty {s : Shared} {I a : Addr} {f : Value} {i n ep : Nat} (x : IsSi s.heap I a f i n ep) : s.TypeIs (.ref I) "set_iterator" := let ⟨o, p, q, _⟩ := x; ⟨o, p, q⟩
theorem IsSi.keep {h h' : Heap} {I a : Addr} {f : Value} {i n ep : Nat} (x : IsSi h I a f i n ep) (e : ∀ o, h.get? I = some o → h'.get? I = some o) : IsSi h' I a f i n ep := let ⟨o, p, q⟩ := x; ⟨o, e _ p, q⟩
/-- what a set holds -/
def SetIs (h : Heap) (a : Addr) (es : Array (Int × Value)) (ep : Nat) (t : SetTable) : Prop := ∃ o, h.get? a = some o ∧ o.ExactSet ∧ o.data = .set es ep t
theorem SetIs.keep {h h' : Heap} {a : Addr} {es : Array (Int × Value)} {ep : Nat} {t : SetTable} (x : SetIs h a es ep t) (e : ∀ o, h.get? a = some o → h'.get? a = some o) : SetIs h' a es ep t := let ⟨o, p, q⟩ := x; ⟨o, e _ p, q⟩
section
variable {prog : Program} {w : World} {A : Around} {E : Value → Shared → Prop} {s : Shared}
theorem choose_any {M : Model} {src : Source} {n : Nat} {Q : Nat → Shared → Prop} (hn : n ≠ 0) (k : ∀ i, i < n → ∀ d, Q i { s with drawn := d }) : wpAny M A (choose src n) Q E s :=
  fun Γ p _ => ⟨hn, k _ (Nat.mod_lt _ (Nat.pos_of_ne_zero hn)) _⟩
theorem erase_perm {α : Type} : ∀ {l : List α} {i : Nat} {y : α}, l[i]? = some y → (y :: l.eraseIdx i).Perm l
  | [], _, _, h => by simp at h
  | x :: l, 0, y, h => by
    obtain rfl : x = y := Option.some.inj h
    exact .rfl
  | x :: l, i + 1, y, h => (List.Perm.swap x y (l.eraseIdx i)).trans ((erase_perm (l := l) (i := i) h).cons x)
theorem draw_any {M : Model} {α : Type} : ∀ (n : Nat) (xs : List α) (s : Shared) (Q : List α → Shared → Prop), n = xs.length → (∀ ys d, ys.Perm xs → Q ys { s with drawn := d }) → wpAny M A (drawOrder n xs) Q E s
  | 0, xs, s, Q, h, k => by
    have e : xs = [] := List.length_eq_zero_iff.mp h.symm
    subst e
    exact wpAny_pure (k [] s.drawn .rfl)
  | n + 1, [], s, Q, h, k => by cases h
  | n + 1, x :: xs, s, Q, h, k => by
    show wpAny M A (choose .order (x :: xs).length >>= _) Q E s
    refine wpAny_bind (choose_any (by simp) fun i hi d => ?_)
    obtain ⟨y, hy⟩ : ∃ y, (x :: xs)[i]? = some y := ⟨_, List.getElem?_eq_getElem hi⟩
    rw [hy]
    dsimp only
    refine wpAny_bind (draw_any n ((x :: xs).eraseIdx i) _ _ (by rw [List.length_eraseIdx_of_lt hi]; omega) fun ys d' hp => wpAny_pure (k (y :: ys) d' ?_))
    exact (hp.cons y).trans (erase_perm hy)
theorem pick_perm {α : Type} {f : Nat → Nat} : ∀ (n k : Nat) (l : List α) (out : Array α), n = l.length → (pickOrder.go f n k l out).toList.Perm (out.toList ++ l)
  | 0, k, l, out, h => by
    rw [List.length_eq_zero_iff.mp h.symm, List.append_nil]
    exact .rfl
  | n + 1, k, l, out, h => by
    have hi : f k % l.length < l.length := Nat.mod_lt _ (by omega)
    obtain ⟨y, hy⟩ : ∃ y, l[f k % l.length]? = some y := ⟨_, List.getElem?_eq_getElem hi⟩
    unfold pickOrder.go
    rw [hy]
    dsimp only
    refine (pick_perm n (k + 1) _ _ (by rw [List.length_eraseIdx_of_lt hi]; omega)).trans ?_
    rw [Array.toList_push, List.append_assoc]
    refine List.Perm.append_left _ ?_
    exact erase_perm hy
theorem si_self {I a : Addr} {f : Value} {i n ep : Nat} {Q : Value → Shared → Prop} (hr : IsSi s.heap I a f i n ep) (h : Q (.ref I) s) : wpAny (model prog w) A (pyIter (.ref I)) Q E s := by
  refine wpAny_pyIter_slot hr.ty si_iter (wpAny_call_entry si_iter hr.ty si_eiter ?_ (si_aiter _))
  show wpAny _ _ (ret (.ref I)) _ _ s
  exact wpAny_pure ⟨_, rfl, "set_iterator", _, hr.ty, si_next.lookup, h⟩
end
end L2

/-! ## a set walked through -/
namespace L2
open PySem PySem.Spec PyProof.Rows
section
variable {prog : Program} {w : World} {A : Around} {E : Value → Shared → Prop} {s : Shared}
/-- the steps of setNext: what stands at place i comes, the next slot with it -/
def NextOk (prog : Program) (w : World) (a : Addr) (es : Array (Int × Value)) (ep : Nat) (t : SetTable) (ord : List Value) (sl : Nat → Nat) : Prop :=
  ∀ (A : Around) (E : Value → Shared → Prop) (s : Shared) (i : Nat) (Q : Option (Value × Nat) → Shared → Prop), SetIs s.heap a es ep t → i ≤ ord.length → Q ((ord[i]?).map fun x => (x, sl (i + 1))) s → wpAny (model prog w) A (setNext a (sl i) i ep) Q E s
theorem si_item {I a : Addr} {es : Array (Int × Value)} {ep : Nat} {t : SetTable} {ord : List Value} {sl : Nat → Nat} {i : Nat} {x : Value} {Q : Option Value → Shared → Prop} (hN : NextOk prog w a es ep t ord sl) (hS : SetIs s.heap a es ep t) (hf : t.fits es.size = true) (hi : IsSi s.heap I a (rawInt (sl i : Nat)) i es.size ep) (hx : ord[i]? = some x)
    (k : ∀ h', IsSi h' I a (rawInt (sl (i + 1) : Nat)) (i + 1) es.size ep → Heap.SameBut I s.heap h' → Q (some x) { s with heap := h' }) : wpAny (model prog w) A (pyNext (.ref I)) Q E s := by
  obtain ⟨o, ho, hc, hd⟩ := id hi
  obtain ⟨oa, hoa, hxa, hda⟩ := id hS
  unfold pyNext
  refine wpAny_bind (wpAny_attempt (wpAny_callSpecial?_slot (name := Str.ofString "__next__") hi.ty si_next (wpAny_call_entry si_next hi.ty si_enext ?_ (si_anext _))))
  unfold Builtin.«set_iterator.__next__»
  refine wpAny_bind (wpAny_of_eq (a := (Value.ref I, [])) rfl ?_)
  dsimp only
  refine wpAny_bind (wpAny_fieldsOf ho hd ?_)
  dsimp only [rawInt]
  refine wpAny_bind (wpAny_setEntries_of hoa hda hf ?_)
  rw [if_neg (by simp)]
  rw [Int.toNat_natCast, Int.toNat_natCast, Int.toNat_natCast]
  refine wpAny_bind (hN _ _ s i _ hS (Nat.le_of_lt (List.getElem?_eq_some_iff.mp hx).1) ?_)
  rw [hx]
  dsimp only [Option.map_some]
  refine wpAny_bind (wpAny_setField ho hd (by simp) ?_)
  have ho2 := Heap.get?_update_self (Obj.mapFields (fun vs => vs.setIfInBounds 0 (rawInt (sl (i + 1) : Nat)))) ho (Obj.isFreed_of_fields (Obj.data_mapFields hd _))
  refine wpAny_bind (wpAny_setField ho2 (Obj.data_mapFields hd _) (by simp) ?_)
  refine wpAny_pure ⟨x, rfl, wpAny_pure (k _ ⟨_, Heap.get?_update_self _ ho2 (Obj.isFreed_of_fields (Obj.data_mapFields (Obj.data_mapFields hd _) _)), ?_, ?_⟩ ((Heap.SameBut.update ..).trans (Heap.SameBut.update ..)))⟩
  · rw [Obj.cls_mapFields, Obj.cls_mapFields]; exact hc
  · rw [Obj.data_mapFields (Obj.data_mapFields hd _)]
    simp
    rfl
theorem si_end {I a : Addr} {es : Array (Int × Value)} {ep : Nat} {t : SetTable} {ord : List Value} {sl : Nat → Nat} {Q : Option Value → Shared → Prop} (hh : A.handled = none) (hN : NextOk prog w a es ep t ord sl) (hS : SetIs s.heap a es ep t) (hf : t.fits es.size = true) (hi : IsSi s.heap I a (rawInt (sl ord.length : Nat)) ord.length es.size ep)
    (k : ∀ h', Heap.ExtBut I s.heap h' → Q none { s with heap := h' }) : wpAny (model prog w) A (pyNext (.ref I)) Q E s := by
  obtain ⟨o, ho, hc, hd⟩ := id hi
  obtain ⟨oa, hoa, hxa, hda⟩ := id hS
  unfold pyNext
  refine wpAny_bind (wpAny_attempt (wpAny_callSpecial?_slot (name := Str.ofString "__next__") hi.ty si_next (wpAny_call_entry si_next hi.ty si_enext ?_ (si_anext _))))
  unfold Builtin.«set_iterator.__next__»
  refine wpAny_bind (wpAny_of_eq (a := (Value.ref I, [])) rfl ?_)
  dsimp only
  refine wpAny_bind (wpAny_fieldsOf ho hd ?_)
  dsimp only [rawInt]
  refine wpAny_bind (wpAny_setEntries_of hoa hda hf ?_)
  rw [if_neg (by simp)]
  rw [Int.toNat_natCast, Int.toNat_natCast, Int.toNat_natCast]
  refine wpAny_bind (hN _ _ s ord.length _ hS (Nat.le_refl _) ?_)
  rw [List.getElem?_eq_none (Nat.le_refl _)]
  dsimp only [Option.map_none]
  refine wpAny_bind (wpAny_setField ho hd (by simp) ?_)
  show wpAny _ _ (newExc (.type "StopIteration") [] >>= _) _ _ _
  refine wpAny_bind ?_
  simp only [newExc, newTuple]
  refine wpAny_bind (wpAny_newObj_type ?_ (by size_fits))
  refine wpAny_bind (m := firstArgMember _ _) (wpAny_of_eq (a := Value.none) (by first | rfl | (simp only [firstArgMember]; rfl)) ?_)
  refine wpAny_newObj_type ?_ (by size_fits)
  simp only [raiseNew]
  refine wpAny_bind (wpAny_handled ?_)
  rw [show A.in1.handled = none from hh]
  refine wpAny_bind (wpAny_pure (wpAny_throw ?_))
  refine wpAny_bind (wpAny_isInstance (T := "StopIteration") (b := true) ⟨_, Heap.get?_push_size _ rfl, rfl⟩ isSubtype_stop ?_)
  exact wpAny_pure (k _ ((((Heap.SameBut.update ..).extBut).push _).push _))
theorem si_walks {I a : Addr} {es : Array (Int × Value)} {ep : Nat} {t : SetTable} {ord : List Value} {sl : Nat → Nat} (hh : A.handled = none) (hN : NextOk prog w a es ep t ord sl) (hf : t.fits es.size = true) (hne : a ≠ I) :
    Walks prog w A I [I, a] [I] ord.length (fun i v => ord[i]? = some v) (fun i h => i ≤ ord.length ∧ IsSi h I a (rawInt (sl i : Nat)) i es.size ep ∧ SetIs h a es ep t) where
  sub := fun b hb => List.mem_cons.mpr (.inl (List.mem_singleton.mp hb))
  frame := fun _ _ _ x hk => ⟨x.1, x.2.1.keep fun o e => hk I (by simp) o e, x.2.2.keep fun o e => hk a (by simp) o e⟩
  item := fun i s Q E hi ⟨_, x1, x2⟩ hQ => by
    have hx : ord[i]? = some (ord[i]'hi) := List.getElem?_eq_getElem hi
    exact si_item hN x2 hf x1 hx fun h' y hs => hQ _ h' s.toks hx ⟨hi, y, x2.keep fun o e => (hs.2 a hne).trans e⟩ fun b o hb eo => hs.extBut b o (fun e => hb (by simp [e])) eo
  done := fun s Q E ⟨_, x1, x2⟩ hQ => si_end hh hN x2 hf x1 fun h' he => hQ h' s.toks fun b o hb eo => he b o (fun e => hb (by simp [e])) eo
  self := fun _ _ _ _ x hQ => si_self x.2.1 hQ
/-- not by text, led: along the table -/
theorem next_led {a : Addr} {es : Array (Int × Value)} {ep : Nat} {t : SetTable} (hf : t.fits es.size = true) (hr : Ris t) (hb : w.params.followText "set-order" = false) (hl : t.led = true) (hd : (!t.plain && decide (es.size > 1)) = false) :
    NextOk prog w a es ep t (es.toList.map (·.2)) (fun i => if i = 0 then 0 else (t.place.getD (i - 1) 0) + 1) := by
  intro A E s i Q ⟨o, ho, hx, hda⟩ hi q
  have hps : t.place.size = es.size := by
    unfold SetTable.fits at hf
    simp only [Bool.and_eq_true, beq_iff_eq] at hf
    exact hf.1
  rw [List.length_map, Array.length_toList] at hi
  unfold setNext
  refine wpAny_bind (wpAny_setState_of ho hda hf ?_)
  dsimp only
  refine wpAny_bind ?_
  unfold setsByText
  refine wpAny_bind (wpAny_askSetting (wpAny_pure ?_))
  show wpAny _ _ (if (w.params.followText "set-order") = true then _ else _) _ _ _
  rw [if_neg (by rw [hb]; decide)]
  show wpAny _ _ (if (!t.plain && decide (es.size > 1)) = true then _ else _) _ _ _
  rw [if_neg (by rw [hd]; decide)]
  refine wpAny_bind ?_
  show wpAny _ _ (if (!t.led && !es.isEmpty) = true then _ else _) _ _ _
  rw [if_neg (by rw [hl]; simp)]
  refine wpAny_pure ?_
  have eb : SetTable.below t.place (if i = 0 then 0 else (t.place.getD (i - 1) 0) + 1) = i := by
    by_cases c : i = 0
    · rw [if_pos c, c]
      exact below_zero hr
    · rw [if_neg c]
      obtain ⟨v, hv⟩ : ∃ v, t.place[i - 1]? = some v := ⟨_, Array.getElem?_eq_getElem (by omega)⟩
      have e : t.place.getD (i - 1) 0 = v := by rw [Array.getD_eq_getD_getElem?, hv]; rfl
      rw [e, below_next hr hv]
      omega
  rw [eb]
  refine wpAny_pure ?_
  by_cases c : i < es.size
  · obtain ⟨v, hv⟩ : ∃ v, t.place[i]? = some v := ⟨_, Array.getElem?_eq_getElem (by omega)⟩
    obtain ⟨y, hy⟩ : ∃ y, es[i]? = some y := ⟨_, Array.getElem?_eq_getElem c⟩
    have e : t.place.getD i 0 = v := by rw [Array.getD_eq_getD_getElem?, hv]; rfl
    rw [List.getElem?_map, Array.getElem?_toList, hy] at q
    rw [hv, hy]
    simp only [Option.map_some, Nat.add_sub_cancel, e, if_neg (Nat.succ_ne_zero i)] at q
    exact q
  · have e1 : es[i]? = none := Array.getElem?_eq_none (by omega)
    rw [List.getElem?_map, Array.getElem?_toList, e1] at q
    rw [e1]
    exact q
/-- by text: as the order is picked -/
theorem next_text {a : Addr} {es : Array (Int × Value)} {ep : Nat} {t : SetTable} (hf : t.fits es.size = true) (hb : w.params.followText "set-order" = true) :
    NextOk prog w a es ep t ((pickOrder (w.params.setOrder a ep) es).toList.map (·.2)) (fun _ => 0) := by
  intro A E s i Q ⟨o, ho, hx, hda⟩ hi q
  unfold setNext
  refine wpAny_bind (wpAny_setState_of ho hda hf ?_)
  dsimp only
  refine wpAny_bind ?_
  unfold setsByText
  refine wpAny_bind (wpAny_askSetting (wpAny_pure ?_))
  show wpAny _ _ (if (w.params.followText "set-order") = true then _ else _) _ _ _
  rw [if_pos hb, if_neg (by simp)]
  refine wpAny_bind ?_
  unfold setWalk
  refine wpAny_bind (wpAny_setState_of ho hda hf ?_)
  dsimp only
  refine wpAny_bind ?_
  unfold setsByText
  refine wpAny_bind (wpAny_askSetting (wpAny_pure ?_))
  show wpAny _ _ (if (w.params.followText "set-order") = true then _ else _) _ _ _
  rw [if_pos hb]
  refine wpAny_bind (wpAny_askSetting (wpAny_pure ?_))
  rw [List.getElem?_map, Array.getElem?_toList, Option.map_map] at q
  exact wpAny_pure q
end
end L2

/-! ## a set walked through in a drawn order; its iterator made -/
namespace L2
open PySem PySem.Spec PyProof.Rows
section
variable {prog : Program} {w : World} {A : Around} {E : Value → Shared → Prop} {s : Shared}
def IsPl (h : Heap) (b : Addr) (pl : List Nat) : Prop := ∃ o n, h.get? b = some o ∧ o.data = .seq (pl.map fun (i : Nat) => rawInt (i : Int)).toArray n
theorem IsPl.keep {h h' : Heap} {b : Addr} {pl : List Nat} (x : IsPl h b pl) (e : ∀ o, h.get? b = some o → h'.get? b = some o) : IsPl h' b pl := let ⟨o, n, p, q⟩ := x; ⟨o, n, e _ p, q⟩
theorem sd_item {I a b : Addr} {es : Array (Int × Value)} {ep : Nat} {t : SetTable} {pl : List Nat} {i j : Nat} {x : Int × Value} {Q : Option Value → Shared → Prop} (hS : SetIs s.heap a es ep t) (hf : t.fits es.size = true) (hi : IsSi s.heap I a (.ref b) i es.size ep) (hb : IsPl s.heap b pl) (hj : pl[i]? = some j) (hx : es[j]? = some x)
    (k : ∀ h', IsSi h' I a (.ref b) (i + 1) es.size ep → Heap.SameBut I s.heap h' → Q (some x.2) { s with heap := h' }) : wpAny (model prog w) A (pyNext (.ref I)) Q E s := by
  obtain ⟨o, ho, hc, hd⟩ := id hi
  obtain ⟨oa, hoa, hxa, hda⟩ := id hS
  obtain ⟨ob, nb, hob, hdb⟩ := hb
  unfold pyNext
  refine wpAny_bind (wpAny_attempt (wpAny_callSpecial?_slot (name := Str.ofString "__next__") hi.ty si_next (wpAny_call_entry si_next hi.ty si_enext ?_ (si_anext _))))
  unfold Builtin.«set_iterator.__next__»
  refine wpAny_bind (wpAny_of_eq (a := (Value.ref I, [])) rfl ?_)
  dsimp only
  refine wpAny_bind (wpAny_fieldsOf ho hd ?_)
  dsimp only [rawInt]
  refine wpAny_bind (wpAny_setEntries_of hoa hda hf ?_)
  rw [if_neg (by simp)]
  refine wpAny_bind (wpAny_seqItems hob hdb ?_)
  dsimp only
  have e : (pl.map fun (i : Nat) => rawInt (i : Int)).toArray[(i : Int).toNat]? = some (.int (j : Int) 0) := by rw [Int.toNat_natCast, List.getElem?_toArray, List.getElem?_map, hj]; rfl
  rw [e]
  dsimp only
  rw [Int.toNat_natCast, Int.toNat_natCast]
  refine wpAny_bind ?_
  unfold setNextDrawn
  refine wpAny_bind (wpAny_setState_of hoa hda hf ?_)
  dsimp only
  rw [if_neg (by simp), hx]
  refine wpAny_pure ?_
  refine wpAny_bind (wpAny_setField ho hd (by simp) ?_)
  refine wpAny_pure ⟨x.2, rfl, wpAny_pure (k _ ⟨_, Heap.get?_update_self _ ho (Obj.isFreed_of_fields (Obj.data_mapFields hd _)), ?_, ?_⟩ (Heap.SameBut.update ..))⟩
  · rw [Obj.cls_mapFields]; exact hc
  · rw [Obj.data_mapFields hd]
    simp
    rfl
theorem sd_end {I a b : Addr} {es : Array (Int × Value)} {ep : Nat} {t : SetTable} {pl : List Nat} {Q : Option Value → Shared → Prop} (hh : A.handled = none) (hS : SetIs s.heap a es ep t) (hf : t.fits es.size = true) (hi : IsSi s.heap I a (.ref b) pl.length es.size ep) (hb : IsPl s.heap b pl)
    (k : ∀ h', Heap.ExtBut I s.heap h' → Q none { s with heap := h' }) : wpAny (model prog w) A (pyNext (.ref I)) Q E s := by
  obtain ⟨o, ho, hc, hd⟩ := id hi
  obtain ⟨oa, hoa, hxa, hda⟩ := id hS
  obtain ⟨ob, nb, hob, hdb⟩ := hb
  unfold pyNext
  refine wpAny_bind (wpAny_attempt (wpAny_callSpecial?_slot (name := Str.ofString "__next__") hi.ty si_next (wpAny_call_entry si_next hi.ty si_enext ?_ (si_anext _))))
  unfold Builtin.«set_iterator.__next__»
  refine wpAny_bind (wpAny_of_eq (a := (Value.ref I, [])) rfl ?_)
  dsimp only
  refine wpAny_bind (wpAny_fieldsOf ho hd ?_)
  dsimp only [rawInt]
  refine wpAny_bind (wpAny_setEntries_of hoa hda hf ?_)
  rw [if_neg (by simp)]
  refine wpAny_bind (wpAny_seqItems hob hdb ?_)
  dsimp only
  have e : (pl.map fun (i : Nat) => rawInt (i : Int)).toArray[(pl.length : Int).toNat]? = none := by rw [Int.toNat_natCast, List.getElem?_toArray]; exact List.getElem?_eq_none (by simp)
  rw [e]
  dsimp only
  refine wpAny_bind (wpAny_setField ho hd (by simp) ?_)
  have ho2 := Heap.get?_update_self (Obj.mapFields (fun vs => vs.setIfInBounds 0 (rawInt 0))) ho (Obj.isFreed_of_fields (Obj.data_mapFields hd _))
  refine wpAny_bind (wpAny_setField ho2 (Obj.data_mapFields hd _) (by simp) ?_)
  show wpAny _ _ (newExc (.type "StopIteration") [] >>= _) _ _ _
  refine wpAny_bind ?_
  simp only [newExc, newTuple]
  refine wpAny_bind (wpAny_newObj_type ?_ (by size_fits))
  refine wpAny_bind (m := firstArgMember _ _) (wpAny_of_eq (a := Value.none) (by first | rfl | (simp only [firstArgMember]; rfl)) ?_)
  refine wpAny_newObj_type ?_ (by size_fits)
  simp only [raiseNew]
  refine wpAny_bind (wpAny_handled ?_)
  rw [show A.in1.handled = none from hh]
  refine wpAny_bind (wpAny_pure (wpAny_throw ?_))
  refine wpAny_bind (wpAny_isInstance (T := "StopIteration") (b := true) ⟨_, Heap.get?_push_size _ rfl, rfl⟩ isSubtype_stop ?_)
  exact wpAny_pure (k _ (((((Heap.SameBut.update ..).trans (Heap.SameBut.update ..)).extBut).push _).push _))
theorem sd_walks {I a b : Addr} {es : Array (Int × Value)} {ep : Nat} {t : SetTable} {pl : List Nat} (hh : A.handled = none) (hp : pl.Perm (List.range es.size)) (hf : t.fits es.size = true) (hne : a ≠ I) (hnb : b ≠ I) :
    Walks prog w A I [I, a, b] [I] pl.length (fun i v => (pl.filterMap fun j => (es[j]?).map (·.2))[i]? = some v) (fun i h => i ≤ pl.length ∧ IsSi h I a (.ref b) i es.size ep ∧ SetIs h a es ep t ∧ IsPl h b pl) where
  sub := fun c hc => List.mem_cons.mpr (.inl (List.mem_singleton.mp hc))
  frame := fun _ _ _ x hk => ⟨x.1, x.2.1.keep fun o e => hk I (by simp) o e, x.2.2.1.keep fun o e => hk a (by simp) o e, x.2.2.2.keep fun o e => hk b (by simp) o e⟩
  item := fun i s Q E hi ⟨_, x1, x2, x3⟩ hQ => by
    have hj : pl[i]? = some (pl[i]'hi) := List.getElem?_eq_getElem hi
    have hlt := List.mem_range.mp (hp.mem_iff.mp (List.mem_of_getElem? hj))
    have hx : es[pl[i]'hi]? = some (es[pl[i]'hi]'hlt) := Array.getElem?_eq_getElem hlt
    have fm : ∀ (l : List Nat), (∀ j ∈ l, j < es.size) → l.filterMap (fun j => (es[j]?).map (·.2)) = l.map fun j => (es.getD j (0, .none)).2 := fun l hl => by
      induction l with
      | nil => rfl
      | cons y l ih =>
        have hy := hl y List.mem_cons_self
        rw [List.filterMap_cons, List.map_cons, ih fun j h => hl j (List.mem_cons_of_mem _ h), Array.getElem?_eq_getElem hy, Array.getD_eq_getD_getElem?, Array.getElem?_eq_getElem hy]
        rfl
    have hv : (pl.filterMap fun j => (es[j]?).map (·.2))[i]? = some (es[pl[i]'hi]'hlt).2 := by
      rw [fm pl fun j hj => List.mem_range.mp (hp.mem_iff.mp hj), List.getElem?_map, hj, Option.map_some, Array.getD_eq_getD_getElem?, hx]
      rfl
    exact sd_item x2 hf x1 x3 hj hx fun h' y hs => hQ _ h' s.toks hv ⟨hi, y, x2.keep fun o e => (hs.2 a hne).trans e, x3.keep fun o e => (hs.2 b hnb).trans e⟩ fun c o hc eo => hs.extBut c o (fun e => hc (by simp [e])) eo
  done := fun s Q E ⟨_, x1, x2, x3⟩ hQ => sd_end hh x2 hf x1 x3 fun h' he => hQ h' s.toks fun c o hc eo => he c o (fun e => hc (by simp [e])) eo
  self := fun _ _ _ _ x hQ => si_self x.2.1 hQ
end
end L2

/-! ## sorted(set of ints) -/
namespace L2
open PySem PySem.Spec PyProof.Rows
section
variable {prog : Program} {w : World} {A B : Around} {E : Value → Shared → Prop} {s : Shared}
theorem SetIs.ty {a : Addr} {es : Array (Int × Value)} {ep : Nat} {t : SetTable} (x : SetIs s.heap a es ep t) : s.TypeIs (.ref a) "set" := let ⟨o, p, q, _⟩ := x; ⟨o, p, q.1⟩
theorem set_iter {a : Addr} {es : Array (Int × Value)} {ep : Nat} {t : SetTable} {Q : Value → Shared → Prop} (hh : A.handled = none) (hS : SetIs s.heap a es ep t) (hf : t.fits es.size = true) (hr : Ris t) (hl : t.led = !w.params.followText "set-order") (hz : es.size ≤ sizeLine)
    (k : ∀ (I : Addr) (h' : Heap) d (ord : List Value) (fp : List Addr) (St : Nat → Heap → Prop), ord.Perm (es.toList.map (·.2)) → Walks prog w A I fp [I] ord.length (fun i v => ord[i]? = some v) St → St 0 h' → (∀ b ∈ fp, b < h'.objs.size ∧ (b = a ∨ s.heap.objs.size ≤ b)) → I ∈ fp → s.heap.objs.size ≤ I → (∀ c o, s.heap.get? c = some o → h'.get? c = some o) → Q (.ref I) { s with heap := h', drawn := d }) :
    wpAny (model prog w) B (pyIter (.ref a)) Q E s := by
  obtain ⟨o, ho, hx, hd⟩ := id hS
  have lta : a < s.heap.objs.size := Heap.lt_size ho
  refine wpAny_pyIter_slot hS.ty st_iter (wpAny_call_entry st_iter hS.ty st_eiter ?_ (st_aiter _))
  unfold Builtin.«frozenset.__iter__»
  refine wpAny_bind (wpAny_of_eq (a := a) rfl ?_)
  refine wpAny_bind ?_
  unfold Builtin.Frozenset.sizeOf
  refine wpAny_bind (wpAny_setEntries_of ho hd hf (wpAny_pure ?_))
  refine wpAny_bind ?_
  unfold setDrawn
  refine wpAny_bind (wpAny_setState_of ho hd hf ?_)
  dsimp only
  refine wpAny_bind ?_
  unfold setsByText
  refine wpAny_bind (wpAny_askSetting (wpAny_pure (wpAny_pure ?_)))
  -- where the first thing is a number
  have num : ∀ (ord : List Value) (sl : Nat → Nat), sl 0 = 0 → NextOk prog w a es ep t ord sl → ord.Perm (es.toList.map (·.2)) → wpAny (model prog w) B.in1 (pure (rawInt 0) >>= fun first => setEpoch a >>= fun e => newFields "set_iterator" [first, rawInt 0, .ref a, rawInt (es.size : Int), rawInt (e : Int)] >>= fun it => ret it)
      (fun fin s' => ∃ v, fin = Fin.done (Flow.ret v) ∧ ∃ T' r, s'.TypeIs v T' ∧ typeLookup (Value.type T') (Str.ofString "__next__") = pure (some r) ∧ Q v s') E s := fun ord sl h0 hN hp => by
    refine wpAny_bind (wpAny_pure (wpAny_bind (wpAny_setEpoch_of ho hd hf (wpAny_bind ?_))))
    unfold newFields
    refine wpAny_newObj_type ?_ (by size_fits)
    have hI : IsSi (s.heap.push { cls := .type "set_iterator", data := .fields [rawInt 0, rawInt 0, .ref a, rawInt (es.size : Int), rawInt (ep : Int)].toArray }) s.heap.objs.size a (rawInt (sl 0 : Nat)) 0 es.size ep := ⟨_, Heap.get?_push_size _ rfl, rfl, by rw [h0]; rfl⟩
    refine wpAny_pure ⟨_, rfl, "set_iterator", _, IsSi.ty (s := { s with heap := _ }) hI, si_next.lookup, ?_⟩
    have ne : a ≠ s.heap.objs.size := Nat.ne_of_lt lta
    refine k _ _ s.drawn ord _ _ hp (si_walks hh hN hf ne) ⟨Nat.zero_le _, hI, hS.keep fun o e => Heap.get?_push_of_some _ e⟩ (fun b hb => ?_) (by simp) (Nat.le_refl _) fun c o e => Heap.get?_push_of_some _ e
    rw [Heap.size_push]
    rcases List.mem_cons.mp hb with e | e
    · rw [e]; exact ⟨Nat.lt_succ_self _, .inr (Nat.le_refl _)⟩
    · rw [List.mem_singleton.mp e]; exact ⟨Nat.lt_succ_of_lt lta, .inl rfl⟩
  by_cases hb : w.params.followText "set-order" = true
  · rw [if_neg (by show ¬ (!w.params.followText "set-order" && _) = true; rw [hb]; simp)]
    refine num _ (fun _ => 0) rfl (next_text hf hb) ?_
    have := pick_perm (f := w.params.setOrder a ep) es.size 0 es.toList #[] (by rw [Array.length_toList])
    exact this.map _
  · have hb' : w.params.followText "set-order" = false := by simpa using hb
    rw [hb'] at hl
    by_cases c : (!t.plain && decide (es.size > 1)) = true
    · rw [if_pos (by show (!w.params.followText "set-order" && (!t.plain && decide (es.size > 1))) = true; rw [hb', c]; rfl)]
      refine wpAny_bind (draw_any es.size (List.range es.size) s _ (by rw [List.length_range]) fun pl d hp => ?_)
      have hpl : pl.length = es.size := by rw [hp.length_eq, List.length_range]
      refine wpAny_bind (wpAny_newTuple ?_ (by rw [List.length_map, hpl]; exact hz))
      have hoS : ∀ (h : Heap) o, h.get? a = some o → (h.push { cls := .type "tuple", data := .seq (List.map (fun i => rawInt ((i : Nat) : Int)) pl).toArray }).get? a = some o := fun h o e => Heap.get?_push_of_some _ e
      refine wpAny_bind (wpAny_setEpoch_of (hoS s.heap o ho) hd hf (wpAny_bind ?_))
      unfold newFields
      refine wpAny_newObj_type ?_ (by size_fits)
      have ne : a ≠ s.heap.objs.size := Nat.ne_of_lt lta
      generalize hh1 : s.heap.push { cls := .type "tuple", data := .seq (List.map (fun i => rawInt ((i : Nat) : Int)) pl).toArray } = h1
      have s1 : h1.objs.size = s.heap.objs.size + 1 := by rw [← hh1]; exact Heap.size_push ..
      have old1 : ∀ c o, s.heap.get? c = some o → h1.get? c = some o := fun c o e => by rw [← hh1]; exact Heap.get?_push_of_some _ e
      have hP1 : IsPl h1 s.heap.objs.size pl := by rw [← hh1]; exact ⟨_, 0, Heap.get?_push_size _ rfl, rfl⟩
      have hI : IsSi (h1.push { cls := .type "set_iterator", data := .fields [Value.ref s.heap.objs.size, rawInt 0, .ref a, rawInt (es.size : Int), rawInt (ep : Int)].toArray }) h1.objs.size a (.ref s.heap.objs.size) 0 es.size ep := ⟨_, Heap.get?_push_size _ rfl, rfl, rfl⟩
      refine wpAny_pure ⟨_, rfl, "set_iterator", _, IsSi.ty (s := { s with heap := _, drawn := d }) hI, si_next.lookup, ?_⟩
      have hord : (pl.filterMap fun j => (es[j]?).map (·.2)).Perm (es.toList.map (·.2)) := by
        refine (hp.filterMap _).trans ?_
        rw [← filterMap_getElem?_range es, List.map_filterMap]
      have hol : (pl.filterMap fun j => (es[j]?).map (·.2)).length = pl.length := by rw [hord.length_eq, List.length_map, Array.length_toList, hpl]
      have W := sd_walks (prog := prog) (w := w) (A := A) (I := h1.objs.size) (a := a) (b := s.heap.objs.size) (es := es) (ep := ep) (t := t) hh hp hf (by rw [s1]; exact Nat.ne_of_lt (Nat.lt_succ_of_lt lta)) (by rw [s1]; exact Nat.ne_of_lt (Nat.lt_succ_self _))
      rw [← hol] at W
      refine k _ _ d _ _ _ hord W ⟨Nat.zero_le _, hI, hS.keep fun o e => Heap.get?_push_of_some _ (old1 _ o e), hP1.keep fun o e => Heap.get?_push_of_some _ e⟩ (fun b hb => ?_) (by simp) (by rw [s1]; exact Nat.le_succ _) fun c o e => Heap.get?_push_of_some _ (old1 c o e)
      rw [Heap.size_push, s1]
      rcases List.mem_cons.mp hb with e | e
      · rw [e, s1]; exact ⟨Nat.lt_succ_self _, .inr (Nat.le_succ _)⟩
      · rcases List.mem_cons.mp e with e | e
        · rw [e]; exact ⟨Nat.lt_succ_of_lt (Nat.lt_succ_of_lt lta), .inl rfl⟩
        · rw [List.mem_singleton.mp e]; exact ⟨Nat.lt_succ_of_lt (Nat.lt_succ_self _), .inr (Nat.le_refl _)⟩
    · have c' : (!t.plain && decide (es.size > 1)) = false := by simpa using c
      rw [if_neg (by show ¬ (!w.params.followText "set-order" && (!t.plain && decide (es.size > 1))) = true; rw [c']; simp)]
      exact num _ _ rfl (next_led hf hr hb' hl c') .rfl
end
end L2

/-! ## a set's items as a list; sorted(set of ints) -/
namespace L2
open PySem PySem.Spec PyProof.Rows
theorem st_len : typeLookup (.type "set") "__len__" = pure (some (.builtin "set.__len__")) := by rw [typeLookup_type, builtinLookup_eq_fast]; kernel_rfl
section
variable {prog : Program} {w : World} {A : Around} {E : Value → Shared → Prop} {s : Shared}
theorem st_hint {r : Addr} {Q : Bool → Shared → Prop} (hT : s.TypeIs (.ref r) "set") (h : Q false s) : wpAny (model prog w) A (Builtin.List.listLengthHint (.ref r)) Q E s := by
  unfold Builtin.List.listLengthHint
  refine wpAny_bind (wpAny_specialOf hT st_len ?_)
  generalize hid : ("set.__len__" : String) = id0
  wp_delta
  rw [show splitId id0 = some ("set", "__len__") from by subst hid; decide +kernel]
  subst hid
  refine wpAny_bind (wpAny_isInstance (T := "set") (b := true) hT sub_set_self ?_)
  show wpAny _ A (typeOf (Value.ref r) >>= _) _ _ _
  exact wpAny_bind (wpAny_typeOf (T := "set") hT (wpAny_pure h))
theorem collect_set {a : Addr} {es : Array (Int × Value)} {ep : Nat} {t : SetTable} {Q : List Value → Shared → Prop} (hh : A.handled = none) (hS : SetIs s.heap a es ep t) (hf : t.fits es.size = true) (hr : Ris t) (hl : t.led = !w.params.followText "set-order") (hz : es.size ≤ sizeLine)
    (k : ∀ (out : List Value) h' tk d, out.Perm (es.toList.map (·.2)) → s.heap.objs.size ≤ h'.objs.size → (∀ c o, s.heap.get? c = some o → h'.get? c = some o) → Q out { s with heap := h', toks := tk, drawn := d }) : wpAny (model prog w) A (collect (.ref a)) Q E s := by
  have hL1 : (s.heap.push (seqObj "list" #[] 0)).get? s.heap.objs.size = some (seqObj "list" #[] 0) := Heap.get?_push_size _ rfl
  have hS1 : SetIs (s.heap.push (seqObj "list" #[] 0)) a es ep t := hS.keep fun o e => Heap.get?_push_of_some _ e
  have lta : a < s.heap.objs.size := let ⟨_, e, _⟩ := hS; Heap.lt_size e
  unfold collect
  refine wpAny_bind (wpAny_runValue (codeAny_builtin entry_proto_collect' ?_))
  show wpAny _ _ (newList [] >>= fun v => again (.builtin "list.__iadd__" ⟨[v, .ref a], []⟩)) _ _ s
  refine wpAny_bind (wpAny_newList (wpAny_pure ⟨Code.quiet_builtin _ (by decide +kernel), codeAny_builtin entry_list_iadd' ?_⟩))
  show wpAny _ _ (Builtin.List.listExtendWith (.ref s.heap.objs.size) (.ref a) (.ref s.heap.objs.size)) _ _ { s with heap := s.heap.push (seqObj "list" #[] 0) }
  unfold Builtin.List.listExtendWith
  refine wpAny_bind (wpAny_typeOf (T := "set") (SetIs.ty (s := { s with heap := s.heap.push (seqObj "list" #[] 0) }) hS1) ?_)
  have e1 : Builtin.List.listSameRef (.ref s.heap.objs.size) (.ref a) = false := by
    show (s.heap.objs.size == a) = false
    exact beq_false_of_ne (Nat.ne_of_gt lta)
  rw [if_neg (by rw [e1]; decide)]
  refine wpAny_bind (set_iter (A := A.in1) (by simp [hh]) hS1 hf hr hl hz fun I h' d ord fp St hord W st0 hfp hI hge kp => ?_)
  have hT' : Shared.TypeIs { s with heap := h', drawn := d } (.ref a) "set" := SetIs.ty (s := { s with heap := h', drawn := d }) (hS1.keep fun o e => kp a o e)
  refine wpAny_bind (wpAny_holding (st_hint hT' ?_))
  rw [if_pos (by decide +kernel)]
  have hL2 := kp _ _ hL1
  refine wpAny_bind (wpAny_rule (wpAny_bind ?_))
  unfold Builtin.List.listTouch
  refine wpAny_bind (listUpdate_at (xs := #[]) (n := 0) hL2 rfl ?_ (Nat.zero_le _) (by show 1 ≤ sizeLine + 1; omega))
  have hL3 := Heap.get?_update_self (Obj.mapSeq (·.push Value.none)) hL2 rfl
  refine listUpdate_at (xs := #[].push Value.none) (n := 1) hL3 rfl ?_ (by show 1 ≤ sizeLine; decide) (by show 0 ≤ sizeLine + 1; omega)
  have hL4 := Heap.get?_update_self (Obj.mapSeq Array.pop) hL3 rfl
  have old : ∀ c o, c ≠ s.heap.objs.size → h'.get? c = some o → ((h'.update s.heap.objs.size (Obj.mapSeq (·.push Value.none))).update s.heap.objs.size (Obj.mapSeq Array.pop)).get? c = some o := fun c o hc e => by
    rw [Heap.get?_update_other _ _ (Ne.symm hc), Heap.get?_update_other _ _ (Ne.symm hc)]
    exact e
  generalize (h'.update s.heap.objs.size (Obj.mapSeq (·.push Value.none))).update s.heap.objs.size (Obj.mapSeq Array.pop) = h4 at *
  have hSf : s.heap.objs.size ∉ fp := fun q => by
    rcases (hfp _ q).2 with e | e
    · exact Nat.ne_of_gt lta e
    · rw [show ({ s with heap := s.heap.push (seqObj "list" #[] 0) } : Shared).heap.objs.size = s.heap.objs.size + 1 from Heap.size_push ..] at e
      exact Nat.not_succ_le_self _ e
  have lenO : ord.length = es.size := by rw [hord.length_eq, List.length_map, Array.length_toList]
  refine wpAny_pure ⟨plainId_quiet PySem.F.plain_extend_loop _, codeAny_extend_loopS W.toS (by rw [lenO]; exact hz) s.heap.objs.size hSf _ ord.length 0 _ #[] _ rfl (Nat.zero_le _) (W.frame 0 _ _ st0 fun b hb o e => old b o (fun q => hSf (q ▸ hb)) e) hL4 (ItemsOf.nil _) fun s2 acc c m hL5 hacc => ?_⟩
  have eo : acc.toList = ord := by
    refine List.ext_getElem? fun i => ?_
    rw [Array.getElem?_toList]
    by_cases hi : i < ord.length
    · have q : acc[i]? = some (acc[i]'(by rw [hacc.1]; exact hi)) := Array.getElem?_eq_getElem _
      rw [q, hacc.2 i _ q]
    · rw [List.getElem?_eq_none (by omega), Array.getElem?_eq_none (by rw [hacc.1]; omega)]
  show wpAny _ A (load s.heap.objs.size >>= _) Q E s2
  refine wpAny_bind (wpAny_load hL5 ?_)
  refine wpAny_pure ?_
  rw [eo, Moved.eq_with m]
  refine k ord s2.heap s2.toks d hord (Nat.le_of_lt (Heap.lt_size hL5)) fun c o e => ?_
  have lt := Heap.lt_size e
  refine m.heap c o (fun q => ?_) (old c o (Nat.ne_of_lt lt) (kp c o (Heap.get?_push_of_some _ e)))
  rcases List.mem_cons.mp q with e' | e'
  · exact Nat.ne_of_lt lt e'
  · rw [List.mem_singleton.mp e'] at lt
    have := Nat.lt_of_lt_of_le lt (Nat.le_trans (Nat.le_succ _) (Heap.size_push .. ▸ hge))
    exact Nat.lt_irrefl _ this
end
end L2

/-! ## sorted(set(list of ints)) -/
namespace L2
open PySem PySem.Spec PyProof.Rows
theorem perm_of_len {m : List Int} : ∀ {l : List Int}, m.Nodup → l.length = m.length → (∀ x ∈ m, x ∈ l) → l.Perm m := by
  induction m with
  | nil => intro l _ h _; rw [List.length_eq_zero_iff.mp h]
  | cons x m ih =>
    intro l hn hl hs
    have hx := hs x List.mem_cons_self
    have hn' := List.nodup_cons.mp hn
    refine (List.perm_cons_erase hx).trans ((ih hn'.2 (by rw [List.length_erase_of_mem hx, hl]; rfl) fun y hy => ?_).cons x)
    have ne : y ≠ x := fun e => hn'.1 (by rw [← e]; exact hy)
    exact (List.mem_erase_of_ne ne).mpr (hs y (List.mem_cons_of_mem _ hy))
theorem ints_perm {us vs : List Value} (p : us.Perm vs) : ∀ {ns : List Int}, IntsAre vs ns → ∃ ms, IntsAre us ms ∧ ms.Perm ns := by
  induction p with
  | nil => intro ns h; exact ⟨ns, h, .rfl⟩
  | cons x _ ih =>
    intro ns h
    cases h with
    | cons n t h =>
      obtain ⟨ms, h1, h2⟩ := ih h
      exact ⟨n :: ms, .cons n t h1, h2.cons n⟩
  | swap x y l =>
    intro ns h
    cases h with
    | cons n t h =>
      cases h with
      | cons m u h => exact ⟨m :: n :: _, .cons m u (.cons n t h), .swap n m _⟩
  | trans _ _ ih1 ih2 =>
    intro ns h
    obtain ⟨ms, h1, h2⟩ := ih2 h
    obtain ⟨ls, h3, h4⟩ := ih1 h1
    exact ⟨ls, h3, h4.trans h2⟩
theorem ints_len {vs : List Value} {ns : List Int} (h : IntsAre vs ns) : vs.length = ns.length := by
  induction h with
  | nil => rfl
  | cons n t _ ih => rw [List.length_cons, List.length_cons, ih]
theorem seen_nodup (val : Nat → Int) : ∀ i, (firstMet val i).Nodup
  | 0 => .nil
  | i + 1 => by
    rw [firstMet_succ]
    unfold step_dedup
    split
    · exact seen_nodup val i
    · rename_i h
      refine List.nodup_append.mpr ⟨seen_nodup val i, by simp, fun a ha b hb e => ?_⟩
      rw [List.mem_singleton.mp hb] at e
      exact h (List.any_eq_true.mpr ⟨a, ha, by rw [e]; simp⟩)
section
variable {prog : Program} {w : World} {A : Around} {E : Value → Shared → Prop} {s : Shared}
/-- the ints that a set's entries hold -/
theorem ints_entries : ∀ {l : List (Int × Value)}, ElemsOf (intKind prog w) l → ∃ ms, IntsAre (l.map (·.2)) ms ∧ ∀ z, z ∈ ms ↔ ∃ y ∈ l, (intKind prog w).is z y.2 = true
  | [], _ => ⟨[], .nil, fun z => ⟨fun h => (by cases h), fun ⟨y, h, _⟩ => (by cases h)⟩⟩
  | y :: l, h => by
    obtain ⟨ms, h1, h2⟩ := ints_entries h.tail
    obtain ⟨⟨z, hz, _⟩, _⟩ := h.head
    obtain ⟨hy, v⟩ := y
    obtain ⟨u, rfl⟩ := Value.isInt_shape (show Value.isInt z v = true from hz)
    refine ⟨z :: ms, .cons z u h1, fun x => ?_⟩
    rw [List.mem_cons, h2]
    constructor
    · rintro (e | ⟨y, hy, q⟩)
      · exact ⟨_, List.mem_cons_self, e ▸ hz⟩
      · exact ⟨y, List.mem_cons_of_mem _ hy, q⟩
    · rintro ⟨y, hy, q⟩
      rcases List.mem_cons.mp hy with e | e
      · rw [e] at q
        exact .inl ((intKind prog w).inj _ _ _ q hz)
      · exact .inr ⟨y, e, q⟩
theorem sorted_set {a : Addr} {led : Bool} {S : Int → Bool} {n : Nat} {Q : Value → Shared → Prop} (hh : A.handled = none) (hS : SetR prog w s.heap a (!w.params.followText "set-order") S n) (h64 : n < 64)
    (k : ∀ (ms : List Int) (out : List Value) r h' tk d c, IntsAre out ms → ms.Pairwise (· ≤ ·) → ms.length = n → (∀ z, z ∈ ms ↔ S z = true) → s.heap.objs.size ≤ r → h'.get? r = some (seqObj "list" out.toArray c) → (∀ c o, s.heap.get? c = some o → h'.get? c = some o) → Q (.ref r) { s with heap := h', toks := tk, drawn := d }) :
    wpAny (model prog w) A (call (.builtin "sorted") [.ref a]) Q E s := by
  obtain ⟨o, es, ep, t, ho, hx, hd, he, hm, hb, hf, hn, hr, hl⟩ := hS
  obtain ⟨ns, hI, hmem⟩ := ints_entries he
  have hsl : sizeLine = 16777216 := sizeLine_eq
  refine Calls.call_function_entry kind_sorted plain_sorted entry_sorted (args_sorted1 _) ?_
  unfold Builtin.«sorted»
  refine wpAny_bind (m := checkCount "sorted" 1 1 _) (wpAny_pure ?_)
  refine wpAny_bind (collect_set (A := A.in1) (by simp [hh]) ⟨o, ho, hx, hd⟩ hf hr hl (by omega) fun out h1 tk d hp hge kp => ?_)
  obtain ⟨ls, hI2, hp2⟩ := ints_perm hp hI
  have lo := ints_len hI2
  have ll : ls.length = n := by rw [← lo, hp.length_eq, List.length_map, Array.length_toList, hn]
  refine wpAny_bind (wpAny_newList ?_)
  have hL : (h1.push (seqObj "list" out.toArray 0)).get? h1.objs.size = some (seqObj "list" out.toArray 0) := Heap.get?_push_size _ rfl
  refine wpAny_bind (wpAny_holding (wpAny_call_entry slot_list_sort ⟨_, hL, rfl⟩ entry_list_sort (list_sort_tree hL hI2 (by omega) fun res ms b1 b2 b3 => ⟨_, rfl, ?_⟩) (args_list_sort _)))
  obtain ⟨c, hc⟩ := sortedHeap_at (out := res) hL
  refine wpAny_pure ⟨_, rfl, k ms res.toList h1.objs.size _ tk d c b1 b3 (by rw [b2.length_eq, ll]) (fun z => by rw [b2.mem_iff, hp2.mem_iff, hmem, hm]) hge (by rw [Array.toArray_toList]; exact hc) fun b ob e => ?_⟩
  have lt := Heap.lt_size (kp b ob e)
  rw [sortedHeap_old (Nat.ne_of_lt lt) (by rw [size_push']; exact Nat.lt_succ_of_lt lt)]
  exact Heap.get?_push_of_some _ (kp b ob e)
end
section
variable {X : Cx} {p p2 pos pos2 : Pos} {e : Expr} {t : TA}
/-- what is drawn does not matter -/
theorem Inv.drew {X : Cx} {pins : List (Addr × Obj)} {σ : St} {H : Hp} {s : Shared} (I : Inv X pins σ H s) (d : Drawn) : Inv X pins σ H { s with drawn := d } :=
  I.step (g' := s.gens) (d' := d) (t' := s.toks) (h' := s.heap) (ch := []) (fun b hb => (by cases hb)) (fun b o _ _ _ q _ => q) (fun b o _ _ _ q _ => ⟨o.slots, q⟩) (fun b o _ _ n => n) (fun b o _ q => ⟨o, q⟩) (fun b xs q => q) (fun b o u q => q) (fun b ps q => ⟨#[], by rw [q]; simp⟩) (fun m hm => hm) I.hok I.bare
/-- sorted(set(e)), e a list of ints -/
def tSortedSet (K : PySem.W.Frag) (t : TA) : TE := fun σ H Q => t σ H fun vs H1 => ∃ (a : Addr) (ns : List Int), vs = [.ref a] ∧ SqL K H1 a (ns.map V.int) ∧ ns.length < 64 ∧ ∀ ms : List Int, ms.Pairwise (· < ·) → (∀ z, z ∈ ms ↔ z ∈ ns) → ∀ l, H1 l = none → Q (.ref l) (upd H1 l (.lst (ms.map V.int)))
theorem pe_sortedSet (K : PySem.W.Frag) (hc : X.calm = true) (g1 : Gl X "sorted") (m1 : X.mg "sorted" = none) (g2 : Gl X "set") (m2 : X.mg "set" = none) (ha : PA X [e] t) (hk : X.K = K := by rfl)
    (he : starEach [e] X.env = [(false, eval e X.env)] := by rfl)
    (he2 : starEach [.Call (.Name "set" p2) [e] [] pos2] X.env = [(false, eval (.Call (.Name "set" p2) [e] [] pos2) X.env)] := by rfl) :
    PE X (.Call (.Name "sorted" p) [.Call (.Name "set" p2) [e] [] pos2] [] pos) (tSortedSet K t) := by
  subst hk
  intro pins s σ H Q I h
  refine wpAny_Call_Name_kw (ld_blt I g1 m1 Boot.«sorted» ?_)
  refine PyProof.Rows.callWith_builtin1 ?_ (by rw [he2]; rfl) rfl
  rw [he2]
  show wpAny _ _ (spliced ((false, eval (.Call (.Name "set" p2) [e] [] pos2) X.env) :: backTo pos [])) _ _ s
  refine Calls.spliced_cons ?_
  refine wpAny_Call_Name_kw (ld_blt I g2 m2 Boot.«set» ?_)
  refine PyProof.Rows.callWith_type1 (thn (ha pos2 pins s σ H _ I h) fun us s1 ⟨vs, H1, I1, r1, q1⟩ => ?_) (by rw [he]; rfl) rfl
  obtain ⟨a, ns, rfl, hq, hn, q⟩ := q1
  obtain ⟨u, rfl, ru⟩ := vals1 r1
  obtain rfl : u = Value.ref a := ru
  obtain ⟨its, rv, pl, hz⟩ := I1.list hq
  have hi := ints_of_vals rv
  have el : its.toArray.size = ns.length := by rw [List.size_toArray, ← rv.length, List.length_map]
  have sb : scanBound = 4096 := rfl
  refine set_ris (I.ok.hd hc) pl.isList (ns := ns) (by simpa using hi) (by omega) fun h2 tk hS kp => ?_
  refine Calls.spliced_nil ?_
  have fl := firstMet_length_le (fun i => ns.getD i 0) its.toArray.size
  refine sorted_set (led := true) (s := { s1 with heap := h2, toks := tk }) (I.ok.hd hc) hS (by omega) fun ms out r h3 tk3 d c hI hs hl hmem hge hr kp3 => ?_
  have em : ∀ z, z ∈ ms ↔ z ∈ ns := fun z => by
    rw [hmem, firstMet_any, el]
    have e1 : (List.range ns.length).map (fun i => ns.getD i 0) = ns := by
      refine List.ext_getElem? fun i => ?_
      rw [List.getElem?_map]
      by_cases c : i < ns.length
      · rw [List.getElem?_range c, List.getElem?_eq_getElem c, Option.map_some, List.getD_eq_getElem?_getD, List.getElem?_eq_getElem c]
        rfl
      · rw [List.getElem?_eq_none (by rw [List.length_range]; omega), List.getElem?_eq_none (by omega)]
        rfl
    rw [e1]
    simp
  have hnd : ms.Nodup := (perm_of_len (seen_nodup _ _) hl fun x hx => (hmem x).mpr (List.any_eq_true.mpr ⟨x, hx, by simp⟩)).nodup_iff.mpr (seen_nodup _ _)
  have hlt : s1.heap.objs.size ≤ h2.objs.size := let ⟨_, _, _, _, e, _⟩ := hS; Nat.le_of_lt (Heap.lt_size e)
  have hge2 : s1.heap.objs.size ≤ r := Nat.le_trans hlt hge
  have hml : ms.length ≤ ns.length := by rw [hl, ← el]; exact fl
  have I2 := (I1.laid (o := .lst (ms.map V.int)) (h' := h3) (t' := tk3) (fun b o e => kp3 b o (kp b o e)) hge2 ⟨by rw [List.length_map]; have : sizeLine = 16777216 := sizeLine_eq; omega, out, c, vals_of_ints hI, hr⟩).drew d
  exact ⟨.ref r, _, I2, rfl, q ms (My.srt_strict hs hnd) em r (I1.hok.fresh hge2)⟩
end
end L2

/-! ## pieces drawn together: trees with some ties and without others -/
namespace My
open PySem L2
theorem contr_conn {A B : List (Nat × Nat)} {f g : Nat → Nat} {N k : Nat} (hf : ∀ i j, i < N → j < N → (f i = f j ↔ Conn A i j)) (hk : ∀ i, i < N → f i < k) (hg : ∀ a, a < k → g a < N ∧ f (g a) = a) (hA : InN N A) (hB : InN N B) :
    (∀ i j, i < N → j < N → Conn (A ++ B) i j) ↔ ∀ a b, a < k → b < k → Conn (B.map fun e => (f e.1, f e.2)) a b := by
  have gi : ∀ i, i < N → Conn A (g (f i)) i := fun i hi => by
    obtain ⟨h1, h2⟩ := hg (f i) (hk i hi)
    exact (hf _ _ h1 hi).mp h2
  constructor
  · intro c a b ha hb
    obtain ⟨a1, a2⟩ := hg a ha
    obtain ⟨b1, b2⟩ := hg b hb
    have q := (c (g a) (g b) a1 b1).image (f := f) (fs := B.map fun e => (f e.1, f e.2)) fun e he => by
      rcases List.mem_append.mp he with q | q
      · obtain ⟨e1, e2⟩ := hA e q
        rw [(hf _ _ e1 e2).mpr (.edge q)]
        exact .refl _
      · exact .edge (List.mem_map.mpr ⟨e, q, rfl⟩)
    rw [a2, b2] at q
    exact q
  · intro c i j hi hj
    have up : ∀ {i j : Nat}, Conn A i j → Conn (A ++ B) i j := fun q => q.mono fun e he => List.mem_append_left _ he
    have q := (c (f i) (f j) (hk i hi) (hk j hj)).image (f := g) (fs := A ++ B) fun e he => by
      obtain ⟨d, hd, rfl⟩ := List.mem_map.mp he
      obtain ⟨d1, d2⟩ := hB d hd
      exact (up (gi _ d1)).trans ((Conn.edge (List.mem_append_right _ hd)).trans (up (gi _ d2)).symm)
    exact (up (gi i hi)).symm.trans (q.trans (up (gi j hj)))
/-- how many trees have the ties of I and none of O -/
def PC (n : Int) (ps : List (Int × Int)) (I O : List Int) (c : Nat) : Prop := ∃ L : List (List Int), L.Nodup ∧ (∀ l, l ∈ L ↔ IsTree n ps l ∧ (∀ z ∈ I, z ∈ l) ∧ ∀ z ∈ O, z ∉ l) ∧ L.length = c
/-- the ties that are left free -/
def freT (m : Nat) (gone : List Int) : List Int := (rgL m).filter fun z => decide (z ∉ gone)
theorem freT_mem {m : Nat} {gone : List Int} {z : Int} : z ∈ freT m gone ↔ (0 ≤ z ∧ z < (m : Int)) ∧ z ∉ gone := by
  unfold freT
  rw [List.mem_filter, decide_eq_true_iff, rgL_mem]
theorem freT_asc (m : Nat) (gone : List Int) : (freT m gone).Pairwise (· < ·) := (isSet_iff.mp (rgL_set m)).2.filter _
/-- the free ties, their ends by the pieces' numbers -/
def conW (f : Nat → Nat) (ps : List (Int × Int)) (R : List Int) : List (Int × Int) := R.map fun z => ((f (endOf ps z).1 : Int), (f (endOf ps z).2 : Int))
/-- the ties that some of the free ones are -/
def upR (R : List Int) (S : List Int) : List Int := S.map fun t => R.getD t.toNat 0
theorem upR_asc {R S : List Int} (hR : R.Pairwise (· < ·)) (hS : IsSet R.length S) : (upR R S).Pairwise (· < ·) := by
  obtain ⟨a1, a2⟩ := isSet_iff.mp hS
  refine List.pairwise_map.mpr (a2.imp_of_mem fun {a b} ha hb hab => ?_)
  have h1 := a1 a ha
  have h2 := a1 b hb
  rw [List.getD_eq_getElem?_getD, List.getD_eq_getElem?_getD, List.getElem?_eq_getElem (by omega), List.getElem?_eq_getElem (by omega)]
  exact List.pairwise_iff_getElem.mp hR a.toNat b.toNat (by omega) (by omega) (by omega)
theorem upR_mem {R S : List Int} (hS : IsSet R.length S) {z : Int} (h : z ∈ upR R S) : z ∈ R := by
  obtain ⟨t, ht, rfl⟩ := List.mem_map.mp h
  have h1 := hS.all t ht
  rw [List.getD_eq_getElem?_getD, List.getElem?_eq_getElem (by omega)]
  exact List.getElem_mem _
theorem con_ends {f : Nat → Nat} {ps : List (Int × Int)} {R S : List Int} (hS : IsSet R.length S) : endsOf (conW f ps R) S = (endsOf ps (upR R S)).map fun e => (f e.1, f e.2) := by
  unfold endsOf upR
  rw [List.map_map, List.map_map]
  refine List.map_congr_left fun t ht => ?_
  have h1 := hS.all t ht
  have e : (conW f ps R).getD t.toNat (0, 0) = ((f (endOf ps (R.getD t.toNat 0)).1 : Int), (f (endOf ps (R.getD t.toNat 0)).2 : Int)) := by
    unfold conW
    rw [List.getD_eq_getElem?_getD, List.getElem?_map, List.getD_eq_getElem?_getD, List.getElem?_eq_getElem (by omega)]
    rfl
  rw [e]
  rfl
/-- the tree that they make with those inside -/
def backT (m : Nat) (I R S : List Int) : List Int := (rgL m).filter fun z => decide (z ∈ I ∨ z ∈ upR R S)
theorem backT_asc (m : Nat) (I R S : List Int) : (backT m I R S).Pairwise (· < ·) := (isSet_iff.mp (rgL_set m)).2.filter _
theorem backT_mem {m : Nat} {I R S : List Int} {z : Int} : z ∈ backT m I R S ↔ (0 ≤ z ∧ z < (m : Int)) ∧ (z ∈ I ∨ z ∈ upR R S) := by
  unfold backT
  rw [List.mem_filter, decide_eq_true_iff, rgL_mem]
section
variable {n : Int} {ps : List (Int × Int)} {I O S : List Int} {f g : Nat → Nat} {k : Nat}
theorem backT_perm (hI : IsSet ps.length I) (hS : IsSet (freT ps.length (I ++ O)).length S) : (backT ps.length I (freT ps.length (I ++ O)) S).Perm (I ++ upR (freT ps.length (I ++ O)) S) := by
  have ua := upR_asc (freT_asc ps.length (I ++ O)) hS
  refine (List.perm_ext_iff_of_nodup (lt_nodup (backT_asc _ _ _ _)) (List.nodup_append.mpr ⟨hI.nodup, lt_nodup ua, fun a ha b hb e => ?_⟩)).mpr fun z => ?_
  · have := (freT_mem.mp (upR_mem hS hb)).2
    exact this (List.mem_append_left _ (e ▸ ha))
  · rw [backT_mem, List.mem_append]
    refine ⟨fun h => h.2, fun h => ⟨?_, h⟩⟩
    rcases h with q | q
    · exact hI.all z q
    · exact (freT_mem.mp (upR_mem hS q)).1
theorem con_tree (g0 : GoodW n ps) (hI : IsSet ps.length I) (hf : ∀ i j, i < n.toNat → j < n.toNat → (f i = f j ↔ Conn (endsOf ps I) i j)) (hk : ∀ i, i < n.toNat → f i < k) (hg : ∀ a, a < k → g a < n.toNat ∧ f (g a) = a) (hS : IsSet (freT ps.length (I ++ O)).length S) :
    ((∀ i j, i < n.toNat → j < n.toNat → Conn (endsOf ps (backT ps.length I (freT ps.length (I ++ O)) S)) i j) ↔ ∀ a b, a < k → b < k → Conn (endsOf (conW f ps (freT ps.length (I ++ O))) S) a b) := by
  have hp := backT_perm (O := O) hI hS
  have hA := ends_in (ns := I) g0 hI.all
  have hB := ends_in (ns := upR (freT ps.length (I ++ O)) S) g0 fun z hz => (freT_mem.mp (upR_mem hS hz)).1
  have e : endsOf ps (I ++ upR (freT ps.length (I ++ O)) S) = endsOf ps I ++ endsOf ps (upR (freT ps.length (I ++ O)) S) := by unfold endsOf; exact List.map_append
  rw [con_ends hS, ← contr_conn hf hk hg hA hB, ← e]
  exact ⟨fun c i j hi hj => (conn_perm fun z => hp.mem_iff).mp (c i j hi hj), fun c i j hi hj => (conn_perm fun z => hp.mem_iff).mpr (c i j hi hj)⟩
/-- a tree with those inside and none of those outside, by its free ties -/
theorem downT {T : List Int} (hI : IsSet ps.length I) (hT : IsSet ps.length T) (h1 : ∀ z ∈ I, z ∈ T) (h2 : ∀ z ∈ O, z ∉ T) : ∃ S, IsSet (freT ps.length (I ++ O)).length S ∧ T = backT ps.length I (freT ps.length (I ++ O)) S := by
  refine ⟨(rgL (freT ps.length (I ++ O)).length).filter fun t => decide ((freT ps.length (I ++ O)).getD t.toNat 0 ∈ T), isSet_iff.mpr ⟨fun t ht => rgL_mem.mp (List.mem_filter.mp ht).1, (isSet_iff.mp (rgL_set _)).2.filter _⟩, asc_ext (isSet_iff.mp hT).2 (backT_asc _ _ _ _) fun z => ?_⟩
  rw [backT_mem]
  constructor
  · intro hz
    refine ⟨hT.all z hz, ?_⟩
    by_cases c : z ∈ I
    · exact .inl c
    · right
      have hR : z ∈ freT ps.length (I ++ O) := freT_mem.mpr ⟨hT.all z hz, fun q => by
        rcases List.mem_append.mp q with q | q
        · exact c q
        · exact h2 z q hz⟩
      obtain ⟨t, ht⟩ := List.getElem?_of_mem hR
      have e : (freT ps.length (I ++ O)).getD ((t : Int)).toNat 0 = z := by rw [Int.toNat_natCast]; exact getD_of ht
      refine List.mem_map.mpr ⟨(t : Int), List.mem_filter.mpr ⟨rgL_mem.mpr ⟨by omega, by have := (List.getElem?_eq_some_iff.mp ht).1; omega⟩, decide_eq_true (by rw [e]; exact hz)⟩, e⟩
  · rintro ⟨_, q | q⟩
    · exact h1 z q
    · obtain ⟨t, ht, rfl⟩ := List.mem_map.mp q
      exact of_decide_eq_true (List.mem_filter.mp ht).2
theorem backT_inj {S' : List Int} (hS : IsSet (freT ps.length (I ++ O)).length S) (hS' : IsSet (freT ps.length (I ++ O)).length S') (e : backT ps.length I (freT ps.length (I ++ O)) S = backT ps.length I (freT ps.length (I ++ O)) S') : S = S' := by
  have key : ∀ {A B : List Int}, IsSet (freT ps.length (I ++ O)).length A → IsSet (freT ps.length (I ++ O)).length B → backT ps.length I (freT ps.length (I ++ O)) A = backT ps.length I (freT ps.length (I ++ O)) B → ∀ t, t ∈ A → t ∈ B := fun {A B} hA hB e t ht => by
    have h1 := hA.all t ht
    have hm : (freT ps.length (I ++ O)).getD t.toNat 0 ∈ upR (freT ps.length (I ++ O)) A := List.mem_map.mpr ⟨t, ht, rfl⟩
    have hR := freT_mem.mp (upR_mem hA hm)
    have h2 : (freT ps.length (I ++ O)).getD t.toNat 0 ∈ backT ps.length I (freT ps.length (I ++ O)) B := e ▸ backT_mem.mpr ⟨hR.1, .inr hm⟩
    rcases (backT_mem.mp h2).2 with q | q
    · exact absurd (List.mem_append_left _ q) hR.2
    · obtain ⟨u, hu, e2⟩ := List.mem_map.mp q
      have h3 := hB.all u hu
      rw [List.getD_eq_getElem?_getD, List.getD_eq_getElem?_getD, List.getElem?_eq_getElem (by omega), List.getElem?_eq_getElem (by omega)] at e2
      have := nodup_get (lt_nodup (freT_asc ps.length (I ++ O))) (i := u.toNat) (j := t.toNat) (List.getElem?_eq_getElem (by omega)) (by rw [List.getElem?_eq_getElem (by omega)]; exact congrArg some e2.symm)
      have e3 : u = t := by omega
      exact e3 ▸ hu
  exact asc_ext (isSet_iff.mp hS).2 (isSet_iff.mp hS').2 fun t => ⟨key hS hS' e t, key hS' hS e.symm t⟩
theorem con_len (f : Nat → Nat) (ps : List (Int × Int)) (R : List Int) : (conW f ps R).length = R.length := List.length_map ..
theorem pc_of (g0 : GoodW n ps) (hI : IsSet ps.length I) (hIO : ∀ z ∈ I, z ∉ O) (hf : ∀ i j, i < n.toNat → j < n.toNat → (f i = f j ↔ Conn (endsOf ps I) i j)) (hk : ∀ i, i < n.toNat → f i < k) (hg : ∀ a, a < k → g a < n.toNat ∧ f (g a) = a) (hn : (k : Int) + (I.length : Int) = n) {c : Nat} (h : TC k (conW f ps (freT ps.length (I ++ O))) c) : PC n ps I O c := by
  obtain ⟨L, h1, h2, h3⟩ := h
  have hs : ∀ l ∈ L, IsSet (freT ps.length (I ++ O)).length l := fun l hl => con_len f ps _ ▸ ((h2 l).mp hl).1
  have len : ∀ {S : List Int}, IsSet (freT ps.length (I ++ O)).length S → (backT ps.length I (freT ps.length (I ++ O)) S).length = I.length + S.length := fun {S} hS => by
    rw [(backT_perm hI hS).length_eq, List.length_append]
    unfold upR
    rw [List.length_map]
  have iff : ∀ {S : List Int}, IsSet (freT ps.length (I ++ O)).length S → (IsTree n ps (backT ps.length I (freT ps.length (I ++ O)) S) ↔ IsTree k (conW f ps (freT ps.length (I ++ O))) S) := fun {S} hS => by
    have l := len hS
    have q := con_tree (O := O) g0 hI hf hk hg hS
    constructor
    · rintro ⟨a1, a2, a3⟩
      exact ⟨by rw [con_len]; exact hS, by omega, fun a b ha hb => q.mp a3 a b (by omega) (by omega)⟩
    · rintro ⟨a1, a2, a3⟩
      exact ⟨isSet_iff.mpr ⟨fun z hz => (backT_mem.mp hz).1, backT_asc _ _ _ _⟩, by omega, q.mpr fun a b ha hb => a3 a b (by omega) (by omega)⟩
  refine ⟨L.map (backT ps.length I (freT ps.length (I ++ O))), List.pairwise_map.mpr (h1.imp_of_mem fun {a b} ha hb hab e => hab (backT_inj (hs a ha) (hs b hb) e)), fun T => ?_, by rw [List.length_map, h3]⟩
  rw [List.mem_map]
  constructor
  · rintro ⟨S, hS, rfl⟩
    refine ⟨(iff (hs S hS)).mpr ((h2 S).mp hS), fun z hz => backT_mem.mpr ⟨hI.all z hz, .inl hz⟩, fun z hz q => ?_⟩
    rcases (backT_mem.mp q).2 with q | q
    · exact hIO z q hz
    · exact (freT_mem.mp (upR_mem (hs S hS) q)).2 (List.mem_append_right _ hz)
  · rintro ⟨hT, q1, q2⟩
    obtain ⟨S, hS, rfl⟩ := downT hI hT.1 q1 q2
    exact ⟨S, (h2 S).mpr ((iff hS).mp hT), rfl⟩
theorem con_good (g0 : GoodW n ps) (gone : List Int) (hk : ∀ i, i < n.toNat → f i < k) (k1 : 1 ≤ k) (kn : k ≤ n.toNat) : GoodW k (conW f ps (freT ps.length gone)) := by
  obtain ⟨g1, g2, g3, g4⟩ := g0
  refine ⟨by omega, by omega, ?_, fun p hp => ?_⟩
  · rw [con_len]
    have : (freT ps.length gone).length ≤ (rgL ps.length).length := List.length_filter_le ..
    have := (rgL_set ps.length).len
    omega
  · obtain ⟨z, hz, rfl⟩ := List.mem_map.mp hp
    have hz1 := (freT_mem.mp hz).1
    obtain ⟨q, hq⟩ : ∃ q, ps[z.toNat]? = some q := ⟨_, List.getElem?_eq_getElem (by omega)⟩
    obtain ⟨e1, e2, e3, e4⟩ := g4 q (List.mem_of_getElem? hq)
    have ee : endOf ps z = (q.1.toNat, q.2.toNat) := by unfold endOf; rw [getD_of hq]
    rw [ee]
    have a := hk q.1.toNat (by omega)
    have b := hk q.2.toNat (by omega)
    exact ⟨by show (0 : Int) ≤ (f q.1.toNat : Int); omega, by show (f q.1.toNat : Int) < (k : Int); omega, by show (0 : Int) ≤ (f q.2.toNat : Int); omega, by show (f q.2.toNat : Int) < (k : Int); omega⟩
theorem pc_zero (g0 : GoodW n ps) (hI : IsSet ps.length I) (hf : ∀ i j, i < n.toNat → j < n.toNat → (f i = f j ↔ Conn (endsOf ps I) i j)) (hk : ∀ i, i < n.toNat → f i < k) (hg : ∀ a, a < k → g a < n.toNat ∧ f (g a) = a) (k1 : 1 ≤ k) (kn : k ≤ n.toNat) (hn : n < (k : Int) + (I.length : Int)) : PC n ps I O 0 := by
  refine ⟨[], .nil, fun T => ⟨fun h => (by cases h), fun ⟨hT, q1, q2⟩ => ?_⟩, rfl⟩
  obtain ⟨S, hS, rfl⟩ := downT hI hT.1 q1 q2
  have q := (con_tree (O := O) g0 hI hf hk hg hS).mp hT.2.2
  have gg := con_good (f := f) g0 (I ++ O) hk k1 kn
  have l := conn_len gg (by rw [con_len]; exact hS) fun a b ha hb => q a b (by omega) (by omega)
  have l2 := hT.2.1
  rw [(backT_perm hI hS).length_eq, List.length_append] at l2
  unfold upR at l2
  rw [List.length_map] at l2
  omega
end
end My

/-! ## marks numbered in their order -/
namespace My
open PySem L2
/-- where z stands -/
def nix : List Int → Int → Nat
  | [], _ => 0
  | x :: l, z => if x = z then 0 else nix l z + 1
theorem nix_get : ∀ {l : List Int} {z : Int}, z ∈ l → l[nix l z]? = some z
  | x :: l, z, h => by
    unfold nix
    by_cases c : x = z
    · rw [if_pos c, c]; rfl
    · rw [if_neg c]
      exact nix_get ((List.mem_cons.mp h).resolve_left fun e => c e.symm)
theorem nix_lt {l : List Int} {z : Int} (h : z ∈ l) : nix l z < l.length := (List.getElem?_eq_some_iff.mp (nix_get h)).1
theorem nix_inj {l : List Int} {z y : Int} (hz : z ∈ l) (hy : y ∈ l) : nix l z = nix l y ↔ z = y := by
  refine ⟨fun e => ?_, fun e => by rw [e]⟩
  have h1 := nix_get hz
  rw [e, nix_get hy] at h1
  exact (Option.some.inj h1).symm
theorem nix_at {l : List Int} (hn : l.Nodup) {i : Nat} {z : Int} (h : l[i]? = some z) : nix l z = i := nodup_get hn (nix_get (List.mem_of_getElem? h)) h
theorem mk_mem {M : List Int} {i : Nat} (h : i < M.length) : mk M i ∈ M := by
  unfold mk
  rw [List.getD_eq_getElem?_getD, List.getElem?_eq_getElem h]
  exact List.getElem_mem h
section
variable {N : Nat} {es : List (Nat × Nat)} {F : List Int}
theorem marks_fg (h : InN N es) (hF : F.Pairwise (· < ·)) (hm : ∀ z, z ∈ F ↔ z ∈ pms N es) :
    ∃ g : Nat → Nat, (∀ i j, i < N → j < N → (nix F (mk (pms N es) i) = nix F (mk (pms N es) j) ↔ Conn es i j)) ∧ (∀ i, i < N → nix F (mk (pms N es) i) < F.length) ∧ ∀ a, a < F.length → g a < N ∧ nix F (mk (pms N es) (g a)) = a := by
  have hl := pms_length N es
  have inF : ∀ i, i < N → mk (pms N es) i ∈ F := fun i hi => (hm _).mpr (mk_mem (by omega))
  have ex : ∀ a, ∃ i, a < F.length → i < N ∧ nix F (mk (pms N es) i) = a := fun a => by
    by_cases c : a < F.length
    · have q := (hm _).mp (List.getElem_mem c)
      obtain ⟨i, hi⟩ := List.getElem?_of_mem q
      have hi2 := (List.getElem?_eq_some_iff.mp hi).1
      refine ⟨i, fun _ => ⟨by omega, ?_⟩⟩
      have e : mk (pms N es) i = F[a] := by unfold mk; exact getD_of hi
      rw [e]
      exact nix_at (lt_nodup hF) (List.getElem?_eq_getElem c)
    · exact ⟨0, fun h => absurd h c⟩
  refine ⟨fun a => Classical.choose (ex a), fun i j hi hj => ?_, fun i hi => nix_lt (inF i hi), fun a ha => Classical.choose_spec (ex a) ha⟩
  rw [nix_inj (inF i hi) (inF j hj)]
  exact pms_iff h hi hj
theorem first_ex {M : List Int} : ∀ (i : Nat), ∃ p, p ≤ i ∧ fstB M p = true ∧ mk M p = mk M i := by
  intro i
  induction i using Nat.strongRecOn with
  | _ i ih =>
    by_cases c : fstB M i = true
    · exact ⟨i, Nat.le_refl _, c, rfl⟩
    · obtain ⟨j, hj, e⟩ : ∃ j, j < i ∧ mk M j = mk M i := Classical.byContradiction fun no => c (fstB_iff.mpr fun j hj e => no ⟨j, hj, e⟩)
      obtain ⟨p, h1, h2, h3⟩ := ih j hj
      exact ⟨p, by omega, h2, h3.trans e⟩
theorem first_len {M : List Int} (hF : F.Pairwise (· < ·)) (hm : ∀ z, z ∈ F ↔ z ∈ M) : F.length = cnt M := by
  have e : F.Perm ((fstA M M.length).map (mk M)) := by
    refine (List.perm_ext_iff_of_nodup (lt_nodup hF) ?_).mpr fun z => ?_
    · refine List.pairwise_map.mpr ?_
      unfold fstA
      refine (List.pairwise_lt_range.filter (fstB M)).imp_of_mem fun {a b} ha hb hab => ?_
      exact fstB_iff.mp (List.mem_filter.mp hb).2 a hab
    · rw [hm, List.mem_map]
      constructor
      · intro hz
        obtain ⟨i, hi⟩ := List.getElem?_of_mem hz
        have hi2 := (List.getElem?_eq_some_iff.mp hi).1
        obtain ⟨p, h1, h2, h3⟩ := first_ex (M := M) i
        refine ⟨p, List.mem_filter.mpr ⟨List.mem_range.mpr (by omega), h2⟩, h3.trans ?_⟩
        unfold mk
        exact getD_of hi
      · rintro ⟨p, hp, rfl⟩
        exact mk_mem (List.mem_range.mp (List.mem_filter.mp hp).1)
  rw [e.length_eq, List.length_map]
  rfl
theorem first_bounds (h : InN N es) (hN : 1 ≤ N) (hF : F.Pairwise (· < ·)) (hm : ∀ z, z ∈ F ↔ z ∈ pms N es) : 1 ≤ F.length ∧ F.length ≤ N ∧ N ≤ F.length + es.length := by
  have e := first_len hF hm
  have hl := pms_length N es
  have e2 := cnt_same (same_pms (n := N) (es := es) h)
  have e3 := cnt_lms es h
  have e4 := cnt_pos (M := pms N es) (by omega)
  have e5 : cnt (pms N es) ≤ N := by
    unfold cnt fstA
    refine Nat.le_trans (List.length_filter_le ..) ?_
    rw [List.length_range]
    omega
  omega
end
end My

/-! ## counts with and without, when a tie is left out or drawn together -/
namespace My
open PySem L2
theorem pc_common {n : Int} {ps : List (Int × Int)} {z : Int} {I O : List Int} (h1 : z ∈ I) (h2 : z ∈ O) : PC n ps I O 0 :=
  ⟨[], .nil, fun T => ⟨fun h => (by cases h), fun ⟨_, q, r⟩ => absurd (q z h1) (r z h2)⟩, rfl⟩
end My

/-! ## counts that meet: by one tie, over all ties, turned about -/
namespace My
open PySem L2
theorem pc_split {n : Int} {ps : List (Int × Int)} {t : Int} {I O : List Int} {a b : Nat} (h1 : PC n ps (t :: I) O a) (h2 : PC n ps I (t :: O) b) : PC n ps I O (a + b) := by
  obtain ⟨L, l1, l2, l3⟩ := h1
  obtain ⟨M, m1, m2, m3⟩ := h2
  refine ⟨L ++ M, List.nodup_append.mpr ⟨l1, m1, fun x hx y hy e => ?_⟩, fun T => ?_, by rw [List.length_append, l3, m3]⟩
  · rw [e] at hx
    exact ((m2 y).mp hy).2.2 t List.mem_cons_self (((l2 y).mp hx).2.1 t List.mem_cons_self)
  · rw [List.mem_append, l2, m2]
    constructor
    · rintro (⟨a1, a2, a3⟩ | ⟨a1, a2, a3⟩)
      · exact ⟨a1, fun z hz => a2 z (List.mem_cons_of_mem _ hz), a3⟩
      · exact ⟨a1, a2, fun z hz => a3 z (List.mem_cons_of_mem _ hz)⟩
    · rintro ⟨a1, a2, a3⟩
      by_cases c : t ∈ T
      · exact .inl ⟨a1, fun z hz => by
          rcases List.mem_cons.mp hz with e | e
          · rw [e]; exact c
          · exact a2 z e, a3⟩
      · exact .inr ⟨a1, a2, fun z hz => by
          rcases List.mem_cons.mp hz with e | e
          · rw [e]; exact c
          · exact a3 z e⟩
end My

/-! ## a list out of another one, from its end -/
namespace My
open PySem L2
section
variable {K : PySem.W.Frag} {a : Addr} {xs : List V} {g : TG} {tt : TT} {te : TE} {o : Nat} {fr : List Nat} {σ : St} {H : Hp} {Q : VK}
end
end My

/-! ## the number of a tree: how many are less -/
namespace My
open PySem L2
theorem sub_len2 {α : Type} [DecidableEq α] : ∀ {l m : List α}, l.Nodup → (∀ x ∈ l, x ∈ m) → l.length ≤ m.length
  | [], _, _, _ => Nat.zero_le _
  | x :: l, m, hn, hs => by
    have hx := hs x List.mem_cons_self
    obtain ⟨h1, h2⟩ := List.nodup_cons.mp hn
    have := sub_len2 (m := m.erase x) h2 fun y hy => (List.mem_erase_of_ne fun e => h1 (by rw [← e]; exact hy)).mpr (hs y (List.mem_cons_of_mem _ hy))
    rw [List.length_erase_of_mem hx] at this
    have := List.length_pos_of_mem hx
    rw [List.length_cons]
    omega
end My

/-! ## a tree found by its number, tie by tie -/
namespace My
open PySem L2
section
variable {n : Int} {ps : List (Int × Int)} {I O : List Int} {i b c : Nat}
end
end My

/-! ## the number of a tree in the row of all -/
namespace My
open PySem L2
end My

/-! ## abs(int) -/
namespace L2
open PySem PySem.Spec PyProof.Rows
section
variable {X : Cx}
end
end L2

/-! ## a piece of a list -/
namespace My
open PySem L2
end My

/-! ## steps of a block told once; try: .. except W: without a name -/
namespace My
open PySem L2
theorem contS {s rest : TS} {D : Ends} {σ : L2.St} {H : Hp} (P : L2.St → Hp → Prop) (h1 : ∀ σ' H', P σ' H' → rest D σ' H') (h2 : ∀ K : L2.St → Hp → Prop, (∀ σ' H', P σ' H' → K σ' H') → s { D with nx := K } σ H) : tSeq s rest D σ H := h2 _ h1
theorem asgC {c : V} {i : Nat} {rest : TS} {D : Ends} {σ : L2.St} {H : Hp} (h : rest D (σ.set i (some c)) H) : tSeq (tAsg (tC c) (gName i)) rest D σ H := h
end My
namespace L2
open PySem PySem.Spec PyProof.Rows
end L2

/-! ## tuple < tuple, of ints -/
namespace L2
open PySem PySem.Spec PyProof.Rows
section
variable {X : Cx}
end
end L2

/-! ## how many trees there can be; ranks and order; trees tie by tie -/
namespace My
open PySem L2
theorem cmb_len30 {m : Nat} (hm : m ≤ 30) : ∀ k, (cmb (m : Int) k).length ≤ 30 ^ k
  | 0 => Nat.le_refl 1
  | k + 1 => by
    have h1 := flat_len (m := m) (cmb (m : Int) k) fun s hs => (cmb_mem.mp hs).2
    have h2 := cmb_len30 hm k
    have h3 : m * (cmb (m : Int) k).length ≤ 30 * 30 ^ k := Nat.mul_le_mul hm h2
    rw [Nat.pow_succ, Nat.mul_comm]
    exact Nat.le_trans h1 h3
theorem tc_small {n : Int} {ps : List (Int × Int)} {c : Nat} (g : GoodW n ps) (h : TC n ps c) : c < 10 ^ 20 := by
  obtain ⟨L, hn, hm, rfl⟩ := h
  obtain ⟨g1, g2, g3, _⟩ := g
  refine Nat.lt_of_le_of_lt (m := 30 ^ 13) (Nat.le_trans (sub_len2 (m := cmb (ps.length : Int) (n - 1).toNat) hn fun x hx => cmb_mem.mpr ⟨?_, ((hm x).mp hx).1⟩) (Nat.le_trans (cmb_len30 (by omega) _) (Nat.pow_le_pow_right (by decide) (by omega)))) (by decide)
  have := ((hm x).mp hx).2.1
  omega
end My

/-! ## tuple <= tuple, of ints; a <= b <= c <= d <= e -/
namespace HT
open PySem PyProof.Rows
section
open PySem.SeqAt
open PySem.AutoSeq1 (wpAny_loadPart')
open PySem.MeetsSeq PySem.MeetsSeq2 PySem.MeetsSeq3
end
section
variable {prog : Program} {w : World} {A : Around} {E : Value → Shared → Prop} {s : Shared}
end
end HT
namespace L2
open PySem PySem.Spec PyProof.Rows
section
variable {X : Cx}
end
end L2

/-! ## webs made so that they hang together -/
namespace My
open PySem L2
theorem pc_tc {n : Int} {ps : List (Int × Int)} {c : Nat} : PC n ps [] [] c ↔ TC n ps c := by
  constructor
  · rintro ⟨L, h1, h2, h3⟩
    exact ⟨L, h1, fun l => by rw [h2 l]; exact ⟨fun h => h.1, fun h => ⟨h, fun z hz => (by cases hz), fun z hz => (by cases hz)⟩⟩, h3⟩
  · rintro ⟨L, h1, h2, h3⟩
    exact ⟨L, h1, fun l => by rw [h2 l]; exact ⟨fun h => ⟨h, fun z hz => (by cases hz), fun z hz => (by cases hz)⟩, fun h => h.1⟩, h3⟩
end My

/-! ## a list whose own name is seen by a list within it -/
namespace L2
open PySem PySem.Spec PyProof.Rows
section
variable {M : Model} {A : Around} {E : Value → Shared → Prop} {s : Shared}
end
/-- as CompScope, with one own name xo that is seen by a list within -/
structure CompScopeD (sc0 : Scope) (N N' : List Str) (o : Nat) (fr : List Nat) (scope : Scope) (xo : Str) : Prop where
  kind : scope.kind = .function
  one : (scope.names.filter fun y => y.2 == .cell) = [(xo, .cell)]
  loc : (scope.names.all fun y => y.2 != .local || scope.names.lookup y.1 == some .local) = true
  free : (scope.names.all fun y => y.2 != .free || (y.1 != xo && (sc0.names.lookup y.1 == some .cell || sc0.names.lookup y.1 == some .free))) = true
  len : N'.length = o + fr.length
  sees : ((List.range fr.length).all fun j => match fr[j]? with
    | none => false
    | some y => match N[y]? with
      | none => false
      | some x => N'[o + j]? == some x && scope.names.lookup x == some .free) = true
section
variable {X : Cx} {pins : List (Addr × Obj)} {σ : St} {H : Hp} {s : Shared} {N' : List Str} {o : Nat} {fr : List Nat} {scope : Scope} {fp : List Addr} {xo : Str}
end

section
variable {xo : Str} {X : Cx} {N' : List Str} {o : Nat} {fr : List Nat} {scope : Scope} {elt tg iter : Expr} {ifs : List Expr} {pos : Pos} {wi : TI} {g : TG} {tt : TT} {te : TE}
end
end L2

/-! ## sums over trees: weights -/
namespace My
open PySem L2
theorem sum_permL {f : List Int → Int} {a b : List (List Int)} (h : a.Perm b) : (a.map f).sum = (b.map f).sum := by
  induction h with
  | nil => rfl
  | cons x _ ih => rw [List.map_cons, List.map_cons, List.sum_cons, List.sum_cons, ih]
  | swap x y l => rw [List.map_cons, List.map_cons, List.map_cons, List.map_cons, List.sum_cons, List.sum_cons, List.sum_cons, List.sum_cons]; omega
  | trans _ _ i1 i2 => exact i1.trans i2
end My

/-! ## for x, y in zip(list, tuple) -/
namespace L2
open PySem PySem.Spec PyProof.Rows
section
variable {prog : Program} {w : World} {A : Around} {E : Value → Shared → Prop} {s : Shared}
end
end L2

/-! ## for x, y in zip(list, list or tuple) -/
namespace L2
open PySem PySem.Spec PyProof.Rows
section
variable {prog : Program} {w : World} {A : Around} {E : Value → Shared → Prop} {s : Shared}
end
section
variable {X : Cx}
end
end L2
namespace My
open PySem L2
end My

/-! ## trees sorted by the ties of a set: numbers as figures of a sum -/
namespace My
open PySem L2
/-- the number with these figures, the first one the least -/
def ev (b : Int) : List Int → Int
  | [] => 0
  | d :: l => d + b * ev b l
theorem sum_snocI (l : List Int) (x : Int) : (l ++ [x]).sum = l.sum + x := by
  induction l with
  | nil => show x + 0 = 0 + x; omega
  | cons y l ih => show y + (l ++ [x]).sum = y + l.sum + x; omega
end My

/-! ## one more place, tied to each with the same weight -/
namespace My
open PySem L2
end My

/-! ## the trees of the web with one more place, sorted by the ties at that place -/
namespace My
open PySem L2
end My

/-! ## list.count -/
namespace L2
open PySem PySem.Spec PyProof.Rows
section
variable {X : Cx}
end
end L2

/-! ## forests with a chosen place of each piece -/
namespace My
open PySem L2
end My

/-! ## the trees of the web with one more place, by their ties of the web -/
namespace My
open PySem L2
theorem TW.uniq {k : Nat} {E : List Ed} {s u : Int} (h1 : TW k E s) (h2 : TW k E u) : s = u := by
  obtain ⟨L, a1, a2, rfl⟩ := h1
  obtain ⟨M, b1, b2, rfl⟩ := h2
  exact sum_permL ((List.perm_ext_iff_of_nodup a1 b1).mpr fun l => by rw [a2, b2])
end My

/-! ## the web whose trees are the cheapest ones -/
namespace My
open PySem L2
/-! ### marks: each the least place of its piece -/
section
variable {n : Nat} {es : List (Nat × Nat)} (h : InN n es)
include h
end
theorem conn_keep {es : List (Nat × Nat)} {φ : Nat → Prop} (h : ∀ e ∈ es, (φ e.1 ↔ φ e.2)) {i j : Nat} (c : Conn es i j) : φ i ↔ φ j := by
  induction c with
  | refl i => exact Iff.rfl
  | edge q => exact h _ q
  | symm _ ih => exact ih.symm
  | trans _ _ i1 i2 => exact i1.trans i2
/-! ### the ties of the web by their lengths -/
abbrev lnz (ls : List Int) (z : Int) : Int := ls.getD z.toNat 0
def lwS (ls : List Int) (x : Int) : List Int := (rgL ls.length).filter fun z => decide (lnz ls z < x)
/-- the marks below and up to a length -/
def mA (N : Nat) (ps : List (Int × Int)) (ls : List Int) (x : Int) : List Int := pms N (endsOf ps (lwS ls x))
section
variable {n : Int} {ps : List (Int × Int)} {ls T : List Int} (g : GoodW n ps) (hl : ls.length = ps.length)
include g hl
end
end My

/-! ## sums that meet: sorts turned, forests of few and of all pieces, weights scaled -/
namespace My
open PySem L2
/-! ### forests of no, of one and of all pieces -/
/-! ### the web with one more place, and weights scaled -/
end My

/-! ## sum of a tuple of ints -/
namespace L2
open PySem PySem.Spec PyProof.Rows
section
variable {prog : Program} {w : World} {A : Around} {E : Value → Shared → Prop} {s : Shared} {l : Addr} {xs : Array (Int × Tok)}
end
section
variable {X : Cx}
end
end L2

/-! ## the trees of that web are the trees without a gain, the cheapest ones -/
namespace My
open PySem L2
section
variable {n : Int} {ps : List (Int × Int)} {ls T : List Int} (g : GoodW n ps) (hl : ls.length = ps.length)
include g hl
omit hl in
end
end My

/-! ## the steps that make the web of the cheapest -/
namespace My
open PySem L2
section
variable {n : Int} {ps : List (Int × Int)} {ls Ls S : List Int} {j : Nat} {x : Int} (g : GoodW n ps) (hl : ls.length = ps.length) (hLa : Ls.Pairwise (· < ·)) (hLm : ∀ z, z ∈ Ls ↔ z ∈ ls) (hx : Ls[j]? = some x)
include hLa hx
include g hl hLm
end
end My

/-! ## the trees without a gain are those of least length -/
namespace My
open PySem L2
section
variable {n : Int} {ps : List (Int × Int)} {ls T : List Int} (g : GoodW n ps)
include g
end
end My

/-! ## sorted(list of empty tuples) -/
namespace L2
open PySem PySem.Spec PyProof.Rows My
section
variable {prog : Program} {w : World} {A : Around} {E : Value → Shared → Prop} {s : Shared}
end
section
variable {X : Cx}
end
end L2

/-! ## sorted(list of two tuples that stand in their order) -/
namespace L2
open PySem PySem.Spec PyProof.Rows My
section
variable {M : Model} {A : Around} {E : Value → Shared → Prop} {s : Shared}
end
section
variable {prog : Program} {w : World} {A : Around} {E : Value → Shared → Prop} {s : Shared}
end
section
variable {X : Cx}
end
end L2

/-! ## walks turned round -/
namespace My
open PySem L2
end My
namespace My
open PySem L2
end My

/-! ## the numbers that solve a table -/
namespace My
open PySem L2
end My

/-! ## fractions in least terms -/
namespace My
open PySem L2
end My

/-! ## a web's table without any one of its places -/
namespace My
open PySem L2
/-- the whole table's determinant is nought -/
theorem lap_zero {n : Nat} {E : List Ed} (hn : 1 ≤ n) (h : ∀ e ∈ E, e.1 < n ∧ e.2.1 < n) : det n (lapE E) = 0 := by
  obtain ⟨L, a1, a2, a3⟩ := matrix_tree _ n E rfl fun e he => by have := h e he; omega
  cases L with
  | nil => exact a3.symm
  | cons T L =>
    obtain ⟨b1, b2, b3⟩ := (a2 T).mp List.mem_cons_self
    have st := conn_keep (φ := fun w => w < n) (fun e he => by
      obtain ⟨z, hz, rfl⟩ := List.mem_map.mp he
      have zb := b1.all z hz
      have e1 : E.getD z.toNat (0, 0, 0) = E[z.toNat]'(by omega) := by rw [List.getD_eq_getElem?_getD, List.getElem?_eq_getElem (by omega)]; rfl
      have := h _ (List.getElem_mem (l := E) (n := z.toNat) (by omega))
      unfold edE
      rw [e1]
      exact ⟨fun _ => this.2, fun _ => this.1⟩) (b3 0 n (by omega) (by omega))
    exact absurd (st.mp (by omega)) (Nat.lt_irrefl _)
end My

/-! ## the heights of a web's places -/
namespace My
open PySem L2
/-- the table without place o -/
abbrev redL (E : List Ed) (o : Nat) : Mx := fun i j => lapE E (sk o i) (sk o j)
end My

/-! ## sums of fractions with one bottom -/
namespace My
open PySem L2
end My

/-! ## heights: the same both ways; the trees that hold a tie -/
namespace My
open PySem L2
theorem lap_sym (i j : Nat) : ∀ E : List Ed, lapE E i j = lapE E j i
  | [] => rfl
  | e :: E => by
    show e.2.2 * (ind e.1 e.2.1 i * ind e.1 e.2.1 j) + lapE E i j = e.2.2 * (ind e.1 e.2.1 j * ind e.1 e.2.1 i) + lapE E j i
    rw [lap_sym i j E, Int.mul_comm (ind e.1 e.2.1 i)]
theorem conn_pend {es : List (Nat × Nat)} {n o : Nat} (hin : ∀ e ∈ es, e.1 < n ∧ e.2 < n) (ho : o < n) {i j : Nat} (c : Conn (es ++ [(o, n)]) i j) : Conn es (if i = n then o else i) (if j = n then o else j) := by
  induction c with
  | refl i => exact .refl _
  | @edge a b q =>
    rcases List.mem_append.mp q with q | q
    · have h1 := hin _ q
      rw [if_neg (show ¬ a = n from fun z => by have := h1.1; have : a < n := this; omega), if_neg (show ¬ b = n from fun z => by have := h1.2; have : b < n := this; omega)]
      exact .edge q
    · obtain ⟨e1, e2⟩ := Prod.mk.inj (List.mem_singleton.mp q)
      rw [e1, e2, if_neg (by omega), if_pos rfl]
      exact .refl _
  | symm _ ih => exact ih.symm
  | trans _ _ a b => exact a.trans b
theorem ends_lt {E : List Ed} {n : Nat} (h : ∀ e ∈ E, e.1 < n ∧ e.2.1 < n) {T : List Int} (hT : IsSet E.length T) : ∀ e ∈ T.map (edE E), e.1 < n ∧ e.2 < n := fun e he => by
  obtain ⟨z, hz, rfl⟩ := List.mem_map.mp he
  have zb := hT.all z hz
  have e1 : E.getD z.toNat (0, 0, 0) = E[z.toNat]'(by omega) := by rw [List.getD_eq_getElem?_getD, List.getElem?_eq_getElem (by omega)]; rfl
  have := h _ (List.getElem_mem (l := E) (n := z.toNat) (by omega))
  unfold edE
  rw [e1]
  exact this
theorem isT_pend {n o : Nat} {E : List Ed} (ho : o < n + 1) (h : ∀ e ∈ E, e.1 < n + 1 ∧ e.2.1 < n + 1) {T : List Int} : IsT (n + 1) (E ++ [(o, n + 1, 1)]) T ↔ ∃ U, IsT n E U ∧ T = U ++ [(E.length : Int)] := by
  constructor
  · intro hT
    have hs := hT.1
    rw [List.length_append] at hs
    rcases set_last hs with c | ⟨U, c, c2⟩
    · have h1 := (isT_up c).mp hT
      have hlt := ends_lt h c
      have st := conn_keep (φ := fun w => w < n + 1) (fun e he => ⟨fun _ => (hlt e he).2, fun _ => (hlt e he).1⟩) (h1.2.2 0 (n + 1) (by omega) (by omega))
      exact absurd (st.mp (by omega)) (Nat.lt_irrefl _)
    · refine ⟨U, ⟨c2, ?_, fun i j hi hj => ?_⟩, c⟩
      · have := hT.2.1
        rw [c, List.length_append, List.length_singleton] at this
        omega
      · have h1 := hT.2.2 i j (by omega) (by omega)
        rw [c, map_snoc c2] at h1
        have h2 := conn_pend (ends_lt h c2) ho h1
        rw [if_neg (by omega), if_neg (by omega)] at h2
        exact h2
  · rintro ⟨U, ⟨b1, b2, b3⟩, rfl⟩
    refine ⟨by rw [List.length_append]; exact b1.snoc, by rw [List.length_append, b2]; rfl, ?_⟩
    rw [map_snoc b1]
    have key : ∀ i, i < n + 2 → Conn (U.map (edE E) ++ [(o, n + 1)]) i o := fun i hi => by
      by_cases c : i = n + 1
      · rw [c]
        exact (Conn.edge (List.mem_append_right _ (List.mem_singleton.mpr rfl))).symm
      · exact (b3 i o (by omega) ho).mono fun e he => List.mem_append_left _ he
    exact fun i j hi hj => (key i hi).trans (key j hj).symm
/-- the trees by the table without any one of the places -/
theorem minor_tw {n : Nat} {E : List Ed} {o : Nat} (ho : o < n + 1) (h : ∀ e ∈ E, e.1 < n + 1 ∧ e.2.1 < n + 1) : TW n E (det n (redL E o)) := by
  have hE : ∀ e ∈ E ++ [(o, n + 1, (1 : Int))], e.1 < n + 2 ∧ e.2.1 < n + 2 := fun e he => by
    rcases List.mem_append.mp he with c | c
    · have := h e c; omega
    · rw [List.mem_singleton.mp c]; exact ⟨by show o < n + 2; omega, by show n + 1 < n + 2; omega⟩
  obtain ⟨L, a1, a2, a3⟩ := matrix_tree _ (n + 1) (E ++ [(o, n + 1, 1)]) rfl hE
  have e1 : det (n + 1) (lapE (E ++ [(o, n + 1, 1)])) = det (n + 1) (fun i j => lapE E i j + 1 * ((if i = o then 1 else 0) * (if j = o then 1 else 0))) := det_congr fun i j hi hj => by
    rw [lapE_snoc]
    have hind : ∀ a, a < n + 1 → ind o (n + 1) a = if a = o then 1 else 0 := fun a ha => by
      unfold ind
      rw [if_neg (show ¬ a = n + 1 by omega)]
      split <;> rfl
    show _ + 1 * (ind o (n + 1) i * ind o (n + 1) j) = _
    rw [hind i hi, hind j hj]
  rw [e1, det_diag ho, lap_zero (by omega) h, Int.zero_add, Int.one_mul] at a3
  obtain ⟨M, b1, b2, _⟩ := matrix_tree _ n E rfl h
  refine ⟨M, b1, b2, ?_⟩
  rw [← a3]
  have n2 : (M.map (· ++ [(E.length : Int)])).Nodup := List.Pairwise.map _ (fun x y h c => h (List.append_cancel_right c)) b1
  have pm := sum_permL (f := wtE (E ++ [(o, n + 1, 1)])) ((List.perm_ext_iff_of_nodup a1 n2).mpr fun T => by
    rw [a2, isT_pend ho h, List.mem_map]
    constructor
    · rintro ⟨U, hU, rfl⟩
      exact ⟨U, (b2 U).mpr hU, rfl⟩
    · rintro ⟨U, hU, rfl⟩
      exact ⟨U, (b2 U).mp hU, rfl⟩)
  rw [pm, List.map_map]
  refine congrArg List.sum (List.map_congr_left fun T hT => ?_)
  have hs := ((b2 T).mp hT).1
  show _ = wtE (E ++ [(o, n + 1, 1)]) (T ++ [(E.length : Int)])
  rw [wtE_app, wt_up hs.all]
  show _ = _ * (((E ++ [(o, n + 1, (1 : Int))]).getD (E.length : Int).toNat (0, 0, 0)).2.2 * 1)
  rw [getD_last]
  show _ = _ * (1 * 1)
  rw [Int.mul_one, Int.mul_one]
end My

/-! ## leans -/
namespace My
open PySem L2
/-- the ties, each of weight 1 -/
abbrev oneE (ps : List (Int × Int)) : List Ed := edsOf ps (List.replicate ps.length 1)
end My

/-! ## shares by heights -/
namespace My
open PySem L2
end My

/-! ## rows of fractions, and heights by their balance -/
namespace My
open PySem L2
end My

/-! ## chains of rings of bundles -/
namespace My
open PySem L2
theorem sm_split {f : Nat → Int} {a : Nat} : ∀ {b : Nat}, sm (a + b) f = sm a f + sm b (fun i => f (a + i))
  | 0 => by show sm a f = sm a f + 0; omega
  | b + 1 => by
    show sm (a + b) f + f (a + b) = sm a f + (sm b (fun i => f (a + i)) + f (a + b))
    rw [sm_split (b := b)]
    omega
/-- a table with nought in its right upper part -/
theorem det_block {b : Nat} : ∀ {a : Nat} {M : Mx}, (∀ i j, i < a → a ≤ j → j < a + b → M i j = 0) → det (a + b) M = det a M * det b (fun i j => M (a + i) (a + j))
  | 0, M, _ => by
    show det (0 + b) M = 1 * _
    rw [Int.one_mul, Nat.zero_add]
    exact det_congr fun i j _ _ => by rw [Nat.zero_add, Nat.zero_add]
  | a + 1, M, h => by
    rw [show a + 1 + b = (a + b) + 1 by omega]
    show sm (a + b + 1) (fun j => sg j * M 0 j * det (a + b) (mn M j)) = sm (a + 1) (fun j => sg j * M 0 j * det a (mn M j)) * _
    rw [show a + b + 1 = (a + 1) + b by omega, sm_split]
    have z : sm b (fun i => sg (a + 1 + i) * M 0 (a + 1 + i) * det (a + b) (mn M (a + 1 + i))) = 0 := sm_none fun i hi => by
      rw [h 0 (a + 1 + i) (by omega) (by omega) (by omega), Int.mul_zero, Int.zero_mul]
    rw [z, Int.add_zero, Int.mul_comm, ← sm_mul]
    refine sm_congr fun j hj => ?_
    have ih := det_block (b := b) (a := a) (M := mn M j) fun i k hi hk hk2 => by
      show M (i + 1) (sk j k) = 0
      have e : sk j k = k + 1 := by unfold sk; rw [if_neg (by omega)]
      rw [e]
      exact h (i + 1) (k + 1) (by omega) (by omega) (by omega)
    have e2 : det b (fun i k => mn M j (a + i) (a + k)) = det b (fun i k => M (a + 1 + i) (a + 1 + k)) := det_congr fun i k _ _ => by
      show M (a + i + 1) (sk j (a + k)) = _
      have e : sk j (a + k) = a + k + 1 := by unfold sk; rw [if_neg (by omega)]
      rw [e, show a + i + 1 = a + 1 + i by omega, show a + k + 1 = a + 1 + k by omega]
    rw [ih, e2]
    grind
theorem lapE_app (E F : List Ed) (i j : Nat) : lapE (E ++ F) i j = lapE E i j + lapE F i j := by
  induction E with
  | nil => show _ = 0 + _; rw [Int.zero_add]; rfl
  | cons e E ih =>
    show _ + lapE (E ++ F) i j = _ + lapE E i j + _
    rw [ih]
    omega
theorem lap_out {n : Nat} {E : List Ed} (h : ∀ e ∈ E, e.1 < n ∧ e.2.1 < n) {i : Nat} (j : Nat) (hi : n ≤ i) : lapE E i j = 0 := by
  induction E with
  | nil => rfl
  | cons e E ih =>
    have he := h e List.mem_cons_self
    show e.2.2 * (ind e.1 e.2.1 i * ind e.1 e.2.1 j) + lapE E i j = 0
    rw [ih fun f hf => h f (List.mem_cons_of_mem _ hf)]
    have : ind e.1 e.2.1 i = 0 := by unfold ind; rw [if_neg (by omega), if_neg (by omega)]; rfl
    rw [this, Int.zero_mul, Int.mul_zero]
    rfl
theorem lap_low {n : Nat} {E : List Ed} (h : ∀ e ∈ E, n ≤ e.1 ∧ n ≤ e.2.1) {i : Nat} (j : Nat) (hi : i < n) : lapE E i j = 0 := by
  induction E with
  | nil => rfl
  | cons e E ih =>
    have he := h e List.mem_cons_self
    show e.2.2 * (ind e.1 e.2.1 i * ind e.1 e.2.1 j) + lapE E i j = 0
    rw [ih fun f hf => h f (List.mem_cons_of_mem _ hf)]
    have : ind e.1 e.2.1 i = 0 := by unfold ind; rw [if_neg (by omega), if_neg (by omega)]; rfl
    rw [this, Int.zero_mul, Int.mul_zero]
    rfl
/-- two webs with one common place -/
theorem det_chain {c m : Nat} {E F : List Ed} (hE : ∀ e ∈ E, e.1 < c + 1 ∧ e.2.1 < c + 1) (hF : ∀ e ∈ F, (c ≤ e.1 ∧ e.1 < c + m + 1) ∧ (c ≤ e.2.1 ∧ e.2.1 < c + m + 1)) : det (c + m) (lapE (E ++ F)) = det c (lapE E) * det m (fun i j => lapE F (c + 1 + i) (c + 1 + j)) := by
  have hEF : ∀ e ∈ E ++ F, e.1 < c + m + 1 ∧ e.2.1 < c + m + 1 := fun e he => by
    rcases List.mem_append.mp he with q | q
    · have := hE e q; omega
    · have := hF e q; omega
  have u := (matrix_tree _ (c + m) (E ++ F) rfl hEF).uniq (minor_tw (o := c) (by omega) hEF)
  have s1 : ∀ i, i < c → sk c i = i := fun i hi => by unfold sk; rw [if_pos hi]
  have s2 : ∀ i, sk c (c + i) = c + 1 + i := fun i => by unfold sk; rw [if_neg (by omega)]; omega
  rw [u, det_block]
  · congr 1
    · refine det_congr fun i j hi hj => ?_
      show lapE (E ++ F) (sk c i) (sk c j) = _
      rw [s1 i hi, s1 j hj, lapE_app, lap_low (fun e he => ⟨(hF e he).1.1, (hF e he).2.1⟩) j hi, Int.add_zero]
    · refine det_congr fun i j _ _ => ?_
      show lapE (E ++ F) (sk c (c + i)) (sk c (c + j)) = _
      rw [s2, s2, lapE_app, lap_out hE _ (by omega), Int.zero_add]
  · intro i j hi hj _
    obtain ⟨k, rfl⟩ : ∃ k, j = c + k := ⟨j - c, by omega⟩
    show lapE (E ++ F) (sk c i) (sk c (c + k)) = 0
    rw [s1 i hi, s2, lapE_app, lap_low (fun e he => ⟨(hF e he).1.1, (hF e he).2.1⟩) _ hi, lap_sym, lap_out hE _ (by omega)]
    rfl
/-- a path of bundles -/
def pthE (a : Nat → Int) : Nat → List Ed
  | 0 => []
  | m + 1 => pthE a m ++ [(m, m + 1, a m)]
theorem pth_in (a : Nat → Int) : ∀ m, ∀ e ∈ pthE a m, e.1 < m + 1 ∧ e.2.1 < m + 1
  | 0, e, h => by cases h
  | m + 1, e, h => by
    rcases List.mem_append.mp h with q | q
    · have := pth_in a m e q; omega
    · rw [List.mem_singleton.mp q]; exact ⟨by show m < m + 1 + 1; omega, by show m + 1 < m + 1 + 1; omega⟩
theorem pth_last (a : Nat → Int) : ∀ m, det m (lapE (pthE a m)) = pr m a
  | 0 => rfl
  | m + 1 => by
    have e : det (m + 1) (lapE (pthE a (m + 1))) = det (m + 1) (fun i j => lapE (pthE a m) i j + a m * ((if i = m then 1 else 0) * (if j = m then 1 else 0))) := det_congr fun i j hi hj => by
      show lapE (pthE a m ++ [(m, m + 1, a m)]) i j = _
      rw [lapE_snoc]
      have hind : ∀ k, k < m + 1 → ind m (m + 1) k = if k = m then 1 else 0 := fun k hk => by
        unfold ind
        rw [if_neg (show ¬ k = m + 1 by omega)]
        split <;> rfl
      show _ + a m * (ind m (m + 1) i * ind m (m + 1) j) = _
      rw [hind i hi, hind j hj]
    have s : det m (fun i j => lapE (pthE a m) (sk m i) (sk m j)) = det m (lapE (pthE a m)) := det_congr fun i j hi hj => by
      have : ∀ k, k < m → sk m k = k := fun k hk => by unfold sk; rw [if_pos hk]
      rw [this i hi, this j hj]
    rw [e, det_diag (by omega), lap_zero (by omega) (pth_in a m), s, pth_last a m, Int.zero_add, Int.mul_comm]
    rfl
theorem pth_first (a : Nat → Int) (m : Nat) : det m (fun i j => lapE (pthE a m) (i + 1) (j + 1)) = pr m a := by
  rw [← pth_last, (matrix_tree _ m (pthE a m) rfl (pth_in a m)).uniq (minor_tw (o := 0) (by omega) (pth_in a m))]
  exact det_congr fun i j _ _ => by
    have : ∀ k, sk 0 k = k + 1 := fun k => by unfold sk; rw [if_neg (by omega)]
    show _ = lapE _ (sk 0 i) (sk 0 j)
    rw [this, this]
/-- the trees of a ring of m + 1 bundles -/
def rcF (a : Nat → Int) : Nat → Int
  | 0 => 1
  | m + 1 => pr (m + 1) a + a (m + 1) * rcF a m
theorem ring_y (a : Nat → Int) : ∀ (m : Nat) (y : Int), det m (fun i j => lapE (pthE a m) (i + 1) (j + 1) + y * ((if i + 1 = m then 1 else 0) * (if j + 1 = m then 1 else 0))) = if m = 0 then 1 else pr m a + y * rcF a (m - 1)
  | 0, y => rfl
  | m + 1, y => by
    have e : det (m + 1) (fun i j => lapE (pthE a (m + 1)) (i + 1) (j + 1) + y * ((if i + 1 = m + 1 then 1 else 0) * (if j + 1 = m + 1 then 1 else 0))) = det (m + 1) (fun i j => (fun i j => lapE (pthE a (m + 1)) (i + 1) (j + 1)) i j + y * ((if i = m then 1 else 0) * (if j = m then 1 else 0))) := det_congr fun i j _ _ => by
      have : ∀ k : Nat, (if k + 1 = m + 1 then (1 : Int) else 0) = if k = m then 1 else 0 := fun k => by
        by_cases c : k = m
        · rw [if_pos (by omega), if_pos c]
        · rw [if_neg (by omega), if_neg c]
      rw [this, this]
    have s : det m (fun i j => lapE (pthE a (m + 1)) (sk m i + 1) (sk m j + 1)) = det m (fun i j => lapE (pthE a m) (i + 1) (j + 1) + a m * ((if i + 1 = m then 1 else 0) * (if j + 1 = m then 1 else 0))) := det_congr fun i j hi hj => by
      have : ∀ k, k < m → sk m k = k := fun k hk => by unfold sk; rw [if_pos hk]
      rw [this i hi, this j hj]
      show lapE (pthE a m ++ [(m, m + 1, a m)]) _ _ = _
      rw [lapE_snoc]
      have hind : ∀ k, k < m → ind m (m + 1) (k + 1) = if k + 1 = m then 1 else 0 := fun k hk => by
        unfold ind
        rw [if_neg (show ¬ k + 1 = m + 1 by omega)]
        split <;> rfl
      show _ + a m * (ind m (m + 1) (i + 1) * ind m (m + 1) (j + 1)) = _
      rw [hind i hi, hind j hj]
    rw [e, det_diag (by omega), pth_first, s, ring_y a m (a m), if_neg (show ¬ m + 1 = 0 by omega)]
    show pr (m + 1) a + y * (if m = 0 then 1 else pr m a + a m * rcF a (m - 1)) = pr (m + 1) a + y * rcF a m
    congr 2
    cases m with
    | zero => rfl
    | succ k => rw [if_neg (by omega)]; rfl
theorem ring_det (a : Nat → Int) (m : Nat) : det m (fun i j => lapE (pthE a m ++ [(m, 0, a m)]) (i + 1) (j + 1)) = rcF a m := by
  have e : det m (fun i j => lapE (pthE a m ++ [(m, 0, a m)]) (i + 1) (j + 1)) = det m (fun i j => lapE (pthE a m) (i + 1) (j + 1) + a m * ((if i + 1 = m then 1 else 0) * (if j + 1 = m then 1 else 0))) := det_congr fun i j _ _ => by
    rw [lapE_snoc]
    have hind : ∀ k, ind m 0 (k + 1) = if k + 1 = m then 1 else 0 := fun k => by
      unfold ind
      rw [if_neg (show ¬ k + 1 = 0 by omega)]
      split <;> rfl
    show _ + a m * (ind m 0 (i + 1) * ind m 0 (j + 1)) = _
    rw [hind, hind]
  rw [e, ring_y]
  cases m with
  | zero => rfl
  | succ k => rw [if_neg (by omega)]; rfl
/-- the product of the first i but one -/
def pdx (a : Nat → Int) (k : Nat) : Nat → Int
  | 0 => 1
  | i + 1 => if i = k then pdx a k i else pdx a k i * a i
theorem pdx_all {a : Nat → Int} {k : Nat} : ∀ {i : Nat}, i ≤ k → pdx a k i = pr i a
  | 0, _ => rfl
  | i + 1, h => by
    show (if i = k then pdx a k i else pdx a k i * a i) = pr i a * a i
    rw [if_neg (by omega), pdx_all (by omega)]
theorem rc_sum (a : Nat → Int) : ∀ s, sm (s + 1) (fun k => pdx a k (s + 1)) = rcF a s
  | 0 => rfl
  | s + 1 => by
    show sm (s + 1) (fun k => pdx a k (s + 2)) + pdx a (s + 1) (s + 2) = pr (s + 1) a + a (s + 1) * rcF a s
    have e1 : sm (s + 1) (fun k => pdx a k (s + 2)) = a (s + 1) * sm (s + 1) (fun k => pdx a k (s + 1)) := by
      rw [← sm_mul]
      refine sm_congr fun k hk => ?_
      show (if s + 1 = k then pdx a k (s + 1) else pdx a k (s + 1) * a (s + 1)) = _
      rw [if_neg (by omega), Int.mul_comm]
    have e2 : pdx a (s + 1) (s + 2) = pr (s + 1) a := by
      show (if s + 1 = s + 1 then pdx a (s + 1) (s + 1) else _) = _
      rw [if_pos rfl, pdx_all (Nat.le_refl _)]
    rw [e1, e2, rc_sum a s]
    omega
/-! ties one by one -/
theorem lp_snoc (ps : List (Int × Int)) (p : Int × Int) (i j : Nat) : lapE (oneE (ps ++ [p])) i j = lapE (oneE ps) i j + ind p.1.toNat p.2.toNat i * ind p.1.toNat p.2.toNat j := by
  have e : oneE (ps ++ [p]) = oneE ps ++ [(p.1.toNat, p.2.toNat, 1)] := by
    unfold oneE edsOf
    rw [List.length_append, List.length_singleton, List.replicate_succ', List.zipWith_append (by rw [List.length_replicate])]
    rfl
  rw [e, lapE_snoc]
  show _ + 1 * _ = _
  rw [Int.one_mul]
theorem lp_cons (ps : List (Int × Int)) (p : Int × Int) (i j : Nat) : lapE (oneE (p :: ps)) i j = ind p.1.toNat p.2.toNat i * ind p.1.toNat p.2.toNat j + lapE (oneE ps) i j := by
  have e : oneE (p :: ps) = (p.1.toNat, p.2.toNat, 1) :: oneE ps := by
    unfold oneE edsOf
    rw [List.length_cons, List.replicate_succ]
    rfl
  rw [e]
  show 1 * _ + _ = _
  rw [Int.one_mul]
theorem lp_erase (i j : Nat) : ∀ {ps : List (Int × Int)} {k : Nat} {p : Int × Int}, ps[k]? = some p → lapE (oneE ps) i j = ind p.1.toNat p.2.toNat i * ind p.1.toNat p.2.toNat j + lapE (oneE (ps.eraseIdx k)) i j
  | [], k, p, h => by cases h
  | q :: ps, 0, p, h => by
    obtain rfl : q = p := Option.some.inj h
    exact lp_cons ps q i j
  | q :: ps, k + 1, p, h => by
    rw [lp_cons, lp_erase i j (ps := ps) (k := k) h, List.eraseIdx_cons_succ, lp_cons]
    omega
theorem lp_many (ps : List (Int × Int)) (p : Int × Int) (i j : Nat) : ∀ m : Nat, lapE (oneE (ps ++ List.replicate m p)) i j = lapE (oneE ps) i j + (m : Int) * (ind p.1.toNat p.2.toNat i * ind p.1.toNat p.2.toNat j)
  | 0 => by rw [List.replicate_zero, List.append_nil, Int.natCast_zero, Int.zero_mul, Int.add_zero]
  | m + 1 => by
    rw [List.replicate_succ', ← List.append_assoc, lp_snoc, lp_many ps p i j m, show ((m + 1 : Nat) : Int) = (m : Int) + 1 by omega, Int.add_mul, Int.one_mul, Int.add_assoc]
theorem det_count {n : Int} {ps : List (Int × Int)} {c : Nat} (g : GoodW n ps) (h : TC n ps c) : (c : Int) = det (n - 1).toNat (lapE (oneE ps)) := by
  obtain ⟨L, l1, l2, rfl⟩ := h
  exact (tree_det g l1 l2).symm
end My

/-! ## rings of bundles, tie by tie -/
namespace My
open PySem L2
/-- rings of bundles -/
def RgL (L : List (List Int)) : Prop := ∀ l ∈ L, 1 ≤ l.length ∧ l.length ≤ 5 ∧ ∀ z ∈ l, 1 ≤ z ∧ z ≤ 3
def shE (d : Nat) (E : List Ed) : List Ed := E.map fun e => (d + e.1, d + e.2.1, e.2.2)
theorem ind_shift (d u v i : Nat) : ind (d + u) (d + v) (d + i) = ind u v i := by
  unfold ind
  have h : ∀ x : Nat, (if d + i = d + x then (1 : Int) else 0) = if i = x then 1 else 0 := fun x => by
    by_cases c : i = x
    · rw [if_pos c, if_pos (by omega)]
    · rw [if_neg c, if_neg (by omega)]
  rw [h, h]
theorem lap_shift (d : Nat) (E : List Ed) (i j : Nat) : lapE (shE d E) (d + i) (d + j) = lapE E i j := by
  induction E with
  | nil => rfl
  | cons e E ih =>
    show e.2.2 * (ind (d + e.1) (d + e.2.1) (d + i) * ind (d + e.1) (d + e.2.1) (d + j)) + lapE (shE d E) (d + i) (d + j) = _
    rw [ih, ind_shift, ind_shift]
    rfl
/-- the ties of the first k bundles -/
def bdl (d m : Nat) (a : Nat → Int) : Nat → List (Int × Int)
  | 0 => []
  | k + 1 => bdl d m a k ++ List.replicate (a k).toNat (((d + k : Nat) : Int), ((d + (k + 1) % (m + 1) : Nat) : Int))
theorem bdl_mem {d m : Nat} {a : Nat → Int} : ∀ {k : Nat}, k ≤ m + 1 → ∀ p ∈ bdl d m a k, (d : Int) ≤ p.1 ∧ p.1 ≤ (d + m : Nat) ∧ (d : Int) ≤ p.2 ∧ p.2 ≤ (d + m : Nat)
  | 0, _, p, h => by cases h
  | k + 1, hk, p, h => by
    rcases List.mem_append.mp h with e | e
    · exact bdl_mem (by omega) p e
    · rw [List.eq_of_mem_replicate e]
      have := Nat.mod_lt (k + 1) (show 0 < m + 1 by omega)
      exact ⟨by show (d : Int) ≤ (d + k : Nat); omega, by show ((d + k : Nat) : Int) ≤ _; omega, by show (d : Int) ≤ (d + (k + 1) % (m + 1) : Nat); omega, by show ((d + (k + 1) % (m + 1) : Nat) : Int) ≤ _; omega⟩
theorem bdl_len {d m : Nat} {l : List Int} (h : ∀ z ∈ l, 1 ≤ z ∧ z ≤ 3) : ∀ {k : Nat}, k ≤ l.length → ((bdl d m (fun i => l.getD i 0) k).length : Int) = (l.take k).sum
  | 0, _ => rfl
  | k + 1, hk => by
    have ih := bdl_len (d := d) (m := m) h (k := k) (by omega)
    obtain ⟨z, hz⟩ : ∃ z, l[k]? = some z := ⟨_, List.getElem?_eq_getElem (by omega)⟩
    have e1 : l.getD k 0 = z := getD_of hz
    have zb := h z (List.mem_of_getElem? hz)
    show ((bdl d m (fun i => l.getD i 0) k ++ List.replicate (l.getD k 0).toNat _).length : Int) = _
    rw [List.length_append, List.length_replicate, e1, List.take_succ, hz]
    have : (l.take k ++ (some z).toList).sum = (l.take k).sum + z := sum_snocI _ _
    rw [this, ← ih]
    omega
theorem bdl_lap {d m : Nat} {a : Nat → Int} (ha : ∀ i, i ≤ m → 1 ≤ a i) (ps : List (Int × Int)) (i j : Nat) : ∀ {k : Nat}, k ≤ m → lapE (oneE (ps ++ bdl d m a k)) i j = lapE (oneE ps) i j + lapE (shE d (pthE a k)) i j
  | 0, _ => by
    show lapE (oneE (ps ++ [])) i j = _ + 0
    rw [List.append_nil, Int.add_zero]
  | k + 1, hk => by
    have ih := bdl_lap (d := d) ha ps i j (k := k) (by omega)
    have ak := ha k (by omega)
    have e : shE d (pthE a (k + 1)) = shE d (pthE a k) ++ [(d + k, d + (k + 1), a k)] := by
      unfold shE
      show List.map _ (pthE a k ++ [(k, k + 1, a k)]) = _
      rw [List.map_append]
      rfl
    show lapE (oneE (ps ++ (bdl d m a k ++ List.replicate (a k).toNat _))) i j = _
    rw [← List.append_assoc, lp_many, ih, e, lapE_snoc, Int.toNat_of_nonneg (by omega), Nat.mod_eq_of_lt (show k + 1 < m + 1 by omega)]
    show _ + _ + a k * (ind ((d + k : Nat) : Int).toNat ((d + (k + 1) : Nat) : Int).toNat i * ind ((d + k : Nat) : Int).toNat ((d + (k + 1) : Nat) : Int).toNat j) = _ + (_ + a k * (ind (d + k) (d + (k + 1)) i * ind (d + k) (d + (k + 1)) j))
    rw [Int.toNat_natCast, Int.toNat_natCast, Int.add_assoc]
theorem bdl_ring {d m : Nat} {a : Nat → Int} (ha : ∀ i, i ≤ m → 1 ≤ a i) (ps : List (Int × Int)) (i j : Nat) : lapE (oneE (ps ++ bdl d m a (m + 1))) i j = lapE (oneE ps ++ shE d (pthE a m ++ [(m, 0, a m)])) i j := by
  have ih := bdl_lap (d := d) ha ps i j (k := m) (Nat.le_refl _)
  have am := ha m (Nat.le_refl _)
  have e : shE d (pthE a m ++ [(m, 0, a m)]) = shE d (pthE a m) ++ [(d + m, d + 0, a m)] := by
    unfold shE
    rw [List.map_append]
    rfl
  show lapE (oneE (ps ++ (bdl d m a m ++ List.replicate (a m).toNat _))) i j = _
  rw [← List.append_assoc, lp_many, ih, e, lapE_app, lapE_snoc, Int.toNat_of_nonneg (by omega), Nat.mod_self]
  show _ + _ + a m * (ind ((d + m : Nat) : Int).toNat ((d + 0 : Nat) : Int).toNat i * ind ((d + m : Nat) : Int).toNat ((d + 0 : Nat) : Int).toNat j) = _ + (_ + a m * (ind (d + m) (d + 0) i * ind (d + m) (d + 0) j))
  rw [Int.toNat_natCast, Int.toNat_natCast, Int.add_assoc]
/-- a chain and one ring more -/
theorem ring_more {n : Int} {ps : List (Int × Int)} (g : GoodW n ps) {m : Nat} {a : Nat → Int} (ha : ∀ i, i ≤ m → 1 ≤ a i) : det ((n + m) - 1).toNat (lapE (oneE (ps ++ bdl (n - 1).toNat m a (m + 1)))) = det (n - 1).toNat (lapE (oneE ps)) * rcF a m := by
  have g1 := g.1
  obtain ⟨d, hd⟩ : ∃ d, (n - 1).toNat = d := ⟨_, rfl⟩
  rw [hd, show ((n + m) - 1).toNat = d + m by omega, det_congr fun i j _ _ => bdl_ring ha ps i j, det_chain (m := m)]
  · congr 1
    rw [← ring_det]
    refine det_congr fun i j _ _ => ?_
    rw [show d + 1 + i = d + (i + 1) by omega, show d + 1 + j = d + (j + 1) by omega, lap_shift]
  · intro e he
    have := eds_in g _ e he
    omega
  · intro e he
    unfold shE at he
    obtain ⟨f, hf, rfl⟩ := List.mem_map.mp he
    have : f.1 < m + 1 ∧ f.2.1 < m + 1 := by
      rcases List.mem_append.mp hf with q | q
      · exact pth_in a m f q
      · rw [List.mem_singleton.mp q]; exact ⟨by show m < m + 1; omega, by show 0 < m + 1; omega⟩
    exact ⟨⟨by show d ≤ d + f.1; omega, by show d + f.1 < d + m + 1; omega⟩, ⟨by show d ≤ d + f.2.1; omega, by show d + f.2.1 < d + m + 1; omega⟩⟩
theorem det_tc {n : Int} {ps : List (Int × Int)} (g : GoodW n ps) : ∃ c : Nat, TC n ps c ∧ (c : Int) = det (n - 1).toNat (lapE (oneE ps)) ∧ c < 10 ^ 20 := by
  obtain ⟨M, m1, m2, m3⟩ := matrix_tree _ (n - 1).toNat (oneE ps) rfl (eds_in g _)
  have h : TC n ps M.length := ⟨M, m1, fun T => (m2 T).trans (isT_web g.1 List.length_replicate), rfl⟩
  exact ⟨M.length, h, det_count g h, tc_small g h⟩
theorem sm_bds {f : Nat → Int} {B : Int} : ∀ {s : Nat}, (∀ i, i < s → 0 ≤ f i ∧ f i ≤ B) → 0 ≤ sm s f ∧ sm s f ≤ (s : Int) * B
  | 0, _ => ⟨Int.le_refl _, by show (0 : Int) ≤ _; rw [Int.natCast_zero, Int.zero_mul]; exact Int.le_refl _⟩
  | s + 1, h => by
    obtain ⟨a, b⟩ := sm_bds (s := s) fun i hi => h i (by omega)
    have c := h s (by omega)
    show 0 ≤ sm s f + f s ∧ sm s f + f s ≤ _
    rw [show ((s + 1 : Nat) : Int) = (s : Int) + 1 by omega, Int.add_mul, Int.one_mul]
    omega
end My

namespace My
open PySem L2
def top (i : Nat) : Stmt := PySem.Challenge.pw_spanrow_k21_counts_far.main.body.getD i (.Pass ⟨0, 0, 0, 0⟩)
abbrev s_refuse_not_square : Stmt := top 6
abbrev s_row_taken_off : Stmt := top 7
abbrev s_first_with_some : Stmt := top 8
abbrev s_determinant : Stmt := top 9
abbrev s_row_without : Stmt := top 10
abbrev s_table_without : Stmt := top 11
abbrev s_refuse_bad_web : Stmt := top 16
abbrev s_Web___init : Stmt := inClass (top 15) 0
abbrev s_is_tie : Stmt := top 17
abbrev s_have_common : Stmt := top 18
abbrev s_is_set : Stmt := top 19
abbrev s_made_set : Stmt := top 20
abbrev s_merged_marks : Stmt := top 21
abbrev s_piece_marks : Stmt := top 22
abbrev s_weighted_table : Stmt := top 24
abbrev s_pull_table : Stmt := top 25
abbrev s_tree_count : Stmt := top 26
abbrev s_part_count : Stmt := top 27
abbrev s_count_with : Stmt := top 28
abbrev s_law_at : Stmt := top 30
abbrev s_law_mixed : Stmt := top 31
abbrev s_law_whole : Stmt := top 32
abbrev s_law_rings : Stmt := top 33
abbrev s_law_ring_count : Stmt := top 35
abbrev s_law_made : Stmt := top 34
abbrev s_law_stirred : Stmt := top 36
abbrev s_law : Stmt := top 37
structure Adr where
  a_refuse_not_square : Addr
  d_refuse_not_square : FuncData
  a_row_taken_off : Addr
  d_row_taken_off : FuncData
  a_first_with_some : Addr
  d_first_with_some : FuncData
  a_determinant : Addr
  d_determinant : FuncData
  a_row_without : Addr
  d_row_without : FuncData
  a_table_without : Addr
  d_table_without : FuncData
  a_refuse_bad_web : Addr
  d_refuse_bad_web : FuncData
  a_Web___init : Addr
  d_Web___init : FuncData
  a_is_tie : Addr
  d_is_tie : FuncData
  a_have_common : Addr
  d_have_common : FuncData
  a_is_set : Addr
  d_is_set : FuncData
  a_made_set : Addr
  d_made_set : FuncData
  a_merged_marks : Addr
  d_merged_marks : FuncData
  a_piece_marks : Addr
  d_piece_marks : FuncData
  a_weighted_table : Addr
  d_weighted_table : FuncData
  a_pull_table : Addr
  d_pull_table : FuncData
  a_tree_count : Addr
  d_tree_count : FuncData
  a_part_count : Addr
  d_part_count : FuncData
  a_count_with : Addr
  d_count_with : FuncData
  a_law_at : Addr
  d_law_at : FuncData
  a_law_mixed : Addr
  d_law_mixed : FuncData
  a_law_whole : Addr
  d_law_whole : FuncData
  a_law_rings : Addr
  d_law_rings : FuncData
  a_law_ring_count : Addr
  d_law_ring_count : FuncData
  a_law_made : Addr
  d_law_made : FuncData
  a_law_stirred : Addr
  d_law_stirred : FuncData
  a_law : Addr
  d_law : FuncData
  A_Web : Addr
  A_WebError : Addr
  A_BadWeb : Addr
  A_BadSet : Addr
  A_NotSquare : Addr
structure Txt (K : PySem.W.Frag) (mg : Str → Option Value) (t : Adr) : Prop where
  f_refuse_not_square : Fun K "refuse_not_square" "refuse_not_square" s_refuse_not_square t.a_refuse_not_square t.d_refuse_not_square
  b_refuse_not_square : Binds K t.d_refuse_not_square ["table"] []
  m_refuse_not_square : mg "refuse_not_square" = some (.ref t.a_refuse_not_square)
  f_row_taken_off : Fun K "row_taken_off" "row_taken_off" s_row_taken_off t.a_row_taken_off t.d_row_taken_off
  b_row_taken_off : Binds K t.d_row_taken_off ["row", "pivot", "last"] []
  m_row_taken_off : mg "row_taken_off" = some (.ref t.a_row_taken_off)
  f_first_with_some : Fun K "first_with_some" "first_with_some" s_first_with_some t.a_first_with_some t.d_first_with_some
  b_first_with_some : Binds K t.d_first_with_some ["rows"] []
  m_first_with_some : mg "first_with_some" = some (.ref t.a_first_with_some)
  f_determinant : Fun K "determinant" "determinant" s_determinant t.a_determinant t.d_determinant
  b_determinant : Binds K t.d_determinant ["table"] []
  m_determinant : mg "determinant" = some (.ref t.a_determinant)
  f_row_without : Fun K "row_without" "row_without" s_row_without t.a_row_without t.d_row_without
  b_row_without : Binds K t.d_row_without ["row", "number"] []
  m_row_without : mg "row_without" = some (.ref t.a_row_without)
  f_table_without : Fun K "table_without" "table_without" s_table_without t.a_table_without t.d_table_without
  b_table_without : Binds K t.d_table_without ["table", "number"] []
  m_table_without : mg "table_without" = some (.ref t.a_table_without)
  f_refuse_bad_web : Fun K "refuse_bad_web" "refuse_bad_web" s_refuse_bad_web t.a_refuse_bad_web t.d_refuse_bad_web
  b_refuse_bad_web : Binds K t.d_refuse_bad_web ["places", "ties"] []
  m_refuse_bad_web : mg "refuse_bad_web" = some (.ref t.a_refuse_bad_web)
  f_Web___init : Fun K "__init__" "Web.__init__" s_Web___init t.a_Web___init t.d_Web___init
  b_Web___init : Binds K t.d_Web___init ["self", "places", "ties"] []
  f_is_tie : Fun K "is_tie" "is_tie" s_is_tie t.a_is_tie t.d_is_tie
  b_is_tie : Binds K t.d_is_tie ["web", "number"] []
  m_is_tie : mg "is_tie" = some (.ref t.a_is_tie)
  f_have_common : Fun K "have_common" "have_common" s_have_common t.a_have_common t.d_have_common
  b_have_common : Binds K t.d_have_common ["one", "other"] []
  m_have_common : mg "have_common" = some (.ref t.a_have_common)
  f_is_set : Fun K "is_set" "is_set" s_is_set t.a_is_set t.d_is_set
  b_is_set : Binds K t.d_is_set ["web", "ties"] []
  m_is_set : mg "is_set" = some (.ref t.a_is_set)
  f_made_set : Fun K "made_set" "made_set" s_made_set t.a_made_set t.d_made_set
  b_made_set : Binds K t.d_made_set ["web", "ties"] []
  m_made_set : mg "made_set" = some (.ref t.a_made_set)
  f_merged_marks : Fun K "merged_marks" "merged_marks" s_merged_marks t.a_merged_marks t.d_merged_marks
  b_merged_marks : Binds K t.d_merged_marks ["web", "marks", "ties"] []
  m_merged_marks : mg "merged_marks" = some (.ref t.a_merged_marks)
  f_piece_marks : Fun K "piece_marks" "piece_marks" s_piece_marks t.a_piece_marks t.d_piece_marks
  b_piece_marks : Binds K t.d_piece_marks ["web", "ties"] []
  m_piece_marks : mg "piece_marks" = some (.ref t.a_piece_marks)
  f_weighted_table : Fun K "weighted_table" "weighted_table" s_weighted_table t.a_weighted_table t.d_weighted_table
  b_weighted_table : Binds K t.d_weighted_table ["web", "weights"] []
  m_weighted_table : mg "weighted_table" = some (.ref t.a_weighted_table)
  f_pull_table : Fun K "pull_table" "pull_table" s_pull_table t.a_pull_table t.d_pull_table
  b_pull_table : Binds K t.d_pull_table ["web"] []
  m_pull_table : mg "pull_table" = some (.ref t.a_pull_table)
  f_tree_count : Fun K "tree_count" "tree_count" s_tree_count t.a_tree_count t.d_tree_count
  b_tree_count : Binds K t.d_tree_count ["web"] []
  m_tree_count : mg "tree_count" = some (.ref t.a_tree_count)
  f_part_count : Fun K "part_count" "part_count" s_part_count t.a_part_count t.d_part_count
  b_part_count : Binds K t.d_part_count ["web", "inside", "outside"] []
  m_part_count : mg "part_count" = some (.ref t.a_part_count)
  f_count_with : Fun K "count_with" "count_with" s_count_with t.a_count_with t.d_count_with
  b_count_with : Binds K t.d_count_with ["web", "inside", "outside"] []
  m_count_with : mg "count_with" = some (.ref t.a_count_with)
  f_law_at : Fun K "_law_at" "_law_at" s_law_at t.a_law_at t.d_law_at
  b_law_at : Binds K t.d_law_at ["script", "k"] []
  m_law_at : mg "_law_at" = some (.ref t.a_law_at)
  f_law_mixed : Fun K "_law_mixed" "_law_mixed" s_law_mixed t.a_law_mixed t.d_law_mixed
  b_law_mixed : Binds K t.d_law_mixed ["cell", "k"] []
  m_law_mixed : mg "_law_mixed" = some (.ref t.a_law_mixed)
  f_law_whole : Fun K "_law_whole" "_law_whole" s_law_whole t.a_law_whole t.d_law_whole
  b_law_whole : Binds K t.d_law_whole ["found"] []
  m_law_whole : mg "_law_whole" = some (.ref t.a_law_whole)
  f_law_rings : Fun K "_law_rings" "_law_rings" s_law_rings t.a_law_rings t.d_law_rings
  b_law_rings : Binds K t.d_law_rings ["script"] []
  m_law_rings : mg "_law_rings" = some (.ref t.a_law_rings)
  f_law_ring_count : Fun K "_law_ring_count" "_law_ring_count" s_law_ring_count t.a_law_ring_count t.d_law_ring_count
  b_law_ring_count : Binds K t.d_law_ring_count ["sides"] []
  m_law_ring_count : mg "_law_ring_count" = some (.ref t.a_law_ring_count)
  f_law_made : Fun K "_law_made" "_law_made" s_law_made t.a_law_made t.d_law_made
  b_law_made : Binds K t.d_law_made ["rings"] []
  m_law_made : mg "_law_made" = some (.ref t.a_law_made)
  f_law_stirred : Fun K "_law_stirred" "_law_stirred" s_law_stirred t.a_law_stirred t.d_law_stirred
  b_law_stirred : Binds K t.d_law_stirred ["ties", "script"] []
  m_law_stirred : mg "_law_stirred" = some (.ref t.a_law_stirred)
  f_law : Fun K "law" "law" s_law t.a_law t.d_law
  b_law : Binds K t.d_law ["script"] []
  m_law : mg "law" = some (.ref t.a_law)
  c_Web : mg "Web" = some (.ref t.A_Web)
  cl_Web : Cls K t.A_Web
  k_Web : Mk K t.A_Web t.a_Web___init
  n_Web_places : NoAttr K t.A_Web "places"
  n_Web_ties : NoAttr K t.A_Web "ties"
  c_WebError : mg "WebError" = some (.ref t.A_WebError)
  c_BadWeb : mg "BadWeb" = some (.ref t.A_BadWeb)
  c_BadSet : mg "BadSet" = some (.ref t.A_BadSet)
  c_NotSquare : mg "NotSquare" = some (.ref t.A_NotSquare)
  x_BadSet : XCls K (t.A_BadSet)
  x_NotSquare : XCls K (t.A_NotSquare)
  em_BadSet : PySem.W.exmOne K (.ref (t.A_BadSet)) (.ref (t.A_WebError)) = some true
  em_NotSquare : PySem.W.exmOne K (.ref (t.A_NotSquare)) (.ref (t.A_WebError)) = some true
  g_MOST_PLACES : ∃ tk, mg "MOST_PLACES" = some (.int 14 tk)
  g_MOST_TIES : ∃ tk, mg "MOST_TIES" = some (.int 30 tk)
  n_any : mg "any" = none
  n_bool : mg "bool" = none
  n_enumerate : mg "enumerate" = none
  n_int : mg "int" = none
  n_isinstance : mg "isinstance" = none
  n_len : mg "len" = none
  n_list : mg "list" = none
  n_max : mg "max" = none
  n_min : mg "min" = none
  n_range : mg "range" = none
  n_set : mg "set" = none
  n_sorted : mg "sorted" = none
  n_sum : mg "sum" = none
  n_tuple : mg "tuple" = none
  n_zip : mg "zip" = none
end My
namespace My
open PySem L2 PyProof.Rows
set_option maxHeartbeats 4000000
def sp_refuse_not_square (K : PySem.W.Frag) (N : Addr) : Sp := fun vs H Q E => ∃ (a : Addr) (kd : Bool) (xs : List V) (L : List (List Int)), vs = [.ref a] ∧ SqK kd K H a xs ∧ Bears (RowV K H) xs L ∧
  ((∀ l ∈ L, l.length = L.length) → Q .non H) ∧ (¬ (∀ l ∈ L, l.length = L.length) → E (.ref N) none H)
section
variable {P : Program} {w : World} {K : PySem.W.Frag} {mg : Str → Option Value} {base : Heap} {t : Adr}
theorem sc_refuse_not_square : FnScope ["table", "row"] ["table"] (defScope s_refuse_not_square) := ⟨rfl, rfl, rfl, by decide +kernel, rfl, by decide +kernel, by decide +kernel⟩
theorem ok_refuse_not_square (T : Txt K mg t) : FnOk P w K mg base (CXW P w) 1 t.a_refuse_not_square t.d_refuse_not_square ["table"] (sp_refuse_not_square K t.A_NotSquare) := by
  refine T.f_refuse_not_square.okX sc_refuse_not_square (fun vs H Q E h => ?_) (fun cdv A outer s H vs Q E hr h => ?_)
  · obtain ⟨a, kd, xs, L, rfl, _⟩ := h
    rfl
  · obtain ⟨a, kd, xs, L, rfl, hS, hB, q, qe⟩ := h
    refine ⟨_, (pss_one (ps_for PassesOwn.leaving rfl (pi_seqK K (pv 0)) (pg_name (i := 1) sc_refuse_not_square.nd rfl (Or.inl rfl))
      (pss_one (ps_if (pt_cmpR op_ne (pe_callB (call_lenK K) (by rfl) T.n_len Boot.«len» (pa_cons (pv 1) pa_nil)) (pe_callB (call_lenK K) (by rfl) T.n_len Boot.«len» (pa_cons (pv 0) pa_nil)) (nomark _))
      (pss_one (ps_raise T.x_NotSquare T.c_NotSquare (pa_cons pe_str pa_nil)))
      pss_nil)))), ?_⟩
    have hxl := hB.1
    refine ⟨_, rfl, a, rfl, for_seq (K := K) (k := kd) (a := a) (xs := xs) (fun i σ H2 => ∃ v1, σ = [some (.ref a), v1] ∧ H2 = H ∧ ∀ l ∈ L.take i, l.length = L.length) ⟨none, rfl, rfl, fun l h => (by cases h)⟩ (fun i σ H2 _ ⟨_, _, e, _⟩ => e ▸ hS) ?_ ?_⟩
    · rintro i v σ H2 hi ⟨v1, rfl, rfl, hall⟩
      obtain ⟨l, hl, r, k, rfl, hr⟩ := hB.at hi
      refine nm ?_
      refine ⟨_, rfl, r, _, rfl, hr.or, _, rfl, a, xs, rfl, hS.or, rfl, _, rfl, ?_⟩
      rw [il_length, dec_int]
      refine itn2 (fun e => ?_) (fun e => ?_)
      · refine ⟨_, rfl, rfl, fun m hm => ?_⟩
        rw [List.take_succ, hl] at hm
        rcases List.mem_append.mp hm with h | h
        · exact hall m h
        · have hm' : m = l := by simpa using h
          rw [hm']
          omega
      · exact ⟨by show 1 ≤ sizeLine; decide, qe fun h => e (by rw [h l (List.mem_of_getElem? hl), hxl])⟩
    · rintro σ H2 ⟨v1, rfl, rfl, hall⟩
      rw [hxl, List.take_length] at hall
      exact q hall
end
end My
namespace My
open PySem L2 PyProof.Rows
set_option maxHeartbeats 4000000
/-- a row once the pivot is taken off -/
def sp_row_taken_off (K : PySem.W.Frag) : Sp := fun vs H Q _ => ∃ (r p : Addr) (x y last : Int) (l q : List Int), vs = [.ref r, .ref p, .int last] ∧ SqL K H r (IL (x :: l)) ∧ SqL K H p (IL (y :: q)) ∧ l.length = q.length ∧ l.length ≤ 1000 ∧ last ≠ 0 ∧ last.natAbs < 2 ^ 9000 ∧
  (∀ z ∈ x :: l, z.natAbs < 2 ^ 9000) ∧ (∀ z ∈ y :: q, z.natAbs < 2 ^ 9000) ∧ ∀ (c : Addr) (H' : Hp), Same H H' → H c = none → H' c = some (.lst (IL (tkn y q last (x :: l)))) → Q (.ref c) H'
section
variable {P : Program} {w : World} {K : PySem.W.Frag} {mg : Str → Option Value} {base : Heap} {t : Adr}
theorem sc_row_taken_off : FnScope ["row", "pivot", "last"] ["row", "pivot", "last"] (defScope s_row_taken_off) := ⟨rfl, rfl, rfl, by decide +kernel, rfl, by decide +kernel, by decide +kernel⟩
theorem ok_row_taken_off (T : Txt K mg t) : FnOk P w K mg base CX0 1 t.a_row_taken_off t.d_row_taken_off ["row", "pivot", "last"] (sp_row_taken_off K) := by
  refine T.f_row_taken_off.ok sc_row_taken_off (fun vs H Q E h => ?_) (fun cdv A outer s H vs Q E hr h => ?_)
  · obtain ⟨r, p, x, y, last, l, q, rfl, _⟩ := h
    rfl
  · obtain ⟨r, p, x, y, last, l, q', rfl, hR, hP, hlq, hl, l0, l1, hx, hy, q⟩ := h
    refine ⟨_, (pss_one (ps_ret (pe_lc rfl (sc0 := defScope s_row_taken_off) (N0 := ["row", "pivot", "last"]) (N' := ["own", "other", "pivot", "row", "last"]) (o := 2) (fr := [1, 0, 2]) ⟨rfl, by decide +kernel, by decide +kernel, by decide +kernel, rfl, by decide +kernel⟩ (pi_zip K rfl T.n_zip (pa_cons (pe_slice (sl_listK K) (pv 0) (po_some pe_int) po_none) (pa_cons (pe_slice (sl_listK K) (pv 1) (po_some pe_int) po_none) pa_nil))) (own_tup (own_cons (by decide) (own_cons (by decide) own_nil))) (fun _ _ _ _ => (pg_tupK (n := 2) K rfl (pgs_cons (pg_name (i := 0) (show List.Nodup (["own", "other", "pivot", "row", "last"] : List Str) by decide +kernel) rfl (Or.inl rfl)) (pgs_cons (pg_name (i := 1) (show List.Nodup (["own", "other", "pivot", "row", "last"] : List Str) by decide +kernel) rfl (Or.inl rfl)) pgs_nil)))) (fun _ _ _ _ => pts_nil) (fun _ _ _ _ => (pe_op op_fdivL (pe_op op_sub (pe_op op_mulL (pe_ix (ix_listK K) (pv 2) pe_int (fun _ _ => rfl)) (pv 0)) (pe_op op_mulL (pe_ix (ix_listK K) (pv 3) pe_int (fun _ _ => rfl)) (pv 1))) (pv 4)))))), ?_⟩
    refine ⟨_, rfl, _, rfl, r, _, rfl, hR, fun p1 hp1 => ?_⟩
    rw [cut_tail]
    have s1 := same_at (o := .lst (IL l)) hp1
    refine ⟨_, rfl, _, rfl, p, _, rfl, s1.seq hP, fun p2 hp2 => ?_⟩
    rw [cut_tail]
    have s2 := same_at (o := .lst (IL q')) hp2
    have s12 := s1.trans s2
    have h1 := s2 _ _ (upd_same (H := H) (a := p1) (o := .lst (IL l)))
    have h2 : (upd (upd H p1 (.lst (IL l))) p2 (.lst (IL q'))) p2 = some (.lst (IL q')) := upd_same
    generalize upd (upd H p1 (.lst (IL l))) p2 (.lst (IL q')) = H2 at *
    refine ⟨p1, p2, rfl, ⟨_, _, SqL.of h1, SqL.of h2⟩, lc_zip (K := K) (a := p1) (b := p2) (xs := IL l) (ys := IL q') (fun i zs H3 => Same H2 H3 ∧ i ≤ l.length ∧ zs = IL ((tkn y q' last (x :: l)).take i)) ⟨Same.refl _, Nat.zero_le _, rfl⟩ (by rw [il_length, il_length]; exact hlq) (small60' (by rw [il_length]; omega))
      (fun i zs H3 hi ⟨e, hi2, ez⟩ => ⟨SqL.of (e _ _ h1), SqL.of (e _ _ h2), by rw [ez, il_length, List.length_take]; omega⟩) ?_ ?_⟩
    · rintro i u v zs H3 pt hpt hu hv ⟨s3, hil, rfl⟩ S hSS
      obtain ⟨own, rfl, ho⟩ := il_get hu
      obtain ⟨oth, rfl, ht⟩ := il_get hv
      have hil' := (List.getElem?_eq_some_iff.mp ho).1
      have s4 := same_at (o := .tup [.int own, .int oth]) hpt
      refine ⟨pt, _, rfl, SqT.of upd_same, rfl, _, _, rfl, _, _, rfl, rfl, ?_⟩
      have s34 := s12.trans (s3.trans s4)
      have a1 := hy y List.mem_cons_self
      have a2 := hx own (List.mem_cons_of_mem _ (List.mem_of_getElem? ho))
      have a3 := hx x List.mem_cons_self
      have a4 := hy oth (List.mem_cons_of_mem _ (List.mem_of_getElem? ht))
      refine ⟨_, rfl, p, _, 0, .int y, rfl, rfl, s34.seq hP, atI_of (n := 0) rfl rfl, _, rfl, _, _, rfl, rfl, ⟨a1, a2⟩, _, rfl, r, _, 0, .int x, rfl, rfl, s34.seq hR, atI_of (n := 0) rfl rfl, _, rfl, _, _, rfl, rfl, ⟨a3, a4⟩, _, _, rfl, rfl, _, rfl, _, _, rfl, rfl, ⟨l0, l1⟩, ?_⟩
      refine hSS _ _ ⟨s3.trans s4, hil', ?_⟩
      have e : (tkn y q' last (x :: l))[i]? = some ((y * own - x * oth).fdiv last) := by
        show (List.zipWith _ l q')[i]? = _
        rw [List.getElem?_zipWith, ho, ht]
        rfl
      rw [List.take_succ, e]
      exact (il_snoc _ _).symm
    · rintro zs H3 ⟨s3, _, rfl⟩ c hc
      rw [il_length, List.take_of_length_le (by rw [tkn_len (by rw [List.length_cons, hlq])]; omega)]
      exact q c _ (s12.trans (s3.trans (same_at hc))) ((s12.trans s3).free hc) upd_same
end
end My
namespace My
open PySem L2 PyProof.Rows
set_option maxHeartbeats 4000000
/-- the first row that does not begin with nought -/
def sp_first_with_some (K : PySem.W.Frag) : Sp := fun vs H Q _ => ∃ (a : Addr) (ys : List V) (R : List (List Int)), vs = [.ref a] ∧ SqL K H a ys ∧ Bears (ListV H) ys R ∧ (∀ l ∈ R, 0 < l.length) ∧
  (∀ H' : Hp, Same H H' → (∀ i, i < R.length → fnL R i 0 = 0) → Q .non H') ∧ (∀ (t : Nat) (H' : Hp), Same H H' → t < R.length → fnL R t 0 ≠ 0 → Q (.int t) H')
section
variable {P : Program} {w : World} {K : PySem.W.Frag} {mg : Str → Option Value} {base : Heap} {t : Adr}
theorem sc_first_with_some : FnScope ["rows", "at", "row"] ["rows"] (defScope s_first_with_some) := ⟨rfl, rfl, rfl, by decide +kernel, rfl, by decide +kernel, by decide +kernel⟩
theorem ok_first_with_some (T : Txt K mg t) : FnOk P w K mg base CX0 1 t.a_first_with_some t.d_first_with_some ["rows"] (sp_first_with_some K) := by
  refine T.f_first_with_some.ok sc_first_with_some (fun vs H Q E h => ?_) (fun cdv A outer s H vs Q E hr h => ?_)
  · obtain ⟨a, ys, R, rfl, _⟩ := h
    rfl
  · obtain ⟨a, ys, R, rfl, hS, hB, hp, q0, q1⟩ := h
    refine ⟨_, (pss_cons (ps_for PassesOwn.never rfl (pi_enumK K rfl T.n_enumerate (pa_cons (pv 0) pa_nil)) (pg_tupK (n := 2) K rfl (pgs_cons (pg_name (i := 1) sc_first_with_some.nd rfl (Or.inl rfl)) (pgs_cons (pg_name (i := 2) sc_first_with_some.nd rfl (Or.inl rfl)) pgs_nil)))
      (pss_one (ps_if (pt_cmpR op_ne (pe_ix (ix_listK K) (pv 2) pe_int (fun _ _ => rfl)) pe_int (nomark _))
      (pss_one (ps_ret (pv 1)))
      pss_nil)))
      (pss_one (ps_ret pe_non))), ?_⟩
    have hyl := hB.1
    refine ⟨_, rfl, a, rfl, ⟨_, hS⟩, for_enum (K := K) (a := a) (xs := ys) (fun i σ H2 => ∃ v1 v2, σ = [some (.ref a), v1, v2] ∧ Same H H2 ∧ ∀ j, j < i → fnL R j 0 = 0) ⟨none, none, rfl, Same.refl _, fun j h => absurd h (Nat.not_lt_zero _)⟩ (fun i σ H2 _ ⟨_, _, _, e, _⟩ => e.seq hS) ?_ ?_⟩
    · rintro i v σ H2 pt hpt hi ⟨v1, v2, rfl, s2, hz⟩
      obtain ⟨l, hl, r, rfl, hr⟩ := hB.at hi
      have hlp := hp l (List.mem_of_getElem? hl)
      obtain ⟨x, l', rfl⟩ : ∃ x l', l = x :: l' := by
        cases l with
        | nil => exact absurd hlp (Nat.lt_irrefl 0)
        | cons x l' => exact ⟨x, l', rfl⟩
      have e0 : fnL R i 0 = x := fnL_at hl rfl
      have s3 := s2.trans (same_at (o := .tup [.int i, .ref r]) hpt)
      refine ⟨pt, _, rfl, SqT.of upd_same, rfl, _, _, rfl, _, _, rfl, rfl, ?_⟩
      generalize upd H2 pt (.tup [.int i, .ref r]) = H3 at *
      refine ⟨_, rfl, r, _, 0, .int x, rfl, rfl, SqL.of (s3 _ _ hr), atI_of (n := 0) rfl rfl, rfl, _, rfl, ?_⟩
      rw [dec_int]
      refine itn2 (fun e => ?_) (fun e => ?_)
      · refine ⟨_, _, rfl, s3, fun j hj => ?_⟩
        by_cases c : j = i
        · rw [c, e0, e]
        · exact hz j (by omega)
      · exact ⟨_, rfl, q1 i H3 s3 (by have := (List.getElem?_eq_some_iff.mp hl).1; exact this) (by rw [e0]; exact e)⟩
    · rintro σ H2 ⟨v1, v2, rfl, s2, hz⟩
      exact q0 H2 s2 fun i hi => hz i (by omega)
end
end My
namespace My
open PySem L2 PyProof.Rows
set_option maxHeartbeats 4000000
def sp_determinant (K : PySem.W.Frag) (N : Addr) : Sp := fun vs H Q E => ∃ (a : Addr) (kd : Bool) (xs : List V) (L : List (List Int)), vs = [.ref a] ∧ SqK kd K H a xs ∧ Bears (RowV K H) xs L ∧ L.length ≤ 16 ∧ (∀ i j, i < L.length → j < L.length → (fnL L i j).natAbs ≤ 2 ^ 400) ∧
  ((∀ l ∈ L, l.length = L.length) → ∀ H' : Hp, Same H H' → Q (.int (det L.length (fnL L))) H') ∧ (¬ (∀ l ∈ L, l.length = L.length) → ∀ H' : Hp, Same H H' → E (.ref N) none H')
theorem contS5 {s rest : TS} {D : Ends} {σ : L2.St} {H : Hp} (P : L2.St → Hp → Prop) (h1 : ∀ σ' H', P σ' H' → rest D σ' H') (h2 : ∀ K : L2.St → Hp → Prop, (∀ σ' H', P σ' H' → K σ' H') → s { D with nx := K } σ H) : tSeq s rest D σ H := h2 _ h1
section
variable {P : Program} {w : World} {K : PySem.W.Frag} {mg : Str → Option Value} {base : Heap} {t : Adr}
theorem sc_determinant : FnScope ["table", "rows", "sign", "last", "at", "pivot"] ["table"] (defScope s_determinant) := ⟨rfl, rfl, rfl, by decide +kernel, rfl, by decide +kernel, by decide +kernel⟩
theorem ok_determinant (T : Txt K mg t) : FnOk P w K mg base (CXW P w) 2 t.a_determinant t.d_determinant ["table"] (sp_determinant K t.A_NotSquare) := by
  refine T.f_determinant.okX sc_determinant (fun vs H Q E h => ?_) (fun cdv A outer s H vs Q E hr h => ?_)
  · obtain ⟨a, kd, xs, L, rfl, _⟩ := h
    rfl
  · obtain ⟨a, kd, xs, L, rfl, hS, hB, hL16, hA0, q, qe⟩ := h
    refine ⟨_, (pss_cons (ps_expr (pe_call (ok_refuse_not_square T) (hr.mono (by decide)) rfl T.m_refuse_not_square T.f_refuse_not_square.kp T.b_refuse_not_square .nil pxs (pa_cons (pv 0) pa_nil)))
      (pss_cons (ps_lc (i := 1) rfl sc_determinant.nd rfl rfl (sc0 := defScope s_determinant) (N0 := ["table", "rows", "sign", "last", "at", "pivot"]) (N' := ["row"]) (o := 1) (fr := []) ⟨rfl, by decide +kernel, by decide +kernel, by decide +kernel, rfl, by decide +kernel⟩ (pi_seqK K (pv 0)) (own_name (by decide)) (fun _ _ _ _ => (pg_name (i := 0) (show List.Nodup (["row"] : List Str) by decide +kernel) rfl (Or.inl rfl))) (fun _ _ _ _ => pts_nil) (fun _ _ _ _ => (pe_callTy (call_listK K) (by rfl) T.n_list Boot.«list» (pa_cons (pv 0) pa_nil))))
      (pss_cons (ps_set (i := 2) sc_determinant.nd rfl (Or.inl rfl) pe_int)
      (pss_cons (ps_set (i := 3) sc_determinant.nd rfl (Or.inr rfl) pe_int)
      (pss_cons (ps_while PassesOwn.leaving (pt_cmpR op_gt (pe_callB (call_lenK K) (by rfl) T.n_len Boot.«len» (pa_cons (pv 1) pa_nil)) pe_int (nomark _))
      (pss_cons (ps_set (i := 4) sc_determinant.nd rfl (Or.inl rfl) (pe_call (ok_first_with_some T) (hr.mono (by decide)) rfl T.m_first_with_some T.f_first_with_some.kp T.b_first_with_some .nil pass0 (pa_cons (pv 1) pa_nil)))
      (pss_cons (ps_if (pt_cmpR op_isN (pv 4) pe_non (nomark _))
      (pss_one (ps_ret pe_int))
      pss_nil)
      (pss_cons (ps_if (pt_cmpR op_eq (pe_op op_mod (pv 4) pe_int) pe_int (nomark _))
      (pss_one (ps_set (i := 2) sc_determinant.nd rfl (Or.inl rfl) (pe_un un_neg (pv 2))))
      pss_nil)
      (pss_cons (ps_set (i := 5) sc_determinant.nd rfl (Or.inr rfl) (pe_bmK K PySem.F.plainAttrs_list PySem.F.slot_list_pop PySem.F.type_list_pop mt_popAt (pv 1) (pa_cons (pv 4) pa_nil)))
      (pss_cons (ps_lc (i := 1) rfl sc_determinant.nd rfl rfl (sc0 := defScope s_determinant) (N0 := ["table", "rows", "sign", "last", "at", "pivot"]) (N' := ["row", "pivot", "last"]) (o := 1) (fr := [5, 3]) ⟨rfl, by decide +kernel, by decide +kernel, by decide +kernel, rfl, by decide +kernel⟩ (pi_listK K (pv 1)) (own_name (by decide)) (fun _ _ _ _ => (pg_name (i := 0) (show List.Nodup (["row", "pivot", "last"] : List Str) by decide +kernel) rfl (Or.inl rfl))) (fun _ _ _ _ => pts_nil) (fun _ _ _ _ => (pe_call (ok_row_taken_off T) (hr.mono (by decide)) rfl T.m_row_taken_off T.f_row_taken_off.kp T.b_row_taken_off .nil pass0 (pa_cons (pv 0) (pa_cons (pv 1) (pa_cons (pv 2) pa_nil))))))
      (pss_one (ps_set (i := 3) sc_determinant.nd rfl (Or.inr rfl) (pe_ix (ix_listK K) (pv 5) pe_int (fun _ _ => rfl))))))))))
      (pss_one (ps_ret (pe_op op_mulL (pv 2) (pv 3))))))))), ?_⟩
    have hxl := hB.1
    refine ⟨_, rfl, a, kd, xs, L, rfl, hS, hB, fun hsq => ?_, fun h => qe h H (Same.refl H)⟩
    have q := q hsq
    obtain ⟨n, hn⟩ : ∃ n, n = L.length := ⟨_, rfl⟩
    rw [← hn] at q hsq hA0 hL16
    -- rows
    refine ⟨_, rfl, a, rfl, lc_seq (K := K) (k := kd) (a := a) (xs := xs) (fun i zs H2 => Same H H2 ∧ i ≤ xs.length ∧ Bears (ListV H2) zs (L.take i)) ⟨Same.refl _, Nat.zero_le _, ⟨rfl, fun i l e => by simp at e⟩⟩ (small60' (by omega)) (fun i zs H2 hi ⟨e, hi2, ez⟩ => ⟨hS.same e, by rw [ez.1, List.length_take]; omega⟩) ?_ ?_⟩
    · rintro i v zs H2 hi ⟨s2, hil, hZ⟩ S hSS
      obtain ⟨l, hl, r, k, rfl, hr⟩ := hB.at hi
      have hil' := (List.getElem?_eq_some_iff.mp hi).1
      refine nm ?_
      refine ⟨_, rfl, r, _, rfl, (hr.same s2).or, fun c hc => hSS _ _ ⟨s2.trans (same_at hc), hil', ?_⟩⟩
      rw [List.take_succ, hl]
      refine (hZ.imp fun _ _ ⟨r', e, h⟩ => ⟨r', e, same_at hc _ _ h⟩).snoc ⟨c, rfl, upd_same⟩
    rintro zs H2 ⟨s2, _, hZ⟩ rA hrA
    rw [hxl, List.take_length] at hZ
    have s3 := s2.trans (same_at (o := .lst zs) hrA)
    -- while
    refine ⟨fun m σ H4 => ∃ (A : Mx) (k : Nat) (rA : Addr) (ys : List V) (R : List (List Int)) (sgn last : Int) (v4 v5 : Option V), σ = [some (.ref a), some (.ref rA), some (.int sgn), some (.int last), v4, v5] ∧ Same H H4 ∧ H rA = none ∧ H4 rA = some (.lst ys) ∧ Bears (LiV rA H4) ys R ∧ R.length = m ∧ (∀ l ∈ R, l.length = m) ∧ k + m = n ∧ Bar A k m (fnL R) last ∧ det n (fnL L) = sgn * det n A ∧ (∀ i j, i < n → j < n → (A i j).natAbs ≤ 2 ^ 400) ∧ (m = 0 → last = det n A) ∧ (sgn = 1 ∨ sgn = -1) ∧ last.natAbs < 2 ^ 9000, ⟨n, fnL L, 0, rA, zs, L, 1, 1, none, none, rfl, s3, s2.free hrA, upd_same, ?_, hn.symm, hsq, by omega, bar_start _ _, by omega, hA0, fun e => by rw [e]; rfl, .inl rfl, Nat.one_lt_two_pow (by decide)⟩, ?_⟩
    · exact hZ.imp fun v l ⟨r, e, h⟩ => ⟨r, e, same_at hrA _ _ h, ne_of_none h hrA⟩
    rintro m σ H4 ⟨A, k, rA, ys, R, sgn, last, v4, v5, rfl, s4, hr0, hr4, hR, hRm, hRl, hkm, hBar, hdet, hAb, hfin, hsg, hlb⟩
    have hyl := hR.1
    refine ⟨_, rfl, rA, ys, rfl, .inl (SqL.of hr4), _, _, rfl, rfl, _, rfl, ?_⟩
    refine itd2 (fun hpos => ?_) (fun hpos => ?_)
    · obtain ⟨M, rfl⟩ : ∃ M, m = M + 1 := ⟨m - 1, by omega⟩
      refine ⟨_, fun σ' H' h => ⟨M, Nat.lt_succ_self M, h⟩, ?_⟩
      have hsm : ∀ l ∈ R, ∀ z ∈ l, z.natAbs < 2 ^ 9000 := fun l hl z hz => by
        obtain ⟨i, hi⟩ := List.getElem?_of_mem hl
        obtain ⟨j, hj⟩ := List.getElem?_of_mem hz
        have h1 := (List.getElem?_eq_some_iff.mp hi).1
        have h2 := (List.getElem?_eq_some_iff.mp hj).1
        have h3 := hRl l hl
        have := bar_small hBar hkm hL16 hAb (i := i) (j := j) (by omega) (by omega)
        rw [fnL_at hi hj] at this
        exact this
      refine ⟨_, rfl, rA, ys, R, rfl, SqL.of hr4, hR.imp fun _ _ h => h.list, fun l hl => by rw [hRl l hl]; omega, fun H5 s5 h0 => ?_, fun t H5 s5 ht hne => ?_⟩
      · refine ⟨_, rfl, rfl, _, rfl, ?_⟩
        refine itd (c := V.non = V.non) rfl ?_
        have z : det n A = 0 := by
          have := bar_none hBar fun i hi => h0 i (by omega)
          rw [show k + M + 1 = n by omega] at this
          exact this
        rw [hdet, z, Int.mul_zero] at q
        exact q H5 (s4.trans s5)
      refine ⟨_, rfl, rfl, _, rfl, ?_⟩
      refine itdn (c := V.int (t : Int) = V.non) (fun z => nomatch z) ?_
      refine nm ?_
      dsimp only
      refine contS5 (fun σ H6 => ∃ sgn' : Int, H6 = H5 ∧ σ = [some (.ref a), some (.ref rA), some (.int sgn'), some (.int last), some (.int t), v5] ∧ sgn' = sgn * sg t) ?_ ?_
      · rintro σ H6 ⟨sgn', rfl, rfl, hsgn⟩
        have hr6 := s5 _ _ hr4
        have hR6 := hR.imp fun _ _ h => h.same s5
        obtain ⟨l, hl⟩ : ∃ l, R[t]? = some l := ⟨_, List.getElem?_eq_getElem ht⟩
        have hll := hRl l (List.mem_of_getElem? hl)
        obtain ⟨y, p', rfl⟩ : ∃ y p', l = y :: p' := by
          cases l with
          | nil => cases hll
          | cons y p' => exact ⟨y, p', rfl⟩
        have hpl : p'.length = M := by rw [List.length_cons] at hll; omega
        obtain ⟨v, hv, pA, rfl, hpA, hpn⟩ := hR6.2 t _ hl
        have hy0 : y ≠ 0 := by rw [fnL_at hl rfl] at hne; exact hne
        -- pivot
        refine ⟨_, rfl, .inl ⟨rfl, _, SqL.of hr6⟩, _, rfl, rA, ys, (t : Int), t, .ref pA, rfl, rfl, hr6, by omega, by omega, by rw [seq_ix (by omega) (by omega), Int.toNat_natCast], hv, ?_⟩
        have hpA7 : (upd H6 rA (.lst (ys.eraseIdx t))) pA = some (.lst (IL (y :: p'))) := by rw [upd_ne hpn]; exact hpA
        have s7 : Same H (upd H6 rA (.lst (ys.eraseIdx t))) := same_upd hr0 (s4.trans s5)
        have hR7 : Bears (LiV rA (upd H6 rA (.lst (ys.eraseIdx t)))) (ys.eraseIdx t) (R.eraseIdx t) := (hR6.erase t).imp fun _ _ h => h.mut
        have hr7 : (upd H6 rA (.lst (ys.eraseIdx t))) rA = some (.lst (ys.eraseIdx t)) := upd_same
        generalize upd H6 rA (.lst (ys.eraseIdx t)) = H7 at *
        have eRl : (R.eraseIdx t).length = M := by rw [List.length_eraseIdx, if_pos ht]; omega
        have hRl7 : ∀ l ∈ R.eraseIdx t, l.length = M + 1 := fun l h => hRl l (List.mem_of_mem_eraseIdx h)
        have hy7 := hR7.1
        -- rows
        refine ⟨_, rfl, rA, rfl, ⟨_, SqL.of hr7⟩, lc_list (K := K) (a := rA) (xs := ys.eraseIdx t) (fun i zs H8 => Same H7 H8 ∧ i ≤ (ys.eraseIdx t).length ∧ Bears (ListV H8) zs (((R.eraseIdx t).take i).map (tkn y p' last))) ⟨Same.refl _, Nat.zero_le _, ⟨rfl, fun i l e => by simp at e⟩⟩ (small60' (by omega)) (fun i zs H8 hi ⟨e, hi2, ez⟩ => ⟨SqL.of (e _ _ hr7), by rw [ez.1, List.length_map, List.length_take]; omega⟩) ?_ ?_⟩
        · rintro i v zs H8 hi ⟨s8, hil, hZ8⟩ S hSS
          obtain ⟨l, hli, r, rfl, hr, _⟩ := hR7.at hi
          have hil' := (List.getElem?_eq_some_iff.mp hi).1
          have hl2 := hRl7 l (List.mem_of_getElem? hli)
          obtain ⟨x, l', rfl⟩ : ∃ x l', l = x :: l' := by
            cases l with
            | nil => cases hl2
            | cons x l' => exact ⟨x, l', rfl⟩
          have hl' : l'.length = M := by rw [List.length_cons] at hl2; omega
          refine nm ?_
          refine ⟨_, rfl, _, rfl, _, rfl, r, pA, x, y, last, l', p', rfl, SqL.of (s8 _ _ hr), SqL.of (s8 _ _ hpA7), by omega, by omega, hBar.1, hlb, hsm _ (List.mem_of_mem_eraseIdx (List.mem_of_getElem? hli)), hsm _ (List.mem_of_getElem? hl), fun c H9 s9 hc0 hc => hSS _ _ ⟨s8.trans s9, hil', ?_⟩⟩
          rw [List.take_succ, hli, List.map_append]
          exact (hZ8.imp fun _ _ ⟨r', e, h⟩ => ⟨r', e, s9 _ _ h⟩).snoc ⟨c, rfl, hc⟩
        rintro zs H8 ⟨s8, _, hZ8⟩ cA hcA
        rw [hy7, List.take_length] at hZ8
        have s9 := same_at (o := .lst zs) hcA
        -- last
        refine ⟨_, rfl, pA, _, 0, .int y, rfl, rfl, SqL.of (s9 _ _ (s8 _ _ hpA7)), atI_of (n := 0) rfl rfl, ?_⟩
        have hb1 : Bar (fun i => A (rotN k t i)) k (M + 1) (fnL ((y :: p') :: R.eraseIdx t)) last := by
          rw [rot_fnL hl]
          exact bar_rot hBar (by omega)
        have hb2 : Bar (fun i => A (rotN k t i)) (k + 1) M (fnL ((R.eraseIdx t).map (tkn y p' last))) y := bar_step hb1 hy0 fun i j hi hj => tkn_fnL hpl eRl hRl7 hi hj
        have hdr := det_rot (n := n) (k := k) (t := t) (A := A) (by omega)
        refine ⟨fun i => A (rotN k t i), k + 1, cA, zs, (R.eraseIdx t).map (tkn y p' last), sgn', y, _, _, rfl, s7.trans (s8.trans s9), (s7.trans s8).free hcA, upd_same, ?_, by rw [List.length_map]; exact eRl, fun l h => ?_, by omega, hb2, ?_, fun i j hi hj => hAb _ _ ?_ hj, fun e0 => ?_, ?_, hsm _ (List.mem_of_getElem? hl) y List.mem_cons_self⟩
        · exact hZ8.imp fun v l ⟨r, e, h⟩ => ⟨r, e, s9 _ _ h, ne_of_none h hcA⟩
        · obtain ⟨l0, h0, rfl⟩ := List.mem_map.mp h
          rw [tkn_len (by rw [hRl7 l0 h0, hpl]), hpl]
        · rw [hdr, hdet, hsgn, Int.mul_assoc, ← Int.mul_assoc (sg t), sg_sq, Int.one_mul]
        · unfold rotN
          split
          · omega
          · split
            · omega
            · split <;> omega
        · subst e0
          have := bar_end hb1
          rw [show k + 1 = n by omega] at this
          exact this
        · rw [hsgn]
          have hst : sg t = 1 ∨ sg t = -1 := by
            unfold sg
            split
            · exact .inl rfl
            · exact .inr rfl
          rcases hsg with e | e <;> rcases hst with f | f <;> rw [e, f]
          · exact .inl rfl
          · exact .inr rfl
          · exact .inr rfl
          · exact .inl rfl
      · intro Kn hK
        refine ⟨_, rfl, _, _, rfl, rfl, (by show (0 : Int) < 2; decide), rfl, _, rfl, ?_⟩
        rw [dec_int]
        refine itd2 (fun h1 => ?_) (fun h1 => ?_)
        · refine ⟨_, rfl, _, rfl, hK _ _ ⟨-sgn, rfl, rfl, ?_⟩⟩
          have e : sg t = -1 := by unfold sg; rw [if_neg (by omega)]
          rw [e]
          omega
        · refine hK _ _ ⟨sgn, rfl, rfl, ?_⟩
          have e : sg t = 1 := by unfold sg; rw [if_pos (by omega)]
          rw [e]
          omega
    · have hm0 : m = 0 := by omega
      refine ⟨_, rfl, _, rfl, _, _, rfl, rfl, ⟨?_, hlb⟩, ?_⟩
      · rcases hsg with e | e <;> rw [e] <;> exact Nat.one_lt_two_pow (by decide)
      · rw [hfin hm0] at *
        rw [hdet] at q
        exact q H4 s4
end
end My
namespace My
open PySem L2 PyProof.Rows
set_option maxHeartbeats 4000000
/-- a row without one of its numbers -/
def sp_row_without (K : PySem.W.Frag) : Sp := fun vs H Q _ => ∃ (a : Addr) (l : List Int) (i : Nat), vs = [.ref a, .int i] ∧ SqL K H a (IL l) ∧ l.length ≤ 1000 ∧ ∀ (r : Addr) (H' : Hp), Same H H' → H r = none → H' r = some (.lst (IL (cutz l i))) → Q (.ref r) H'
theorem il_cutz2 (l : List Int) (z : Int) : cutz (IL l) z = IL (cutz l z) := by
  unfold cutz
  show (l.map V.int).take _ ++ (l.map V.int).drop _ = (l.take _ ++ l.drop _).map V.int
  rw [List.map_append, List.map_take, List.map_drop]
section
variable {P : Program} {w : World} {K : PySem.W.Frag} {mg : Str → Option Value} {base : Heap} {t : Adr}
theorem sc_row_without : FnScope ["row", "number"] ["row", "number"] (defScope s_row_without) := ⟨rfl, rfl, rfl, by decide +kernel, rfl, by decide +kernel, by decide +kernel⟩
theorem ok_row_without (T : Txt K mg t) : FnOk P w K mg base CX0 1 t.a_row_without t.d_row_without ["row", "number"] (sp_row_without K) := by
  refine T.f_row_without.ok sc_row_without (fun vs H Q E h => ?_) (fun cdv A outer s H vs Q E hr h => ?_)
  · obtain ⟨a, l, i, rfl, _⟩ := h
    rfl
  · obtain ⟨a, l, i, rfl, hA, hl, q⟩ := h
    refine ⟨_, (pss_one (ps_ret (pe_op op_cat (pe_callTy (call_listK K) (by rfl) T.n_list Boot.«list» (pa_cons (pe_slice (sl_listK K) (pv 0) po_none (po_some (pv 1))) pa_nil)) (pe_callTy (call_listK K) (by rfl) T.n_list Boot.«list» (pa_cons (pe_slice (sl_listK K) (pv 0) (po_some (pe_op op_add (pv 1) pe_int)) po_none) pa_nil))))), ?_⟩
    refine ⟨_, rfl, _, rfl, (i : Int), rfl, a, _, rfl, hA, fun p1 hp1 => ?_⟩
    have u1 := same_at (o := .lst (cutV (IL l) none (some (i : Int)))) hp1
    refine ⟨p1, _, rfl, .inl (SqL.of upd_same), fun p2 hp2 => ?_⟩
    have u2 := same_at (o := .lst (cutV (IL l) none (some (i : Int)))) hp2
    refine ⟨_, rfl, _, rfl, _, _, rfl, rfl, _, rfl, a, _, rfl, (u1.trans u2).seq hA, fun p3 hp3 => ?_⟩
    have u3 := same_at (o := .lst (cutV (IL l) (some ((i : Int) + 1)) none)) hp3
    refine ⟨p3, _, rfl, .inl (SqL.of upd_same), fun p4 hp4 => ?_⟩
    have u4 := same_at (o := .lst (cutV (IL l) (some ((i : Int) + 1)) none)) hp4
    have c1 := cutV_length (IL l) none (some (i : Int))
    have c2 := cutV_length (IL l) (some ((i : Int) + 1)) none
    rw [il_length] at c1 c2
    refine ⟨p2, p4, _, _, rfl, rfl, (u3.trans u4) _ _ upd_same, upd_same, small60 (by omega), fun p5 hp5 => ?_⟩
    have u14 := u1.trans (u2.trans (u3.trans u4))
    refine q p5 _ (u14.trans (same_at hp5)) (u14.free hp5) ?_
    rw [upd_same, cut_z (by omega), il_cutz2]
end
end My
namespace My
open PySem L2 PyProof.Rows
set_option maxHeartbeats 4000000
/-- a table without one row and one column -/
def sp_table_without (K : PySem.W.Frag) : Sp := fun vs H Q _ => ∃ (a : Addr) (ys : List V) (L : List (List Int)) (i : Nat), vs = [.ref a, .int i] ∧ SqL K H a ys ∧ Bears (ListV H) ys L ∧ L.length ≤ 1000 ∧ (∀ l ∈ L, l.length ≤ 1000) ∧ i < L.length ∧
  ∀ (r : Addr) (zs : List V) (H' : Hp), Same H H' → H' r = some (.lst zs) → Bears (ListV H') zs ((cutz L i).map fun l => cutz l (i : Int)) → Q (.ref r) H'
theorem cutz_take {α : Type} {l : List α} {i j : Nat} {x : α} (hx : l[j]? = some x) : cutz (l.take (j + 1)) (i : Int) = cutz (l.take j) (i : Int) ++ (if j = i then [] else [x]) := by
  have hj := (List.getElem?_eq_some_iff.mp hx).1
  have e : l.take (j + 1) = l.take j ++ [x] := by rw [List.take_succ, hx]; rfl
  have hl : (l.take j).length = j := by rw [List.length_take]; omega
  have short : ∀ m : List α, m.length ≤ i → cutz m (i : Int) = m := fun m hm => by
    unfold cutz
    rw [Int.toNat_natCast, List.take_of_length_le hm, List.drop_eq_nil_of_le (by omega), List.append_nil]
  rw [e]
  by_cases c : j = i
  · subst c
    rw [if_pos rfl, List.append_nil, short (l.take j) (by omega)]
    unfold cutz
    rw [Int.toNat_natCast, List.take_append_of_le_length (by omega), List.drop_eq_nil_of_le (by rw [List.length_append, hl]; exact Nat.le_refl _), List.append_nil, List.take_of_length_le (by omega)]
  · rw [if_neg c]
    by_cases d : j < i
    · rw [short (l.take j ++ [x]) (by rw [List.length_append, hl]; exact d), short (l.take j) (by omega)]
    · unfold cutz
      rw [Int.toNat_natCast, List.take_append_of_le_length (by omega), List.drop_append_of_le_length (by omega), List.append_assoc]
section
variable {P : Program} {w : World} {K : PySem.W.Frag} {mg : Str → Option Value} {base : Heap} {t : Adr}
theorem sc_table_without : FnScope ["table", "number"] ["table", "number"] (defScope s_table_without) := ⟨rfl, rfl, rfl, by decide +kernel, rfl, by decide +kernel, by decide +kernel⟩
theorem ok_table_without (T : Txt K mg t) : FnOk P w K mg base CX0 2 t.a_table_without t.d_table_without ["table", "number"] (sp_table_without K) := by
  refine T.f_table_without.ok sc_table_without (fun vs H Q E h => ?_) (fun cdv A outer s H vs Q E hr h => ?_)
  · obtain ⟨a, ys, L, i, rfl, _⟩ := h
    rfl
  · obtain ⟨a, ys, L, i, rfl, hA, hB, hL, hLl, hi, q⟩ := h
    refine ⟨_, (pss_one (ps_ret (pe_lc rfl (sc0 := defScope s_table_without) (N0 := ["table", "number"]) (N' := ["at", "row", "number"]) (o := 2) (fr := [1]) ⟨rfl, by decide +kernel, by decide +kernel, by decide +kernel, rfl, by decide +kernel⟩ (pi_enumK K rfl T.n_enumerate (pa_cons (pv 0) pa_nil)) (own_tup (own_cons (by decide) (own_cons (by decide) own_nil))) (fun _ _ _ _ => (pg_tupK (n := 2) K rfl (pgs_cons (pg_name (i := 0) (show List.Nodup (["at", "row", "number"] : List Str) by decide +kernel) rfl (Or.inl rfl)) (pgs_cons (pg_name (i := 1) (show List.Nodup (["at", "row", "number"] : List Str) by decide +kernel) rfl (Or.inl rfl)) pgs_nil)))) (fun _ _ _ _ => (pts_one (pt_cmpR op_ne (pv 0) (pv 2) (nomark _)))) (fun _ _ _ _ => (pe_call (ok_row_without T) (hr.mono (by decide)) rfl T.m_row_without T.f_row_without.kp T.b_row_without .nil pass0 (pa_cons (pv 1) (pa_cons (pv 2) pa_nil))))))), ?_⟩
    have hyl := hB.1
    refine ⟨_, rfl, a, rfl, ⟨_, hA⟩, lc_enum (K := K) (a := a) (xs := ys) (fun j zs H2 => Same H H2 ∧ j ≤ ys.length ∧ Bears (ListV H2) zs ((cutz (L.take j) (i : Int)).map fun l => cutz l (i : Int))) ⟨Same.refl _, Nat.zero_le _, by rw [show (cutz (L.take 0) (i : Int)).map (fun l => cutz l (i : Int)) = [] by unfold cutz; simp]; exact ⟨rfl, fun i l e => by simp at e⟩⟩ (small60' (by omega)) (fun j zs H2 hj ⟨e, hj2, ez⟩ => ⟨e.seq hA, by
      rw [ez.1, List.length_map]
      refine Nat.le_trans (cutz_len _ _) ?_
      rw [List.length_take]
      omega⟩) ?_ ?_⟩
    · rintro j v zs H2 pt hpt hj ⟨s2, hjl, hZ⟩ S hSS
      obtain ⟨l, hl, r, rfl, hr⟩ := hB.at hj
      have hjl' := (List.getElem?_eq_some_iff.mp hj).1
      have s3 := same_at (o := .tup [.int j, .ref r]) hpt
      refine ⟨pt, _, rfl, SqT.of upd_same, rfl, _, _, rfl, _, _, rfl, rfl, ?_⟩
      have hZ3 : Bears (ListV (upd H2 pt (.tup [.int j, .ref r]))) zs ((cutz (L.take j) (i : Int)).map fun l => cutz l (i : Int)) := hZ.imp fun _ _ ⟨r', e, h⟩ => ⟨r', e, s3 _ _ h⟩
      have s23 := s2.trans s3
      generalize upd H2 pt (.tup [.int j, .ref r]) = H3 at *
      refine ⟨_, rfl, _, rfl, rfl, _, rfl, ?_⟩
      rw [dec_int]
      refine itn2 (fun e => ?_) (fun e => ?_)
      · refine hSS _ _ ⟨s23, hjl', ?_⟩
        rw [cutz_take hl, if_pos (by omega), List.append_nil]
        exact hZ3
      · refine ⟨_, rfl, _, rfl, r, l, i, rfl, SqL.of (s23 _ _ hr), hLl l (List.mem_of_getElem? hl), fun c H4 s4 _ hc => hSS _ _ ⟨s23.trans s4, hjl', ?_⟩⟩
        rw [cutz_take hl, if_neg (by omega), List.map_append]
        exact (hZ3.imp fun _ _ ⟨r', e, h⟩ => ⟨r', e, s4 _ _ h⟩).snoc ⟨c, rfl, hc⟩
    · rintro zs H2 ⟨s2, _, hZ⟩ p hp
      rw [hyl, List.take_length] at hZ
      exact q p zs _ (s2.trans (same_at hp)) upd_same (hZ.imp fun _ _ ⟨r', e, h⟩ => ⟨r', e, same_at hp _ _ h⟩)
end
end My
namespace My
open PySem L2 PyProof.Rows
set_option maxHeartbeats 4000000
/-- a good web is not refused; the ties may stand in a list or a tuple -/
def sp_refuse_bad_web (K : PySem.W.Frag) : Sp := fun vs H Q _ => ∃ (n : Int) (a : Addr) (kd : Bool) (xs : List V) (ps : List (Int × Int)), vs = [.int n, .ref a] ∧ SqK kd K H a xs ∧ PairsV H xs ps ∧ GoodW n ps ∧ Q .non H
section
variable {P : Program} {w : World} {K : PySem.W.Frag} {mg : Str → Option Value} {base : Heap} {t : Adr}
theorem sc_refuse_bad_web : FnScope ["places", "ties", "ends", "end"] ["places", "ties"] (defScope s_refuse_bad_web) := ⟨rfl, rfl, rfl, by decide +kernel, rfl, by decide +kernel, by decide +kernel⟩
theorem ok_refuse_bad_web (T : Txt K mg t) : FnOk P w K mg base CX0 1 t.a_refuse_bad_web t.d_refuse_bad_web ["places", "ties"] (sp_refuse_bad_web K) := by
  refine T.f_refuse_bad_web.ok sc_refuse_bad_web (fun vs H Q E h => ?_) (fun cdv A outer s H vs Q E hr h => ?_)
  · obtain ⟨n, a, kd, xs, ps, rfl, _⟩ := h
    rfl
  · obtain ⟨n, a, kd, xs, ps, rfl, hS, hp, ⟨g1, g2, g3, g4⟩, q⟩ := h
    refine ⟨_, (pss_cons (ps_if (pt_not (pt_chain op_le op_le pe_int (pv 0) (pe_glob (v := V.int 14) rfl T.g_MOST_PLACES.choose_spec ⟨_, rfl⟩)))
      (pss_one ps_never)
      pss_nil)
      (pss_cons (ps_if (pt_cmpR op_gt (pe_callB (call_lenK K) (by rfl) T.n_len Boot.«len» (pa_cons (pv 1) pa_nil)) (pe_glob (v := V.int 30) rfl T.g_MOST_TIES.choose_spec ⟨_, rfl⟩) (nomark _))
      (pss_one ps_never)
      pss_nil)
      (pss_one (ps_for PassesOwn.never rfl (pi_seqK K (pv 1)) (pg_name (i := 2) sc_refuse_bad_web.nd rfl (Or.inl rfl))
      (pss_one (ps_for PassesOwn.never rfl (pi_tupK K (pv 2)) (pg_name (i := 3) sc_refuse_bad_web.nd rfl (Or.inl rfl))
      (pss_one (ps_if (pt_not (pt_chain op_le op_lt pe_int (pv 3) (pv 0)))
      (pss_one ps_never)
      pss_nil)))))))), ?_⟩
    refine ⟨_, rfl, _, _, rfl, rfl, _, rfl, ?_⟩
    refine itd g1 ?_
    refine ⟨_, _, rfl, rfl, _, rfl, ?_⟩
    refine itn g2 ?_
    refine ⟨_, rfl, a, xs, rfl, hS.or, _, _, rfl, rfl, _, rfl, ?_⟩
    refine itdn (by rw [hp.1]; omega) ?_
    refine ⟨_, rfl, a, rfl, for_seq (k := kd) (K := K) (xs := xs) (fun i σ H2 => ∃ v v2, σ = [some (.int n), some (.ref a), v, v2] ∧ H2 = H) ⟨none, none, rfl, rfl⟩ (fun i σ H2 _ ⟨_, _, _, e⟩ => e ▸ hS) ?_ ?_⟩
    · rintro i x σ H2 hi ⟨v, v2, rfl, rfl⟩
      obtain ⟨p, hpi, tt, rfl, ht⟩ := hp.at hi
      obtain ⟨e1, e2, e3, e4⟩ := g4 p (List.mem_of_getElem? hpi)
      refine ⟨_, rfl, tt, rfl, ⟨_, SqT.of ht⟩, for_tup (K := K) (a := tt) (xs := [.int p.1, .int p.2]) (fun j σ H3 => ∃ v v2, σ = [some (.int n), some (.ref a), v, v2] ∧ H3 = H2) ⟨_, _, rfl, rfl⟩ (fun j σ H3 _ ⟨_, _, _, e⟩ => e ▸ SqT.of ht) ?_ ?_⟩
      · rintro j y σ H3 hj ⟨v, v2, rfl, rfl⟩
        have hy : ∃ z : Int, y = .int z ∧ 0 ≤ z ∧ z < n := by
          match j, hj with
          | 0, hj => exact ⟨p.1, (Option.some.inj hj).symm, e1, e2⟩
          | 1, hj => exact ⟨p.2, (Option.some.inj hj).symm, e3, e4⟩
        obtain ⟨z, rfl, z1, z2⟩ := hy
        refine ⟨_, rfl, _, _, rfl, rfl, _, rfl, ?_⟩
        refine itd z1 ?_
        refine ⟨_, rfl, _, _, rfl, rfl, _, rfl, ?_⟩
        refine itn z2 ?_
        exact ⟨_, _, rfl, rfl⟩
      · rintro σ H3 ⟨v, v2, rfl, rfl⟩
        exact ⟨_, _, rfl, rfl⟩
    · rintro σ H2 ⟨v, v2, rfl, rfl⟩
      exact q
end
end My
namespace My
open PySem L2 PyProof.Rows
set_option maxHeartbeats 4000000
/-- a Web is made of good ties; its list and its pairs are its own -/
def sp_Web_init (K : PySem.W.Frag) (C : Addr) : Sp := fun vs H Q _ => ∃ (w dx : Addr) (n : Int) (a : Addr) (kd : Bool) (xs : List V) (ps : List (Int × Int)), vs = [.ref w, .int n, .ref a] ∧ H w = some (.ins C dx []) ∧ (∀ o, SqK kd K (upd H w o) a xs) ∧ PairsV H xs ps ∧ GoodW n ps ∧
  ∀ H' : Hp, WebAt C H' w n ps → (∀ b o, H b = some o → b ≠ w → H' b = some o) → Q .non H'
section
variable {P : Program} {w : World} {K : PySem.W.Frag} {mg : Str → Option Value} {base : Heap} {t : Adr}
theorem sc_Web___init : FnScope ["self", "places", "ties"] ["self", "places", "ties"] (defScope s_Web___init) := ⟨rfl, rfl, rfl, by decide +kernel, rfl, by decide +kernel, by decide +kernel⟩
theorem ok_Web___init (T : Txt K mg t) : FnOk P w K mg base CX0 2 t.a_Web___init t.d_Web___init ["self", "places", "ties"] (sp_Web_init K t.A_Web) := by
  refine T.f_Web___init.ok sc_Web___init (fun vs H Q E h => ?_) (fun cdv A outer s H vs Q E hr h => ?_)
  · obtain ⟨w, dx, n, a, kd, xs, ps, rfl, _⟩ := h
    rfl
  · obtain ⟨w, dx, n, a, kd, xs, ps, rfl, hw, hS, hp, g, q⟩ := h
    have eH : upd H w (.ins t.A_Web dx []) = H := by
      funext b
      by_cases hb : b = w
      · subst hb; rw [upd_same, hw]
      · rw [upd_ne hb]
    have hS0 : SqK kd K H a xs := by have z := hS (.ins t.A_Web dx []); rw [eH] at z; exact z
    refine ⟨_, (pss_cons (ps_expr (pe_call (ok_refuse_bad_web T) (hr.mono (by decide)) rfl T.m_refuse_bad_web T.f_refuse_bad_web.kp T.b_refuse_bad_web .nil pass0 (pa_cons (pv 1) (pa_cons (pv 2) pa_nil))))
      (pss_cons (ps_fld (pv 0) (pv 1) rfl)
      (pss_one (ps_fld (pv 0) (pe_lc rfl (sc0 := defScope s_Web___init) (N0 := ["self", "places", "ties"]) (N' := ["ends"]) (o := 1) (fr := []) ⟨rfl, by decide +kernel, by decide +kernel, by decide +kernel, rfl, by decide +kernel⟩ (pi_seqK K (pv 2)) (own_name (by decide)) (fun _ _ _ _ => (pg_name (i := 0) (show List.Nodup (["ends"] : List Str) by decide +kernel) rfl (Or.inl rfl))) (fun _ _ _ _ => pts_nil) (fun _ _ _ _ => (pe_tup (pa_cons (pe_ix (ix_tupK K) (pv 0) pe_int (fun _ _ => rfl)) (pa_cons (pe_ix (ix_tupK K) (pv 0) pe_int (fun _ _ => rfl)) pa_nil))))) rfl)))), ?_⟩
    refine ⟨_, rfl, _, rfl, n, a, kd, xs, ps, rfl, hS0, hp, g, ?_⟩
    refine ⟨_, rfl, _, rfl, w, _, dx, [], rfl, hw, T.cl_Web, T.n_Web_places, (by show 0 < 1000; decide), ?_⟩
    -- self.ties = [(ends[0], ends[1]) for ends in ties]
    have hp1 : PairsV (upd H w (.ins t.A_Web dx (putF "places" (.int n) []))) xs ps := ⟨hp.1, fun i p e => by
      obtain ⟨v, e1, tt, e2, e3⟩ := hp.2 i p e
      exact ⟨v, e1, tt, e2, by rw [upd_ne (ne_of e3 hw (fun z => nomatch z))]; exact e3⟩⟩
    have sx : xs.length < sizeLine := small60' (by rw [hp.1]; have := g.2.2.1; omega)
    refine ⟨_, rfl, a, rfl, lc_seq (k := kd) (K := K) (xs := xs) (fun i ys H2 => i ≤ xs.length ∧ ys.length = i ∧ Same (upd H w (.ins t.A_Web dx (putF "places" (.int n) []))) H2 ∧ PairsV H2 ys (ps.take i)) ⟨Nat.zero_le _, rfl, Same.refl _, PairsV.nil⟩ sx
      (fun i ys H2 _ ⟨_, hl, s2, _⟩ => ⟨(hS _).same s2, Nat.le_of_eq hl⟩) ?_ ?_⟩
    · rintro i x ys H2 hi ⟨h1, hl, s2, hy⟩ S hSS
      obtain ⟨p, hpi, tt, rfl, ht⟩ := hp1.at hi
      have ht2 := s2 _ _ ht
      refine nmY ?_
      refine ⟨_, rfl, tt, _, 0, .int p.1, rfl, rfl, SqT.of ht2, rfl, _, rfl, tt, _, 1, .int p.2, rfl, rfl, SqT.of ht2, rfl, (by show 2 ≤ sizeLine; decide), fun q hq => ?_⟩
      have hil : i < xs.length := (List.getElem?_eq_some_iff.mp hi).1
      refine hSS _ _ ⟨hil, by rw [List.length_append, hl]; rfl, same_new s2 hq, ?_⟩
      rw [List.take_succ, hpi]
      exact (hy.same (same_at hq)).snoc ⟨q, rfl, upd_same⟩
    · rintro ys H2 ⟨_, hl, s2, hy⟩ tl htl
      have hw2 := s2 w _ upd_same
      have nwt : w ≠ tl := ne_of_none hw2 htl
      refine ⟨_, rfl, w, _, dx, _, rfl, (by rw [upd_ne nwt]; exact hw2), T.cl_Web, T.n_Web_ties, (by show 1 < 1000; decide), ?_⟩
      refine q _ ⟨dx, tl, ys, upd_same, by rw [upd_ne (Ne.symm nwt), upd_same], ?_⟩ fun b ob e hb => ?_
      · have e1 : ps.take xs.length = ps := List.take_of_length_le (by rw [hp.1]; exact Nat.le_refl _)
        rw [e1] at hy
        refine ⟨hy.1, fun i p e => ?_⟩
        obtain ⟨v, e2, tt, e3, e4⟩ := hy.2 i p e
        exact ⟨v, e2, tt, e3, by rw [upd_ne (ne_of e4 hw2 (fun z => nomatch z)), upd_ne (ne_of_none e4 htl)]; exact e4⟩
      · have e2 := s2 b ob (by rw [upd_ne hb]; exact e)
        rw [upd_ne hb, upd_ne (ne_of_none e2 htl)]
        exact e2
end
end My
namespace My
open PySem L2 PyProof.Rows
set_option maxHeartbeats 4000000
def sp_is_tie (C : Addr) : Sp := fun vs H Q _ => ∃ (w : Addr) (n : Int) (ps : List (Int × Int)) (k : Int), vs = [.ref w, .int k] ∧ WebAt C H w n ps ∧ Q (.bl (decide (0 ≤ k ∧ k < (ps.length : Int)))) H
section
variable {P : Program} {w : World} {K : PySem.W.Frag} {mg : Str → Option Value} {base : Heap} {t : Adr}
theorem sc_is_tie : FnScope ["web", "number"] ["web", "number"] (defScope s_is_tie) := ⟨rfl, rfl, rfl, by decide +kernel, rfl, by decide +kernel, by decide +kernel⟩
theorem ok_is_tie (T : Txt K mg t) : FnOk P w K mg base CX0 1 t.a_is_tie t.d_is_tie ["web", "number"] (sp_is_tie t.A_Web) := by
  refine T.f_is_tie.ok sc_is_tie (fun vs H Q E h => ?_) (fun cdv A outer s H vs Q E hr h => ?_)
  · obtain ⟨w, n, ps, k, rfl, _⟩ := h
    rfl
  · obtain ⟨w, n, ps, k, rfl, ⟨dx, tl, xs, h1, h2, h3⟩, q⟩ := h
    refine ⟨_, (pss_one (ps_ret (pe_chain op_le op_lt pe_int (pv 1) (pe_callB (call_lenK K) (by rfl) T.n_len Boot.«len» (pa_cons (pe_fldK K (pv 0) rfl) pa_nil))))), ?_⟩
    refine ⟨_, rfl, _, _, rfl, rfl, _, rfl, ?_⟩
    refine ite2 (fun hc => ?_) (fun hc => ?_)
    · refine ⟨_, rfl, w, _, dx, _, _, rfl, h1, T.cl_Web, T.n_Web_ties, wf_ties _ _, tl, xs, rfl, .inl (SqL.of h2), _, _, rfl, rfl, ?_⟩
      have hc := of_decide_eq_true hc
      show Q (.bl (decide (k < (xs.length : Int)))) H
      rw [h3.1, show decide (k < (ps.length : Int)) = decide (0 ≤ k ∧ k < (ps.length : Int)) from by simp [hc]]
      exact q
    · have hc : ¬ (0 ≤ k) := fun z => hc (decide_eq_true z)
      show Q (.bl false) H
      rw [show (false : Bool) = decide (0 ≤ k ∧ k < (ps.length : Int)) from by simp; omega]
      exact q
end
end My
namespace My
open PySem L2 PyProof.Rows
set_option maxHeartbeats 4000000
/-- have they a tie in common -/
def sp_have_common (K : PySem.W.Frag) : Sp := fun vs H Q _ => ∃ (a b : Addr) (ns ms : List Int), vs = [.ref a, .ref b] ∧ SqT K H a (IL ns) ∧ SqT K H b (IL ms) ∧ ns.length ≤ 1000 ∧ ∀ (c : Bool) (H' : Hp), (c = true ↔ ∃ z ∈ ns, z ∈ ms) → Same H H' → Q (.bl c) H'
section
variable {P : Program} {w : World} {K : PySem.W.Frag} {mg : Str → Option Value} {base : Heap} {t : Adr}
theorem sc_have_common : FnScope ["one", "other"] ["one", "other"] (defScope s_have_common) := ⟨rfl, rfl, rfl, by decide +kernel, rfl, by decide +kernel, by decide +kernel⟩
theorem ok_have_common (T : Txt K mg t) : FnOk P w K mg base CX0 1 t.a_have_common t.d_have_common ["one", "other"] (sp_have_common K) := by
  refine T.f_have_common.ok sc_have_common (fun vs H Q E h => ?_) (fun cdv A outer s H vs Q E hr h => ?_)
  · obtain ⟨a, b, ns, ms, rfl, _⟩ := h
    rfl
  · obtain ⟨a, b, ns, ms, rfl, hA, hB, hl, q⟩ := h
    refine ⟨_, (pss_one (ps_ret (pe_callB (call_anyK K rfl) (by rfl) T.n_any Boot.«any» (pa_cons (pe_lc rfl (sc0 := defScope s_have_common) (N0 := ["one", "other"]) (N' := ["tie", "other"]) (o := 1) (fr := [1]) ⟨rfl, by decide +kernel, by decide +kernel, by decide +kernel, rfl, by decide +kernel⟩ (pi_tupK K (pv 0)) (own_name (by decide)) (fun _ _ _ _ => (pg_name (i := 0) (show List.Nodup (["tie", "other"] : List Str) by decide +kernel) rfl (Or.inl rfl))) (fun _ _ _ _ => pts_nil) (fun _ _ _ _ => (pe_cmpR (op_inK K) (pv 0) (pv 1) rfl))) pa_nil)))), ?_⟩
    refine ⟨_, rfl, a, rfl, ⟨_, hA⟩, lc_tup (K := K) (a := a) (xs := IL ns) (fun i us H2 => H2 = H ∧ i ≤ ns.length ∧ us = ((ns.take i).map fun z => decide (z ∈ ms)).map V.bl) ⟨rfl, Nat.zero_le _, rfl⟩ (small60' (by rw [il_length]; omega))
      (fun i us H2 hi ⟨e, hi2, ey⟩ => ⟨e ▸ hA, by rw [ey, List.length_map, List.length_map, List.length_take]; omega⟩) ?_ ?_⟩
    · rintro i v us H2 hi ⟨rfl, hil, rfl⟩ S hSS
      obtain ⟨z, rfl, hz⟩ := il_get hi
      refine nm ?_
      refine ⟨_, rfl, _, rfl, b, _, rfl, .inr hB, rfl, flat_ints _, ?_⟩
      rw [inV_ints]
      refine hSS _ _ ⟨rfl, (List.getElem?_eq_some_iff.mp hz).1, ?_⟩
      rw [List.take_succ, hz, List.map_append, List.map_append]
      rfl
    · rintro us H2 ⟨rfl, _, rfl⟩ p hp
      rw [il_length, List.take_length]
      refine ⟨p, _, rfl, SqL.of upd_same, ?_⟩
      refine q _ _ ?_ (same_at hp)
      rw [List.any_map, List.any_eq_true]
      constructor
      · rintro ⟨z, h1, h2⟩
        exact ⟨z, h1, of_decide_eq_true h2⟩
      · rintro ⟨z, h1, h2⟩
        exact ⟨z, h1, decide_eq_true h2⟩
end
end My
namespace My
open PySem L2 PyProof.Rows
set_option maxHeartbeats 4000000
def sp_is_set (K : PySem.W.Frag) (C : Addr) : Sp := fun vs H Q _ => ∃ (w a : Addr) (n : Int) (ps : List (Int × Int)) (kd : Bool) (ns : List Int), vs = [.ref w, .ref a] ∧ WebAt C H w n ps ∧ SqK kd K H a (IL ns) ∧ ∀ b : Bool, (b = true ↔ IsSet ps.length ns) → Q (.bl b) H
section
variable {P : Program} {w : World} {K : PySem.W.Frag} {mg : Str → Option Value} {base : Heap} {t : Adr}
theorem sc_is_set : FnScope ["web", "ties", "last", "tie"] ["web", "ties"] (defScope s_is_set) := ⟨rfl, rfl, rfl, by decide +kernel, rfl, by decide +kernel, by decide +kernel⟩
theorem ok_is_set (T : Txt K mg t) : FnOk P w K mg base CX0 2 t.a_is_set t.d_is_set ["web", "ties"] (sp_is_set K t.A_Web) := by
  refine T.f_is_set.ok sc_is_set (fun vs H Q E h => ?_) (fun cdv A outer s H vs Q E hr h => ?_)
  · obtain ⟨w, a, n, ps, kd, ns, rfl, _⟩ := h
    rfl
  · obtain ⟨w, a, n, ps, kd, ns, rfl, hW, hS, q⟩ := h
    refine ⟨_, (pss_cons (ps_set (i := 2) sc_is_set.nd rfl (Or.inl rfl) (pe_un un_neg pe_int))
      (pss_cons (ps_for PassesOwn.never rfl (pi_seqK K (pv 1)) (pg_name (i := 3) sc_is_set.nd rfl (Or.inl rfl))
      (pss_cons (ps_if (PW.pt (pw_or (pt_cmpR op_le (pv 3) (pv 2) (nomark _)) (pw_or1 (pt_not (pt_val (pe_call (ok_is_tie T) (hr.mono (by decide)) rfl T.m_is_tie T.f_is_tie.kp T.b_is_tie .nil pass0 (pa_cons (pv 0) (pa_cons (pv 3) pa_nil))))))))
      (pss_one (ps_ret pe_bl))
      pss_nil)
      (pss_one (ps_set (i := 2) sc_is_set.nd rfl (Or.inl rfl) (pv 3)))))
      (pss_one (ps_ret pe_bl)))), ?_⟩
    refine ⟨_, rfl, ?_⟩
    refine ⟨_, rfl, a, rfl, for_seq (k := kd) (K := K) (xs := IL ns) (fun i σ H2 => ∃ (l : Int) (v : Option V), σ = [some (.ref w), some (.ref a), some (.int l), v] ∧ H2 = H ∧ (i = 0 → l = -1) ∧ (i ≠ 0 → ns[i - 1]? = some l) ∧ ∀ j z, j < i → ns[j]? = some z → 0 ≤ z ∧ z < (ps.length : Int) ∧ ∀ y, j ≠ 0 → ns[j - 1]? = some y → y < z)
      ⟨-1, none, rfl, rfl, fun _ => rfl, fun z => absurd rfl z, fun j z hj => absurd hj (Nat.not_lt_zero j)⟩ (fun i σ H2 _ ⟨_, _, _, e, _⟩ => e ▸ hS) ?_ ?_⟩
    · rintro i x σ H2 hi ⟨l, v, rfl, rfl, hl0, hl1, hp⟩
      obtain ⟨z, rfl, hz⟩ := il_get hi
      refine ⟨_, rfl, _, rfl, _, _, rfl, rfl, _, rfl, ?_⟩
      refine itd2 (fun hc => ?_) (fun hc => ?_)
      · -- tie <= last
        refine iteT ?_
        refine q false ⟨fun z => (nomatch z), fun hs => ?_⟩
        obtain ⟨b1, b2, b3⟩ := hs i z hz
        by_cases h0 : i = 0
        · have := hl0 h0; omega
        · have := b3 l h0 (hl1 h0); omega
      · refine ⟨_, rfl, _, rfl, w, n, ps, z, rfl, hW, _, rfl, ?_⟩
        refine itn2 (fun hc2 => ?_) (fun hc2 => ?_)
        · refine ⟨_, rfl, ?_⟩
          refine ⟨z, _, rfl, rfl, fun e => (nomatch e), fun _ => by simpa using hz, fun j y hj ey => ?_⟩
          by_cases hji : j < i
          · exact hp j y hji ey
          · have e : j = i := by omega
            subst e
            rw [hz] at ey
            cases ey
            refine ⟨hc2.1, hc2.2, fun y h0 ey => ?_⟩
            rw [hl1 h0] at ey
            cases ey
            omega
        · refine q false ⟨fun z => (nomatch z), fun hs => ?_⟩
          obtain ⟨b1, b2, b3⟩ := hs i z hz
          exact absurd ⟨b1, b2⟩ hc2
    · rintro σ H2 ⟨l, v, rfl, rfl, hl0, hl1, hp⟩
      refine q true ⟨fun _ i z hz => ?_, fun _ => rfl⟩
      have hi : i < (IL ns).length := by rw [il_length]; exact (List.getElem?_eq_some_iff.mp hz).1
      exact hp i z hi hz
end
end My
namespace My
open PySem L2 PyProof.Rows
set_option maxHeartbeats 4000000
/-- the tuple of a set of ties, or BadSet -/
def sp_made_set (K : PySem.W.Frag) (C B : Addr) : Sp := fun vs H Q E => ∃ (w a : Addr) (n : Int) (ps : List (Int × Int)) (kd : Bool) (ns : List Int), vs = [.ref w, .ref a] ∧ WebAt C H w n ps ∧ SqK kd K H a (IL ns) ∧
  (IsSet ps.length ns → ∀ (r : Addr) (H' : Hp), Same H H' → SqT K H' r (IL ns) → Q (.ref r) H') ∧ (¬ IsSet ps.length ns → E (.ref B) none H)
section
variable {P : Program} {w : World} {K : PySem.W.Frag} {mg : Str → Option Value} {base : Heap} {t : Adr}
theorem sc_made_set : FnScope ["web", "ties"] ["web", "ties"] (defScope s_made_set) := ⟨rfl, rfl, rfl, by decide +kernel, rfl, by decide +kernel, by decide +kernel⟩
theorem ok_made_set (T : Txt K mg t) : FnOk P w K mg base (CXW P w) 3 t.a_made_set t.d_made_set ["web", "ties"] (sp_made_set K t.A_Web t.A_BadSet) := by
  refine T.f_made_set.okX sc_made_set (fun vs H Q E h => ?_) (fun cdv A outer s H vs Q E hr h => ?_)
  · obtain ⟨w, a, n, ps, kd, ns, rfl, _⟩ := h
    rfl
  · obtain ⟨w, a, n, ps, kd, ns, rfl, hW, hS, q, qe⟩ := h
    refine ⟨_, (pss_cons (ps_if (pt_not (pt_val (pe_call (ok_is_set T) (hr.mono (by decide)) rfl T.m_is_set T.f_is_set.kp T.b_is_set .nil pass0 (pa_cons (pv 0) (pa_cons (pv 1) pa_nil)))))
      (pss_one (ps_raise T.x_BadSet T.c_BadSet (pa_cons pe_str pa_nil)))
      pss_nil)
      (pss_one (ps_ret (pe_callTy (call_tupleK K) (by rfl) T.n_tuple Boot.«tuple» (pa_cons (pv 1) pa_nil))))), ?_⟩
    refine ⟨_, rfl, _, rfl, w, a, n, ps, kd, ns, rfl, hW, hS, fun b hb => ⟨_, rfl, ?_⟩⟩
    refine itnb (fun z => ?_) (fun z => ?_)
    · refine ⟨_, rfl, a, IL ns, rfl, ?_⟩
      cases kd with
      | false => exact .inl ⟨hS, fun l hl => q (hb.mp z) l _ (same_at hl) (SqT.of upd_same)⟩
      | true => exact .inr ⟨hS, q (hb.mp z) a H (Same.refl H) hS⟩
    · exact ⟨by show 1 ≤ sizeLine; decide, qe fun hI => by rw [hb.mpr hI] at z; cases z⟩
end
end My
namespace My
open PySem L2 PyProof.Rows
set_option maxHeartbeats 4000000
/-- the marks with these ties taken besides -/
def sp_merged_marks (K : PySem.W.Frag) (C : Addr) : Sp := fun vs H Q _ => ∃ (w m a : Addr) (n : Int) (ps : List (Int × Int)) (M : List Int) (kd : Bool) (ns : List Int), vs = [.ref w, .ref m, .ref a] ∧ WebAt C H w n ps ∧ GoodW n ps ∧ H m = some (.lst (IL M)) ∧ M.length = n.toNat ∧ SqK kd K H a (IL ns) ∧ (∀ z ∈ ns, 0 ≤ z ∧ z < (ps.length : Int)) ∧
  ∀ (m' : Addr) (H' : Hp), Same H H' → (m' = m ∨ H m' = none) → H' m' = some (.lst (IL (pmf M (endsOf ps ns)))) → Q (.ref m') H'
section
variable {P : Program} {w : World} {K : PySem.W.Frag} {mg : Str → Option Value} {base : Heap} {t : Adr}
theorem sc_merged_marks : FnScope ["web", "marks", "ties", "tie", "ends", "low", "high"] ["web", "marks", "ties"] (defScope s_merged_marks) := ⟨rfl, rfl, rfl, by decide +kernel, rfl, by decide +kernel, by decide +kernel⟩
theorem ok_merged_marks (T : Txt K mg t) : FnOk P w K mg base CX0 1 t.a_merged_marks t.d_merged_marks ["web", "marks", "ties"] (sp_merged_marks K t.A_Web) := by
  refine T.f_merged_marks.ok sc_merged_marks (fun vs H Q E h => ?_) (fun cdv A outer s H vs Q E hr h => ?_)
  · obtain ⟨w, m, a, n, ps, M, kd, ns, rfl, _⟩ := h
    rfl
  · obtain ⟨w, m0, a, n, ps, M0, kd, ns, rfl, ⟨dx, tl, xs, h1, h2, h3⟩, ⟨g1, g2, g3, g4⟩, hm, hlM, hS, hI, q⟩ := h
    refine ⟨_, (pss_cons (ps_for PassesOwn.never rfl (pi_seqK K (pv 2)) (pg_name (i := 3) sc_merged_marks.nd rfl (Or.inl rfl))
      (pss_cons (ps_set (i := 4) sc_merged_marks.nd rfl (Or.inl rfl) (pe_ix (ix_listK K) (pe_fldK K (pv 0) rfl) (pv 3) (fun _ _ => rfl)))
      (pss_cons (ps_set (i := 5) sc_merged_marks.nd rfl (Or.inr rfl) (pe_callB (call_min2 rfl) (by rfl) T.n_min Boot.«min» (pa_cons (pe_ix (ix_listK K) (pv 1) (pe_ix (ix_tupK K) (pv 4) pe_int (fun _ _ => rfl)) (fun _ _ => rfl)) (pa_cons (pe_ix (ix_listK K) (pv 1) (pe_ix (ix_tupK K) (pv 4) pe_int (fun _ _ => rfl)) (fun _ _ => rfl)) pa_nil))))
      (pss_cons (ps_set (i := 6) sc_merged_marks.nd rfl (Or.inr rfl) (pe_callB (call_max2 rfl) (by rfl) T.n_max Boot.«max» (pa_cons (pe_ix (ix_listK K) (pv 1) (pe_ix (ix_tupK K) (pv 4) pe_int (fun _ _ => rfl)) (fun _ _ => rfl)) (pa_cons (pe_ix (ix_listK K) (pv 1) (pe_ix (ix_tupK K) (pv 4) pe_int (fun _ _ => rfl)) (fun _ _ => rfl)) pa_nil))))
      (pss_one (ps_if (pt_cmpR op_lt (pv 5) (pv 6) (nomark _))
      (pss_one (ps_lc (i := 1) rfl sc_merged_marks.nd rfl rfl (sc0 := defScope s_merged_marks) (N0 := ["web", "marks", "ties", "tie", "ends", "low", "high"]) (N' := ["mark", "high", "low"]) (o := 1) (fr := [6, 5]) ⟨rfl, by decide +kernel, by decide +kernel, by decide +kernel, rfl, by decide +kernel⟩ (pi_listK K (pv 1)) (own_name (by decide)) (fun _ _ _ _ => (pg_name (i := 0) (show List.Nodup (["mark", "high", "low"] : List Str) by decide +kernel) rfl (Or.inl rfl))) (fun _ _ _ _ => pts_nil) (fun _ _ _ _ => (pe_ifExp (pt_cmpR op_eq (pv 0) (pv 1) (nomark _)) (pv 2) (pv 0)))))
      pss_nil))))))
      (pss_one (ps_ret (pv 1)))), ?_⟩
    refine ⟨_, rfl, a, rfl, for_seq (k := kd) (K := K) (a := a) (xs := IL ns) (fun i σ H2 => ∃ (m : Addr) (v3 v4 v5 v6 : Option V), σ = [some (.ref w), some (.ref m), some (.ref a), v3, v4, v5, v6] ∧ Same H H2 ∧ (m = m0 ∨ H m = none) ∧ H2 m = some (.lst (IL (pmf M0 (endsOf ps (ns.take i))))))
      ⟨m0, none, none, none, none, rfl, Same.refl _, .inl rfl, hm⟩ (fun i σ H2 _ ⟨_, _, _, _, _, _, s2, _⟩ => hS.same s2) ?_ ?_⟩
    · rintro i x σ H2 hi ⟨m, v3, v4, v5, v6, rfl, s2, hm0, hm2⟩
      obtain ⟨z, rfl, hz⟩ := il_get hi
      obtain ⟨z0, z1⟩ := hI z (List.mem_of_getElem? hz)
      obtain ⟨p, hp⟩ : ∃ p, ps[z.toNat]? = some p := ⟨_, List.getElem?_eq_getElem (by omega)⟩
      obtain ⟨v, hv, tt, rfl, htt⟩ := h3.2 z.toNat p hp
      obtain ⟨e1, e2, e3, e4⟩ := g4 p (List.mem_of_getElem? hp)
      have ed : ps.getD z.toNat (0, 0) = p := getD_of hp
      -- ends = web.ties[tie]
      refine ⟨_, rfl, w, _, dx, _, _, rfl, s2 _ _ h1, T.cl_Web, T.n_Web_ties, wf_ties _ _, _, rfl, tl, xs, z, .ref tt, rfl, rfl, SqL.of (s2 _ _ h2), atI_of (n := z.toNat) (by omega) hv, ?_⟩
      have ht2 := s2 _ _ htt
      have hl : (pmf M0 (endsOf ps (ns.take i))).length = n.toNat := (pmf_length _ _).trans hlM
      generalize hM : pmf M0 (endsOf ps (ns.take i)) = M at *
      have ha : M[p.1.toNat]? = some (mk M p.1.toNat) := mk_some (by omega)
      have hb : M[p.2.toNat]? = some (mk M p.2.toNat) := mk_some (by omega)
      have iA : atI (IL M) p.1 = some (.int (mk M p.1.toNat)) := atI_of (n := p.1.toNat) (by omega) (by rw [List.getElem?_map, ha]; rfl)
      have iB : atI (IL M) p.2 = some (.int (mk M p.2.toNat)) := atI_of (n := p.2.toNat) (by omega) (by rw [List.getElem?_map, hb]; rfl)
      have t0 : atI ([.int p.1, .int p.2] : List V) 0 = some (.int p.1) := rfl
      have t1 : atI ([.int p.1, .int p.2] : List V) 1 = some (.int p.2) := rfl
      -- low, high
      refine ⟨_, rfl, _, rfl, tt, _, 0, _, rfl, rfl, SqT.of ht2, t0, m, _, p.1, _, rfl, rfl, SqL.of hm2, iA, _, rfl, _, rfl, tt, _, 1, _, rfl, rfl, SqT.of ht2, t1, m, _, p.2, _, rfl, rfl, SqL.of hm2, iB, _, _, rfl, ?_⟩
      refine ⟨_, rfl, _, rfl, tt, _, 0, _, rfl, rfl, SqT.of ht2, t0, m, _, p.1, _, rfl, rfl, SqL.of hm2, iA, _, rfl, _, rfl, tt, _, 1, _, rfl, rfl, SqT.of ht2, t1, m, _, p.2, _, rfl, rfl, SqL.of hm2, iB, _, _, rfl, ?_⟩
      have eL : (if mk M p.2.toNat < mk M p.1.toNat then mk M p.2.toNat else mk M p.1.toNat) = min (mk M p.1.toNat) (mk M p.2.toNat) := by
        rw [Int.min_def]; split <;> split <;> omega
      have eH : (if mk M p.2.toNat > mk M p.1.toNat then mk M p.2.toNat else mk M p.1.toNat) = max (mk M p.1.toNat) (mk M p.2.toNat) := by
        rw [Int.max_def]; split <;> split <;> omega
      refine ⟨_, rfl, _, rfl, _, _, rfl, rfl, _, rfl, ?_⟩
      rw [eL, eH]
      have step : pmf M0 (endsOf ps (ns.take (i + 1))) = pm M p.1.toNat p.2.toNat := by rw [endsOf_snoc hz, pmf_snoc, hM, ed]
      refine itd2 (fun hc => ?_) (fun hc => ?_)
      · refine ⟨_, rfl, m, rfl, ⟨_, SqL.of hm2⟩, lc_list (K := K) (a := m) (xs := IL M) (fun j ys H3 => H3 = H2 ∧ j ≤ M.length ∧ ys = IL ((M.take j).map fun k => if k = max (mk M p.1.toNat) (mk M p.2.toNat) then min (mk M p.1.toNat) (mk M p.2.toNat) else k)) ⟨rfl, Nat.zero_le _, rfl⟩ (small60' (by rw [il_length]; omega))
          (fun j ys H3 hj ⟨e, hjl, ey⟩ => ⟨e ▸ SqL.of hm2, by rw [ey, il_length, List.length_map, List.length_take]; omega⟩) ?_ ?_⟩
        · rintro j y ys H3 hj ⟨rfl, hjl, rfl⟩ S hSS
          obtain ⟨k, rfl, hk⟩ := il_get hj
          refine nmY ?_
          refine ⟨_, rfl, _, rfl, rfl, _, rfl, ?_⟩
          have hjl' : j < M.length := (List.getElem?_eq_some_iff.mp hk).1
          have app : ∀ r : Int, r = (if k = max (mk M p.1.toNat) (mk M p.2.toNat) then min (mk M p.1.toNat) (mk M p.2.toNat) else k) →
              IL ((M.take j).map fun k => if k = max (mk M p.1.toNat) (mk M p.2.toNat) then min (mk M p.1.toNat) (mk M p.2.toNat) else k) ++ [.int r] = IL ((M.take (j + 1)).map fun k => if k = max (mk M p.1.toNat) (mk M p.2.toNat) then min (mk M p.1.toNat) (mk M p.2.toNat) else k) := by
            intro r er
            rw [List.take_succ, hk, er]
            simp
          refine itd2 (fun he => ?_) (fun he => ?_)
          · refine ⟨_, rfl, hSS _ _ ⟨rfl, hjl', app _ ?_⟩⟩
            rw [if_pos (V.int.inj he)]
          · refine ⟨_, rfl, hSS _ _ ⟨rfl, hjl', app _ ?_⟩⟩
            rw [if_neg fun z => he (congrArg V.int z)]
        · rintro ys H3 ⟨rfl, _, rfl⟩ p' hp'
          refine ⟨p', _, _, _, _, rfl, same_new s2 hp', .inr (s2.free hp'), ?_⟩
          rw [upd_same, step, il_length, List.take_length]
          unfold pm
          rw [if_pos hc]
      · refine ⟨m, _, _, _, _, rfl, s2, hm0, ?_⟩
        rw [hm2, step]
        unfold pm
        rw [if_neg hc]
    · rintro σ H2 ⟨m, v3, v4, v5, v6, rfl, s2, hm0, hm2⟩
      rw [il_length, List.take_length] at hm2
      exact ⟨_, rfl, q m H2 s2 hm0 hm2⟩
end
end My
namespace My
open PySem L2 PyProof.Rows
set_option maxHeartbeats 4000000
/-- each place's mark, by the program's own steps -/
def sp_piece_marks (K : PySem.W.Frag) (C : Addr) : Sp := fun vs H Q _ => ∃ (w a : Addr) (n : Int) (ps : List (Int × Int)) (ns : List Int), vs = [.ref w, .ref a] ∧ WebAt C H w n ps ∧ GoodW n ps ∧ SqT K H a (IL ns) ∧ (∀ z ∈ ns, 0 ≤ z ∧ z < (ps.length : Int)) ∧
  ∀ (m : Addr) (H' : Hp), Same H H' → H m = none → H' m = some (.lst (IL (pms n.toNat (endsOf ps ns)))) → Q (.ref m) H'
section
variable {P : Program} {w : World} {K : PySem.W.Frag} {mg : Str → Option Value} {base : Heap} {t : Adr}
theorem sc_piece_marks : FnScope ["web", "ties"] ["web", "ties"] (defScope s_piece_marks) := ⟨rfl, rfl, rfl, by decide +kernel, rfl, by decide +kernel, by decide +kernel⟩
theorem ok_piece_marks (T : Txt K mg t) : FnOk P w K mg base CX0 2 t.a_piece_marks t.d_piece_marks ["web", "ties"] (sp_piece_marks K t.A_Web) := by
  refine T.f_piece_marks.ok sc_piece_marks (fun vs H Q E h => ?_) (fun cdv A outer s H vs Q E hr h => ?_)
  · obtain ⟨w, a, n, ps, ns, rfl, _⟩ := h
    rfl
  · obtain ⟨w, a, n, ps, ns, rfl, hW, hG, hS, hI, q⟩ := h
    refine ⟨_, (pss_one (ps_ret (pe_call (ok_merged_marks T) (hr.mono (by decide)) rfl T.m_merged_marks T.f_merged_marks.kp T.b_merged_marks .nil pass0 (pa_cons (pv 0) (pa_cons (pe_callTy (call_list_rng rfl) (by rfl) T.n_list Boot.«list» (pa_cons (pe_callTy call_rng1 (by rfl) T.n_range Boot.«range» (pa_cons (pe_fldK K (pv 0) rfl) pa_nil)) pa_nil)) (pa_cons (pv 1) pa_nil)))))), ?_⟩
    obtain ⟨dx, tl, xs, h1, h2, h3⟩ := id hW
    obtain ⟨g1, g2, g3, g4⟩ := id hG
    refine ⟨_, rfl, _, rfl, w, _, dx, _, _, rfl, h1, T.cl_Web, T.n_Web_places, wf_places _ _, n, rfl, fun r hr0 => ⟨r, 0, n, rfl, upd_same, ⟨by decide, by decide, by omega, by omega⟩, by omega, fun m hm => ?_⟩⟩
    have sm : Same H (upd (upd H r (.rng 0 n)) m (.lst ((rngI 0 n).map V.int))) := same_new (same_at hr0) hm
    refine ⟨_, rfl, w, m, a, n, ps, (List.range n.toNat).map (fun (i : Nat) => (i : Int)), true, ns, rfl, hW.same sm, hG, ?_, by simp, sqT_same sm hS, hI, fun m' H' s' hf hm' => ?_⟩
    · rw [upd_same, rngI_zero]
    · refine q m' H' (sm.trans s') ?_ hm'
      rcases hf with rfl | hf
      · exact (same_at hr0).free hm
      · exact sm.free hf
end
end My
namespace My
open PySem L2 PyProof.Rows
set_option maxHeartbeats 4000000
/-- the table of a web with weights -/
def sp_weighted_table (K : PySem.W.Frag) (C : Addr) : Sp := fun vs H Q _ => ∃ (w b : Addr) (n : Int) (ps : List (Int × Int)) (ws : List Int), vs = [.ref w, .ref b] ∧ WebAt C H w n ps ∧ GoodW n ps ∧ SqL K H b (IL ws) ∧ ws.length = ps.length ∧
  ∀ (r : Addr) (ys : List V) (L : List (List Int)) (H' : Hp), Same H H' → H r = none → TabAt H r n.toNat H' ys L → (∀ i j, i < n.toNat → j < n.toNat → fnL L i j = lapE (edsOf ps ws) i j) → Q (.ref r) H'
theorem rep_one2 (x : V) (k : Nat) : (List.replicate k [x]).flatten = List.replicate k x := by
  induction k with
  | zero => rfl
  | succ k ih => rw [List.replicate_succ, List.flatten_cons, ih, List.replicate_succ]; rfl
theorem fnL_abs0 (n i j : Nat) : fnL (List.replicate n (List.replicate n 0)) i j = 0 := by
  unfold fnL
  cases h : (List.replicate n (List.replicate n (0 : Int)))[i]? with
  | none =>
    have e : (List.replicate n (List.replicate n (0 : Int))).getD i [] = [] := by rw [List.getD_eq_getElem?_getD, h]; rfl
    rw [e]
    rfl
  | some l =>
    have e : (List.replicate n (List.replicate n (0 : Int))).getD i [] = l := by rw [List.getD_eq_getElem?_getD, h]; rfl
    rw [e, List.eq_of_mem_replicate (List.mem_of_getElem? h), List.getD_eq_getElem?_getD, List.getElem?_replicate]
    split <;> rfl
theorem TabAt.get {H0 H : Hp} {r : Addr} {n : Nat} {ys : List V} {L : List (List Int)} (h : TabAt H0 r n H ys L) {i j : Nat} (hi : i < n) (hj : j < n) : ∃ (A : Addr) (l : List Int) (x : Int), ys[i]? = some (.ref A) ∧ H A = some (.lst (IL l)) ∧ l[j]? = some x ∧ l.length = n ∧ x = fnL L i j ∧ H0 A = none ∧ ∀ y : Int, ∃ L' : List (List Int), TabAt H0 r n (upd H A (.lst ((IL l).set j (.int y)))) ys L' ∧ ∀ a b, fnL L' a b = if a = i ∧ b = j then y else fnL L a b := by
  obtain ⟨A, l, y1, z1, hA, hl, hn, hr⟩ := h.at hi
  obtain ⟨x, hx⟩ : ∃ x, l[j]? = some x := ⟨_, List.getElem?_eq_getElem (by omega)⟩
  refine ⟨A, l, x, y1, hA, hx, hl, (fnL_at z1 hx).symm, hn, fun y => ⟨L.set i (l.set j y), ?_, fnL_put z1 (by omega)⟩⟩
  have e : (IL l).set j (.int y) = IL (l.set j y) := (List.map_set ..).symm
  rw [e]
  exact h.put y1 z1 hr (by rw [List.length_set]; exact hl)
theorem ixN_of {xs : List V} {i : Int} (h0 : 0 ≤ i) (h1 : i < (xs.length : Int)) : ixN xs.length i = some i.toNat := by
  unfold ixN
  rw [if_pos h0, if_pos (by omega)]
section
variable {P : Program} {w : World} {K : PySem.W.Frag} {mg : Str → Option Value} {base : Heap} {t : Adr}
theorem sc_weighted_table : FnScope ["web", "weights", "table", "ends", "weight", "one", "other"] ["web", "weights"] (defScope s_weighted_table) := ⟨rfl, rfl, rfl, by decide +kernel, rfl, by decide +kernel, by decide +kernel⟩
theorem ok_weighted_table (T : Txt K mg t) : FnOk P w K mg base CX0 1 t.a_weighted_table t.d_weighted_table ["web", "weights"] (sp_weighted_table K t.A_Web) := by
  refine T.f_weighted_table.ok sc_weighted_table (fun vs H Q E h => ?_) (fun cdv A outer s H vs Q E hr h => ?_)
  · obtain ⟨w, b, n, ps, ws, rfl, _⟩ := h
    rfl
  · obtain ⟨w, b, n, ps, ws, rfl, hW, hG, hS, hwl, q⟩ := h
    refine ⟨_, (pss_cons (ps_lc (i := 2) rfl sc_weighted_table.nd rfl rfl (sc0 := defScope s_weighted_table) (N0 := ["web", "weights", "table", "ends", "weight", "one", "other"]) (N' := ["place", "web"]) (o := 1) (fr := [0]) ⟨rfl, by decide +kernel, by decide +kernel, by decide +kernel, rfl, by decide +kernel⟩ (pi_range1 rfl T.n_range (pa_cons (pe_fldK K (pv 0) rfl) pa_nil)) (own_name (by decide)) (fun _ _ _ _ => (pg_name (i := 0) (show List.Nodup (["place", "web"] : List Str) by decide +kernel) rfl (Or.inl rfl))) (fun _ _ _ _ => pts_nil) (fun _ _ _ _ => (pe_op op_rep (pe_lst (pa_cons pe_int pa_nil)) (pe_fldK K (pv 1) rfl))))
      (pss_cons (ps_for PassesOwn.never rfl (pi_zip K rfl T.n_zip (pa_cons (pe_fldK K (pv 0) rfl) (pa_cons (pv 1) pa_nil))) (pg_tupK (n := 2) K rfl (pgs_cons (pg_name (i := 3) sc_weighted_table.nd rfl (Or.inl rfl)) (pgs_cons (pg_name (i := 4) sc_weighted_table.nd rfl (Or.inl rfl)) pgs_nil)))
      (pss_cons (ps_set (i := 5) sc_weighted_table.nd rfl (Or.inl rfl) (pe_ix (ix_tupK K) (pv 3) pe_int (fun _ _ => rfl)))
      (pss_cons (ps_set (i := 6) sc_weighted_table.nd rfl (Or.inl rfl) (pe_ix (ix_tupK K) (pv 3) pe_int (fun _ _ => rfl)))
      (pss_one (ps_if (pt_cmpR op_ne (pv 5) (pv 6) (nomark _))
      (pss_cons (ps_augS (pe_ix (ix_listK K) (pv 2) (pv 5) (fun _ _ => rfl)) (pv 5) (get_listK K) (pv 4) ip_add set_list)
      (pss_cons (ps_augS (pe_ix (ix_listK K) (pv 2) (pv 6) (fun _ _ => rfl)) (pv 6) (get_listK K) (pv 4) ip_add set_list)
      (pss_cons (ps_augS (pe_ix (ix_listK K) (pv 2) (pv 5) (fun _ _ => rfl)) (pv 6) (get_listK K) (pv 4) ip_sub set_list)
      (pss_one (ps_augS (pe_ix (ix_listK K) (pv 2) (pv 6) (fun _ _ => rfl)) (pv 5) (get_listK K) (pv 4) ip_sub set_list)))))
      pss_nil)))))
      (pss_one (ps_ret (pv 2))))), ?_⟩
    obtain ⟨dx, tl, xs, h1, h2, h3⟩ := id hW
    have hl := h3.1
    obtain ⟨g1, g2, g3, g4⟩ := id hG
    have one : 1 ≤ sizeLine := by decide
    -- table
    refine ⟨_, rfl, w, _, dx, _, _, rfl, h1, T.cl_Web, T.n_Web_places, wf_places _ _, n, rfl, by omega, by omega, lc_range (lo := 0) (n := n.toNat) (fun i zs H2 => Same H H2 ∧ Bears (ListV H2) zs (List.replicate i (List.replicate n.toNat 0)) ∧ zs.Nodup ∧ ∀ A, V.ref A ∈ zs → H A = none ∧ ∃ o, H2 A = some o) ⟨Same.refl _, ⟨rfl, fun i l e => by simp at e⟩, .nil, fun A h => (by cases h)⟩ (small60' (by omega)) (fun i zs H2 _ ⟨_, e, _⟩ => by rw [e.1, List.length_replicate]; exact Nat.le_refl _) ?_ ?_⟩
    · rintro i zs H2 hi ⟨s2, hZ, hnd, hnew⟩ S hSS
      refine nm ?_
      refine ⟨one, fun p1 hp1 => ?_⟩
      have u1 := same_at (o := .lst [.int 0]) hp1
      refine ⟨_, rfl, w, _, dx, _, _, rfl, u1 _ _ (s2 _ _ h1), T.cl_Web, T.n_Web_places, wf_places _ _, p1, n, _, rfl, rfl, upd_same, by omega, by omega, small60 (by show 1 * n.toNat ≤ _; omega), fun p2 hp2 => ?_⟩
      have e0 : (List.replicate n.toNat [V.int 0]).flatten = IL (List.replicate n.toNat 0) := by rw [rep_one2]; show _ = (List.replicate n.toNat 0).map V.int; rw [List.map_replicate]
      rw [e0]
      have u2 := u1.trans (same_at (o := .lst (IL (List.replicate n.toNat 0))) hp2)
      have hp20 : H2 p2 = none := (same_at hp1).free hp2
      refine hSS _ _ ⟨s2.trans u2, ?_, ?_, fun A hA => ?_⟩
      · rw [List.replicate_succ']
        exact (hZ.imp fun _ _ ⟨r', e, h⟩ => ⟨r', e, u2 _ _ h⟩).snoc ⟨p2, rfl, upd_same⟩
      · refine List.nodup_append.mpr ⟨hnd, by simp, fun x hx y hy e => ?_⟩
        rw [List.mem_singleton.mp hy] at e
        obtain ⟨_, o, ho⟩ := hnew p2 (e ▸ hx)
        rw [hp20] at ho
        cases ho
      · rcases List.mem_append.mp hA with e | e
        · obtain ⟨a1, o, a2⟩ := hnew A e
          exact ⟨a1, o, u2 _ _ a2⟩
        · have e' : A = p2 := by simpa using e
          rw [e']
          exact ⟨s2.free hp20, _, upd_same⟩
    rintro zs H2 ⟨s2, hZ, hnd, hnew⟩ tA htA
    have s3 := s2.trans (same_at (o := .lst zs) htA)
    have htA0 : H tA = none := s2.free htA
    have hT : TabAt H tA n.toNat (upd H2 tA (.lst zs)) zs (List.replicate n.toNat (List.replicate n.toNat 0)) := ⟨upd_same, hZ.imp fun _ _ ⟨r', e, h⟩ => ⟨r', e, same_at htA _ _ h, ne_of_none h htA⟩, List.length_replicate, fun l h => by rw [List.eq_of_mem_replicate h]; exact List.length_replicate, hnd, fun A h => (hnew A h).1⟩
    have hzero : ∀ i j, fnL (List.replicate n.toNat (List.replicate n.toNat 0)) i j = 0 := fun i j => by
      have := fnL_abs0 n.toNat i j
      exact this
    generalize upd H2 tA (.lst zs) = H3 at *
    generalize List.replicate n.toNat (List.replicate n.toNat (0 : Int)) = L0 at *
    -- for ends, weight in zip(web.ties, weights)
    refine ⟨_, rfl, w, _, dx, _, _, rfl, s3 _ _ h1, T.cl_Web, T.n_Web_ties, wf_ties _ _, _, rfl, tl, b, rfl, ⟨_, _, SqL.of (s3 _ _ h2), s3.seq hS⟩, for_zip (K := K) (a := tl) (b := b) (xs := xs) (ys := IL ws) (by rw [il_length]; omega) (fun i σ H4 => ∃ (L : List (List Int)) (v3 v4 v5 v6 : Option V), σ = [some (.ref w), some (.ref b), some (.ref tA), v3, v4, v5, v6] ∧ Same H H4 ∧ TabAt H tA n.toNat H4 zs L ∧ ∀ x y, x < n.toNat → y < n.toNat → fnL L x y = lapE (edsOf (ps.take i) (ws.take i)) x y) ⟨L0, none, none, none, none, rfl, s3, hT, fun x y _ _ => hzero x y⟩ (fun i σ H4 _ ⟨_, _, _, _, _, _, e, _⟩ => ⟨SqL.of (e _ _ h2), e.seq hS⟩) ?_ ?_⟩
    · rintro i v v' σ H4 pt hpt hi hi' ⟨L, v3, v4, v5, v6, rfl, s4, hT4, hlap⟩
      obtain ⟨p, hp, tt, rfl, htt⟩ := h3.at hi
      obtain ⟨wt, rfl, hwt⟩ := il_get hi'
      obtain ⟨e1, e2, e3, e4⟩ := g4 p (List.mem_of_getElem? hp)
      have u1 := same_at (o := .tup [.ref tt, .int wt]) hpt
      refine ⟨pt, _, rfl, SqT.of upd_same, rfl, _, _, rfl, _, _, rfl, rfl, ?_⟩
      have hT5 := hT4.same u1
      have s5 := s4.trans u1
      generalize upd H4 pt (.tup [.ref tt, .int wt]) = H5 at *
      refine ⟨_, rfl, tt, _, 0, .int p.1, rfl, rfl, SqT.of (s5 _ _ htt), rfl, ?_⟩
      refine ⟨_, rfl, tt, _, 1, .int p.2, rfl, rfl, SqT.of (s5 _ _ htt), rfl, ?_⟩
      refine ⟨_, rfl, _, rfl, rfl, _, rfl, ?_⟩
      rw [dec_int]
      have esn := eds_snoc hp hwt
      refine itn2 (fun heq => ?_) (fun hne => ?_)
      · refine ⟨L, _, _, _, _, rfl, s5, hT5, fun x y hx hy => ?_⟩
        rw [esn, lapE_loop (by show p.1.toNat = p.2.toNat; rw [heq])]
        exact hlap x y hx hy
      have hne' : p.1.toNat ≠ p.2.toNat := fun e => hne (by omega)
      obtain ⟨A1, l1, x1, y1, hA1, hx1, hl1, ex1, hn1, put1⟩ := hT5.get (i := p.1.toNat) (j := p.1.toNat) (by omega) (by omega)
      refine ⟨_, rfl, _, rfl, tA, zs, p.1, .ref A1, rfl, rfl, SqL.of hT5.tab, atI_of (n := p.1.toNat) (by omega) y1, _, rfl, A1, _, p.1, .int x1, rfl, rfl, SqL.of hA1, by omega, il_at hx1, _, rfl, _, _, rfl, rfl, A1, _, p.1, p.1.toNat, rfl, rfl, hA1, ixN_of (by omega) (by rw [il_length]; omega), ?_⟩
      obtain ⟨L1, hT6, hf1⟩ := put1 (x1 + wt)
      have s6 : Same H (upd H5 A1 (.lst ((IL l1).set p.1.toNat (.int (x1 + wt))))) := same_upd hn1 s5
      generalize upd H5 A1 (.lst ((IL l1).set p.1.toNat (.int (x1 + wt)))) = H6 at *
      rw [ex1] at hf1
      obtain ⟨A2, l2, x2, y2, hA2, hx2, hl2, ex2, hn2, put2⟩ := hT6.get (i := p.2.toNat) (j := p.2.toNat) (by omega) (by omega)
      refine ⟨_, rfl, _, rfl, tA, zs, p.2, .ref A2, rfl, rfl, SqL.of hT6.tab, atI_of (n := p.2.toNat) (by omega) y2, _, rfl, A2, _, p.2, .int x2, rfl, rfl, SqL.of hA2, by omega, il_at hx2, _, rfl, _, _, rfl, rfl, A2, _, p.2, p.2.toNat, rfl, rfl, hA2, ixN_of (by omega) (by rw [il_length]; omega), ?_⟩
      obtain ⟨L2, hT7, hf2⟩ := put2 (x2 + wt)
      have s7 : Same H (upd H6 A2 (.lst ((IL l2).set p.2.toNat (.int (x2 + wt))))) := same_upd hn2 s6
      generalize upd H6 A2 (.lst ((IL l2).set p.2.toNat (.int (x2 + wt)))) = H7 at *
      rw [ex2] at hf2
      obtain ⟨A3, l3, x3, y3, hA3, hx3, hl3, ex3, hn3, put3⟩ := hT7.get (i := p.1.toNat) (j := p.2.toNat) (by omega) (by omega)
      refine ⟨_, rfl, _, rfl, tA, zs, p.1, .ref A3, rfl, rfl, SqL.of hT7.tab, atI_of (n := p.1.toNat) (by omega) y3, _, rfl, A3, _, p.2, .int x3, rfl, rfl, SqL.of hA3, by omega, il_at hx3, _, rfl, _, _, rfl, rfl, A3, _, p.2, p.2.toNat, rfl, rfl, hA3, ixN_of (by omega) (by rw [il_length]; omega), ?_⟩
      obtain ⟨L3, hT8, hf3⟩ := put3 (x3 - wt)
      have s8 : Same H (upd H7 A3 (.lst ((IL l3).set p.2.toNat (.int (x3 - wt))))) := same_upd hn3 s7
      generalize upd H7 A3 (.lst ((IL l3).set p.2.toNat (.int (x3 - wt)))) = H8 at *
      rw [ex3] at hf3
      obtain ⟨A4, l4, x4, y4, hA4, hx4, hl4, ex4, hn4, put4⟩ := hT8.get (i := p.2.toNat) (j := p.1.toNat) (by omega) (by omega)
      refine ⟨_, rfl, _, rfl, tA, zs, p.2, .ref A4, rfl, rfl, SqL.of hT8.tab, atI_of (n := p.2.toNat) (by omega) y4, _, rfl, A4, _, p.1, .int x4, rfl, rfl, SqL.of hA4, by omega, il_at hx4, _, rfl, _, _, rfl, rfl, A4, _, p.1, p.1.toNat, rfl, rfl, hA4, ixN_of (by omega) (by rw [il_length]; omega), ?_⟩
      obtain ⟨L4, hT9, hf4⟩ := put4 (x4 - wt)
      have s9 : Same H (upd H8 A4 (.lst ((IL l4).set p.1.toNat (.int (x4 - wt))))) := same_upd hn4 s8
      generalize upd H8 A4 (.lst ((IL l4).set p.1.toNat (.int (x4 - wt)))) = H9 at *
      rw [ex4] at hf4
      refine ⟨L4, _, _, _, _, rfl, s9, hT9, fun x y hx hy => ?_⟩
      rw [esn, lapE_snoc, ← hlap x y hx hy]
      exact four hne' x y hf1 hf2 hf3 hf4
    · rintro σ H4 ⟨L, v3, v4, v5, v6, rfl, s4, hT4, hlap⟩
      rw [hl, List.take_length, ← hwl, List.take_length] at hlap
      exact ⟨_, rfl, q tA zs L H4 s4 htA0 hT4 hlap⟩
end
end My
namespace My
open PySem L2 PyProof.Rows
set_option maxHeartbeats 4000000
/-- the table of a web -/
def sp_pull_table (K : PySem.W.Frag) (C : Addr) : Sp := fun vs H Q _ => ∃ (w : Addr) (n : Int) (ps : List (Int × Int)), vs = [.ref w] ∧ WebAt C H w n ps ∧ GoodW n ps ∧
  ∀ (r : Addr) (ys : List V) (L : List (List Int)) (H' : Hp), Same H H' → H r = none → TabAt H r n.toNat H' ys L → (∀ i j, i < n.toNat → j < n.toNat → fnL L i j = lapE (edsOf ps (List.replicate ps.length 1)) i j) → Q (.ref r) H'
section
variable {P : Program} {w : World} {K : PySem.W.Frag} {mg : Str → Option Value} {base : Heap} {t : Adr}
theorem sc_pull_table : FnScope ["web"] ["web"] (defScope s_pull_table) := ⟨rfl, rfl, rfl, by decide +kernel, rfl, by decide +kernel, by decide +kernel⟩
theorem ok_pull_table (T : Txt K mg t) : FnOk P w K mg base CX0 2 t.a_pull_table t.d_pull_table ["web"] (sp_pull_table K t.A_Web) := by
  refine T.f_pull_table.ok sc_pull_table (fun vs H Q E h => ?_) (fun cdv A outer s H vs Q E hr h => ?_)
  · obtain ⟨w, n, ps, rfl, _⟩ := h
    rfl
  · obtain ⟨w, n, ps, rfl, hW, hG, q⟩ := h
    refine ⟨_, (pss_one (ps_ret (pe_call (ok_weighted_table T) (hr.mono (by decide)) rfl T.m_weighted_table T.f_weighted_table.kp T.b_weighted_table .nil pass0 (pa_cons (pv 0) (pa_cons (pe_op op_rep (pe_lst (pa_cons pe_int pa_nil)) (pe_callB (call_lenK K) (by rfl) T.n_len Boot.«len» (pa_cons (pe_fldK K (pv 0) rfl) pa_nil))) pa_nil))))), ?_⟩
    obtain ⟨dx, tl, xs, h1, h2, h3⟩ := id hW
    have hl := h3.1
    have g3 := hG.2.2.1
    refine ⟨_, rfl, (by show 1 ≤ sizeLine; decide), fun p1 hp1 => ?_⟩
    have u1 := same_at (o := .lst [.int 1]) hp1
    refine ⟨_, rfl, w, _, dx, _, _, rfl, u1 _ _ h1, T.cl_Web, T.n_Web_ties, wf_ties _ _, tl, xs, rfl, .inl (SqL.of (u1 _ _ h2)), p1, (xs.length : Int), _, rfl, rfl, upd_same, by omega, by omega, small60 (by show 1 * _ ≤ _; omega), fun p2 hp2 => ?_⟩
    have e0 : (List.replicate (xs.length : Int).toNat [V.int 1]).flatten = IL (List.replicate ps.length 1) := by
      rw [Int.toNat_natCast, hl, rep_one2]
      show _ = (List.replicate ps.length 1).map V.int
      rw [List.map_replicate]
    rw [e0]
    have u2 := u1.trans (same_at (o := .lst (IL (List.replicate ps.length 1))) hp2)
    refine ⟨w, p2, n, ps, List.replicate ps.length 1, rfl, hW.same u2, hG, SqL.of upd_same, List.length_replicate, fun r ys L H' s hr hT hf => ?_⟩
    exact q r ys L H' (u2.trans s) (u2.free hr) ⟨hT.tab, hT.rows, hT.len, hT.all, hT.nd, fun A h => u2.free (hT.new A h)⟩ hf
end
end My
namespace My
open PySem L2 PyProof.Rows
set_option maxHeartbeats 4000000
/-- how many trees -/
def sp_tree_count (K : PySem.W.Frag) (C : Addr) : Sp := fun vs H Q _ => ∃ (w : Addr) (n : Int) (ps : List (Int × Int)), vs = [.ref w] ∧ WebAt C H w n ps ∧ GoodW n ps ∧ ∀ (c : Nat) (H' : Hp), TC n ps c → Same H H' → Q (.int c) H'
theorem ind_abs (u v i : Nat) : (ind u v i).natAbs ≤ 1 := by
  unfold ind
  split <;> split <;> decide
theorem lap_abs : ∀ {E : List Ed}, (∀ e ∈ E, e.2.2 = 1) → ∀ i j, (lapE E i j).natAbs ≤ E.length
  | [], _, i, j => Nat.le_refl 0
  | e :: E, h, i, j => by
    have ih := lap_abs (fun f hf => h f (List.mem_cons_of_mem _ hf)) i j
    have h1 := ind_abs e.1 e.2.1 i
    have h2 := ind_abs e.1 e.2.1 j
    have h3 : (ind e.1 e.2.1 i * ind e.1 e.2.1 j).natAbs ≤ 1 := by rw [Int.natAbs_mul]; exact Nat.mul_le_mul h1 h2
    show (e.2.2 * (ind e.1 e.2.1 i * ind e.1 e.2.1 j) + lapE E i j).natAbs ≤ (e :: E).length
    rw [h e List.mem_cons_self, Int.one_mul, List.length_cons]
    have := Int.natAbs_add_le (ind e.1 e.2.1 i * ind e.1 e.2.1 j) (lapE E i j)
    omega
theorem cutz_snd {α : Type} {l : List α} {i : Nat} (hi : l.length = i + 1) : cutz l (i : Int) = l.take i := by
  unfold cutz
  rw [Int.toNat_natCast, List.drop_eq_nil_of_le (by omega), List.append_nil]
section
variable {P : Program} {w : World} {K : PySem.W.Frag} {mg : Str → Option Value} {base : Heap} {t : Adr}
theorem sc_tree_count : FnScope ["web"] ["web"] (defScope s_tree_count) := ⟨rfl, rfl, rfl, by decide +kernel, rfl, by decide +kernel, by decide +kernel⟩
theorem ok_tree_count (T : Txt K mg t) : FnOk P w K mg base CX0 3 t.a_tree_count t.d_tree_count ["web"] (sp_tree_count K t.A_Web) := by
  refine T.f_tree_count.ok sc_tree_count (fun vs H Q E h => ?_) (fun cdv A outer s H vs Q E hr h => ?_)
  · obtain ⟨w, n, ps, rfl, _⟩ := h
    rfl
  · obtain ⟨w, n, ps, rfl, hW, hG, q⟩ := h
    refine ⟨_, (pss_one (ps_ret (pe_call (ok_determinant T) (hr.mono (by decide)) rfl T.m_determinant T.f_determinant.kp T.b_determinant .nil passN (pa_cons (pe_call (ok_table_without T) (hr.mono (by decide)) rfl T.m_table_without T.f_table_without.kp T.b_table_without .nil pass0 (pa_cons (pe_call (ok_pull_table T) (hr.mono (by decide)) rfl T.m_pull_table T.f_pull_table.kp T.b_pull_table .nil pass0 (pa_cons (pv 0) pa_nil)) (pa_cons (pe_op op_sub (pe_fldK K (pv 0) rfl) pe_int) pa_nil))) pa_nil)))), ?_⟩
    obtain ⟨g1, g2, g3, g4⟩ := id hG
    refine ⟨_, rfl, w, n, ps, rfl, hW, hG, fun r ys L H1 s1 hr hT hf => ?_⟩
    obtain ⟨dx, tl, xs, h1, h2, h3⟩ := id hW
    refine ⟨_, rfl, w, _, dx, _, _, rfl, s1 _ _ h1, T.cl_Web, T.n_Web_places, wf_places _ _, _, _, rfl, rfl, ?_⟩
    obtain ⟨k, hk⟩ : ∃ k : Nat, n - 1 = (k : Int) := ⟨(n - 1).toNat, by omega⟩
    have hnk : n.toNat = k + 1 := by omega
    have hLl := hT.len
    have hTB : Bears (ListV H1) ys L := hT.rows.imp fun _ _ h => h.list
    refine ⟨r, ys, L, k, ?_, SqL.of hT.tab, hTB, by omega, fun l h => by rw [hT.all l h]; omega, by omega, fun r2 zs H2 s2 hr2 hZ => ?_⟩
    · show [V.ref r, V.int (n - 1)] = _
      rw [hk]
    have w1 : ∀ e ∈ edsOf ps (List.replicate ps.length (1 : Int)), e.2.2 = 1 := fun e he => by
      unfold edsOf at he
      obtain ⟨i, hi⟩ := List.getElem?_of_mem he
      rw [List.getElem?_zipWith] at hi
      cases h1 : ps[i]? with
      | none => rw [h1] at hi; cases hi
      | some p =>
        cases h2 : (List.replicate ps.length (1 : Int))[i]? with
        | none => rw [h1, h2] at hi; cases hi
        | some w =>
          rw [h1, h2] at hi
          obtain rfl := Option.some.inj hi
          exact List.eq_of_mem_replicate (List.mem_of_getElem? h2)
    have el : (edsOf ps (List.replicate ps.length (1 : Int))).length ≤ 30 := by
      unfold edsOf
      rw [List.length_zipWith, List.length_replicate]
      omega
    have hM : (cutz L (k : Int)).map (fun l => cutz l (k : Int)) = (L.take k).map fun l => l.take k := by
      rw [cutz_snd (by omega)]
      exact List.map_congr_left fun l hl => cutz_snd (by rw [hT.all l (List.mem_of_mem_take hl)]; omega)
    rw [hM] at hZ
    have hMl : ((L.take k).map fun l => l.take k).length = k := by rw [List.length_map, List.length_take]; omega
    have hfn : ∀ i j, i < k → j < k → fnL ((L.take k).map fun l => l.take k) i j = lapE (edsOf ps (List.replicate ps.length 1)) i j := fun i j hi hj => by
      rw [← hf i j (by omega) (by omega)]
      obtain ⟨l, hl⟩ : ∃ l, L[i]? = some l := ⟨_, List.getElem?_eq_getElem (by omega)⟩
      have hll := hT.all l (List.mem_of_getElem? hl)
      obtain ⟨x, hx⟩ : ∃ x, l[j]? = some x := ⟨_, List.getElem?_eq_getElem (by omega)⟩
      rw [fnL_at hl hx]
      exact fnL_at (l := l.take k) (by rw [List.getElem?_map, List.getElem?_take, if_pos hi, hl]; rfl) (by rw [List.getElem?_take, if_pos hj]; exact hx)
    refine ⟨r2, false, zs, (L.take k).map fun l => l.take k, rfl, SqL.of hr2, hZ.imp (fun _ _ ⟨r', e, h⟩ => ⟨r', false, e, SqL.of h⟩), by rw [hMl]; omega, fun i j hi hj => ?_, fun _ H3 s3 => ?_, fun h => absurd (fun l hl => ?_) h⟩
    · rw [hMl] at hi hj
      rw [hfn i j hi hj]
      exact Nat.le_trans (lap_abs w1 i j) (Nat.le_trans el (Nat.le_trans (by decide : 30 ≤ 2 ^ 5) (Nat.pow_le_pow_right (by decide) (by decide))))
    · have hd : det ((L.take k).map fun l => l.take k).length (fnL ((L.take k).map fun l => l.take k)) = det (n - 1).toNat (lapE (edsOf ps (List.replicate ps.length 1))) := by
        rw [hMl, show (n - 1).toNat = k by omega]
        exact det_congr fun i j hi hj => hfn i j hi hj
      obtain ⟨c, M, a1, a2, a3⟩ : ∃ c, TC n ps c := by
        obtain ⟨M, a1, a2, _⟩ := matrix_tree _ (n - 1).toNat (edsOf ps (List.replicate ps.length 1)) rfl (eds_in hG _)
        exact ⟨M.length, M, a1, fun l => by rw [a2, isT_web g1 List.length_replicate], rfl⟩
      rw [hd, tree_det hG a1 a2, a3]
      exact q c H3 ⟨M, a1, a2, a3⟩ (s1.trans (s2.trans s3))
    · obtain ⟨l0, h0, rfl⟩ := List.mem_map.mp hl
      rw [hMl, List.length_take, hT.all l0 (List.mem_of_mem_take h0)]
      omega
end
end My
namespace My
open PySem L2 PyProof.Rows
set_option maxHeartbeats 4000000
/-- how many trees have the ties inside and none of those outside -/
def sp_part_count (K : PySem.W.Frag) (C : Addr) : Sp := fun vs H Q _ => ∃ (w a b : Addr) (n : Int) (ps : List (Int × Int)) (Is Os : List Int), vs = [.ref w, .ref a, .ref b] ∧ WebAt C H w n ps ∧ GoodW n ps ∧ SqT K H a (IL Is) ∧ SqT K H b (IL Os) ∧ IsSet ps.length Is ∧ Os.length ≤ 30 ∧ (∀ z ∈ Is, z ∉ Os) ∧ ∀ (c : Nat) (H' : Hp), PC n ps Is Os c → Same H H' → Q (.int c) H'
theorem catU_ok {K : PySem.W.Frag} {H : Hp} {a b : Addr} {l m : List Int} {Q : VK} (ha : SqT K H a (IL l)) (hb : SqT K H b (IL m)) (hl : l.length + m.length ≤ 1000) (k : ∀ (r : Addr) (H' : Hp), Same H H' → SqT K H' r (IL (l ++ m)) → Q (.ref r) H') : rCatU K (.ref a) (.ref b) H Q := by
  refine ⟨a, b, _, _, rfl, rfl, ha, hb, by rw [il_length, il_length]; exact Nat.le_trans hl (by decide), fun e => ?_, fun _ e => ?_, fun _ _ p hp => ?_⟩
  · have el : l = [] := List.map_eq_nil_iff.mp e
    rw [el, List.nil_append] at k
    exact k b H (Same.refl _) hb
  · have em : m = [] := List.map_eq_nil_iff.mp e
    rw [em, List.append_nil] at k
    exact k a H (Same.refl _) ha
  · refine k p _ (same_at hp) (SqT.of ?_)
    rw [upd_same, il_append]
theorem fre_succ {gone : List Int} (j : Nat) : freT (j + 1) gone = freT j gone ++ (if ((j : Int) ∈ gone) then [] else [(j : Int)]) := by
  unfold freT
  rw [rgL_succ, List.filter_append]
  congr 1
  by_cases c : (j : Int) ∈ gone
  · rw [if_pos c, List.filter_cons, if_neg (by simp [c])]; rfl
  · rw [if_neg c, List.filter_cons, if_pos (by simp [c])]; rfl
section
variable {P : Program} {w : World} {K : PySem.W.Frag} {mg : Str → Option Value} {base : Heap} {t : Adr}
theorem sc_part_count : FnScope ["web", "inside", "outside", "marks", "firsts", "numbers", "gone", "free"] ["web", "inside", "outside"] (defScope s_part_count) := ⟨rfl, rfl, rfl, by decide +kernel, rfl, by decide +kernel, by decide +kernel⟩
theorem ok_part_count (T : Txt K mg t) : FnOk P w K mg base CX0 4 t.a_part_count t.d_part_count ["web", "inside", "outside"] (sp_part_count K t.A_Web) := by
  refine T.f_part_count.ok sc_part_count (fun vs H Q E h => ?_) (fun cdv A outer s H vs Q E hr h => ?_)
  · obtain ⟨w, a, b, n, ps, Is, Os, rfl, _⟩ := h
    rfl
  · obtain ⟨w, a, b, n, ps, Is, Os, rfl, hW, hG, hA, hB, hI, hO, hIO, q⟩ := h
    refine ⟨_, (pss_cons (ps_set (i := 3) sc_part_count.nd rfl (Or.inl rfl) (pe_call (ok_piece_marks T) (hr.mono (by decide)) rfl T.m_piece_marks T.f_piece_marks.kp T.b_piece_marks .nil pass0 (pa_cons (pv 0) (pa_cons (pv 1) pa_nil))))
      (pss_cons (ps_set (i := 4) sc_part_count.nd rfl (Or.inr rfl) (pe_sortedSet K rfl rfl T.n_sorted rfl T.n_set (pa_cons (pv 3) pa_nil)))
      (pss_cons (ps_if (pt_cmpR op_gt (pe_op op_add (pe_callB (call_lenK K) (by rfl) T.n_len Boot.«len» (pa_cons (pv 4) pa_nil)) (pe_callB (call_lenK K) (by rfl) T.n_len Boot.«len» (pa_cons (pv 1) pa_nil))) (pe_fldK K (pv 0) rfl) (nomark _))
      (pss_one (ps_ret pe_int))
      pss_nil)
      (pss_cons (ps_set (i := 5) sc_part_count.nd rfl (Or.inr rfl) (pe_lc rfl (sc0 := defScope s_part_count) (N0 := ["web", "inside", "outside", "marks", "firsts", "numbers", "gone", "free"]) (N' := ["mark", "firsts"]) (o := 1) (fr := [4]) ⟨rfl, by decide +kernel, by decide +kernel, by decide +kernel, rfl, by decide +kernel⟩ (pi_listK K (pv 3)) (own_name (by decide)) (fun _ _ _ _ => (pg_name (i := 0) (show List.Nodup (["mark", "firsts"] : List Str) by decide +kernel) rfl (Or.inl rfl))) (fun _ _ _ _ => pts_nil) (fun _ _ _ _ => (pe_bmK K PySem.F.plainAttrs_list PySem.F.slot_list_index PySem.F.type_list_index (mt_indexK K) (pv 1) (pa_cons (pv 0) pa_nil)))))
      (pss_cons (ps_set (i := 6) sc_part_count.nd rfl (Or.inr rfl) (pe_op (op_catU K) (pv 1) (pv 2)))
      (pss_cons (ps_lc (i := 7) rfl sc_part_count.nd rfl rfl (sc0 := defScope s_part_count) (N0 := ["web", "inside", "outside", "marks", "firsts", "numbers", "gone", "free"]) (N' := ["tie", "ends", "gone"]) (o := 2) (fr := [6]) ⟨rfl, by decide +kernel, by decide +kernel, by decide +kernel, rfl, by decide +kernel⟩ (pi_enumK K rfl T.n_enumerate (pa_cons (pe_fldK K (pv 0) rfl) pa_nil)) (own_tup (own_cons (by decide) (own_cons (by decide) own_nil))) (fun _ _ _ _ => (pg_tupK (n := 2) K rfl (pgs_cons (pg_name (i := 0) (show List.Nodup (["tie", "ends", "gone"] : List Str) by decide +kernel) rfl (Or.inl rfl)) (pgs_cons (pg_name (i := 1) (show List.Nodup (["tie", "ends", "gone"] : List Str) by decide +kernel) rfl (Or.inl rfl)) pgs_nil)))) (fun _ _ _ _ => (pts_one (pt_cmpR (op_notInK K) (pv 0) (pv 2) rfl))) (fun _ _ _ _ => (pv 1)))
      (pss_one (ps_ret (pe_call (ok_tree_count T) (hr.mono (by decide)) rfl T.m_tree_count T.f_tree_count.kp T.b_tree_count .nil pass0 (pa_cons (pe_make T.k_Web (ok_Web___init T) (hr.mono (by decide)) rfl T.c_Web T.b_Web___init .nil pass0 (pa_cons (pe_callB (call_lenK K) (by rfl) T.n_len Boot.«len» (pa_cons (pv 4) pa_nil)) (pa_cons (pe_lc rfl (sc0 := defScope s_part_count) (N0 := ["web", "inside", "outside", "marks", "firsts", "numbers", "gone", "free"]) (N' := ["ends", "numbers"]) (o := 1) (fr := [5]) ⟨rfl, by decide +kernel, by decide +kernel, by decide +kernel, rfl, by decide +kernel⟩ (pi_listK K (pv 7)) (own_name (by decide)) (fun _ _ _ _ => (pg_name (i := 0) (show List.Nodup (["ends", "numbers"] : List Str) by decide +kernel) rfl (Or.inl rfl))) (fun _ _ _ _ => pts_nil) (fun _ _ _ _ => (pe_tup (pa_cons (pe_ix (ix_listK K) (pv 1) (pe_ix (ix_tupK K) (pv 0) pe_int (fun _ _ => rfl)) (fun _ _ => rfl)) (pa_cons (pe_ix (ix_listK K) (pv 1) (pe_ix (ix_tupK K) (pv 0) pe_int (fun _ _ => rfl)) (fun _ _ => rfl)) pa_nil))))) pa_nil))) pa_nil)))))))))), ?_⟩
    obtain ⟨g1, g2, g3, g4⟩ := id hG
    have hIl := hI.len
    refine ⟨_, rfl, _, rfl, w, a, n, ps, Is, rfl, hW, hG, hA, hI.all, fun mA H1 s1 hm0 hm1 => ?_⟩
    have hpl := pms_length n.toNat (endsOf ps Is)
    have hin := ends_in (ns := Is) hG hI.all
    have hel : (endsOf ps Is).length = Is.length := List.length_map ..
    refine nm ?_
    refine ⟨_, rfl, mA, _, rfl, SqL.of hm1, by omega, fun F hF hFm fA hfA => ?_⟩
    have s2 := same_at (o := .lst (IL F)) hfA
    have hf2 : (upd H1 fA (.lst (IL F))) fA = some (.lst (IL F)) := upd_same
    have hm2 := s2 _ _ hm1
    have s02 := s1.trans s2
    refine nm ?_
    dsimp only
    generalize upd H1 fA (.lst (IL F)) = H2 at *
    obtain ⟨g, hfg, hfk, hgg⟩ := marks_fg hin hF hFm
    obtain ⟨k1, kn, nk⟩ := first_bounds hin (by omega) hF hFm
    have hA2 := sqT_same s02 hA
    have hB2 := sqT_same s02 hB
    obtain ⟨dx, tl, xs, h1, h2, h3⟩ := hW.same s02
    have hlx := h3.1
    refine ⟨_, rfl, fA, _, rfl, .inl (SqL.of hf2), _, rfl, a, _, rfl, .inr hA2, _, _, rfl, rfl, _, rfl, w, _, dx, _, _, rfl, h1, T.cl_Web, T.n_Web_places, wf_places _ _, _, _, rfl, rfl, _, rfl, ?_⟩
    rw [il_length, il_length]
    refine itd2 (fun hc => ?_) (fun hc => ?_)
    · exact q 0 H2 (pc_zero hG hI hfg hfk hgg k1 kn (by omega)) s02
    -- numbers
    refine ⟨_, rfl, mA, rfl, ⟨_, SqL.of hm2⟩, lc_list (K := K) (a := mA) (xs := IL (pms n.toNat (endsOf ps Is))) (fun i zs H3 => H3 = H2 ∧ i ≤ n.toNat ∧ zs = IL (((pms n.toNat (endsOf ps Is)).take i).map fun z => (nix F z : Int))) ⟨rfl, Nat.zero_le _, rfl⟩ (small60' (by rw [il_length, hpl]; omega)) (fun i zs H3 _ ⟨e, hi, ez⟩ => ⟨e ▸ SqL.of hm2, by rw [ez, il_length, List.length_map, List.length_take]; omega⟩) ?_ ?_⟩
    · rintro i v zs H3 hi ⟨rfl, hin3, rfl⟩ S hSS
      obtain ⟨z, rfl, hz⟩ := il_get hi
      have hzF : z ∈ F := (hFm z).mpr (List.mem_of_getElem? hz)
      have hlt := (List.getElem?_eq_some_iff.mp hz).1
      refine nm ?_
      refine ⟨_, rfl, .inl ⟨rfl, _, SqL.of hf2⟩, _, rfl, fA, F, z, nix F z, rfl, rfl, SqL.of hf2, nix_get hzF, fun i hi e => by have := nodup_get (lt_nodup hF) e (nix_get hzF); omega, hSS _ _ ⟨rfl, by omega, ?_⟩⟩
      rw [List.take_succ, hz, List.map_append]
      exact (il_snoc _ _).symm
    rintro zs H3 ⟨rfl, _, rfl⟩ nA hnA
    rw [il_length, List.take_length]
    have s3 := same_at (o := .lst (IL ((pms n.toNat (endsOf ps Is)).map fun z => (nix F z : Int)))) hnA
    have hn4 : (upd H3 nA (.lst (IL ((pms n.toNat (endsOf ps Is)).map fun z => (nix F z : Int))))) nA = some (.lst (IL ((pms n.toNat (endsOf ps Is)).map fun z => (nix F z : Int)))) := upd_same
    have hf4 := s3 _ _ hf2
    have hA4 := sqT_same s3 hA2
    have hB4 := sqT_same s3 hB2
    have s04 := s02.trans s3
    generalize upd H3 nA (.lst (IL ((pms n.toNat (endsOf ps Is)).map fun z => (nix F z : Int)))) = H4 at *
    have nAt : ∀ x : Int, 0 ≤ x → x < n → ((pms n.toNat (endsOf ps Is)).map fun z => (nix F z : Int))[x.toNat]? = some (nix F (mk (pms n.toNat (endsOf ps Is)) x.toNat) : Int) := fun x x0 x1 => by
      rw [List.getElem?_map, List.getElem?_eq_getElem (by omega)]
      unfold mk
      rw [List.getD_eq_getElem?_getD, List.getElem?_eq_getElem (by omega)]
      rfl
    -- gone
    refine nm ?_
    dsimp only
    refine ⟨_, rfl, _, rfl, catU_ok hA4 hB4 (by omega) fun gA H5 s5 hg5 => ?_⟩
    have s05 := s04.trans s5
    obtain ⟨dx, tl, xs, h1, h2, h3⟩ := hW.same s05
    have hlx := h3.1
    -- free
    refine nm ?_
    dsimp only
    refine ⟨_, rfl, w, _, dx, _, _, rfl, h1, T.cl_Web, T.n_Web_ties, wf_ties _ _, tl, rfl, ⟨_, SqL.of h2⟩, lc_enum (K := K) (a := tl) (xs := xs) (fun j zs H6 => Same H5 H6 ∧ j ≤ ps.length ∧ PairsV H6 zs ((freT j (Is ++ Os)).map fun z => ps.getD z.toNat (0, 0))) ⟨Same.refl _, Nat.zero_le _, PairsV.nil⟩ (small60' (by omega)) (fun j zs H6 hj ⟨e, hj2, ez⟩ => ⟨e.seq (SqL.of h2), by
      rw [ez.1, List.length_map]
      refine Nat.le_trans (List.length_filter_le ..) ?_
      rw [rgL_length]
      exact Nat.le_refl _⟩) ?_ ?_⟩
    · rintro j v zs H6 pt hpt hj ⟨s6, hjl, hZ⟩ S hSS
      obtain ⟨p, hp, tt, rfl, ht⟩ := h3.at hj
      have hjl' := (List.getElem?_eq_some_iff.mp hp).1
      have s7 := same_at (o := .tup [.int j, .ref tt]) hpt
      refine ⟨pt, _, rfl, SqT.of upd_same, rfl, _, _, rfl, _, _, rfl, rfl, ?_⟩
      have hZ7 := hZ.same s7
      have s57 := s6.trans s7
      generalize upd H6 pt (.tup [.int j, .ref tt]) = H7 at *
      refine ⟨_, rfl, _, rfl, gA, _, rfl, .inr (sqT_same s57 hg5), rfl, flat_ints _, _, rfl, ?_⟩
      rw [inV_ints]
      refine itn2 (fun hin2 => ?_) (fun hin2 => ?_)
      · refine hSS _ _ ⟨s57, hjl', ?_⟩
        rw [fre_succ, if_pos hin2, List.append_nil]
        exact hZ7
      · refine ⟨_, rfl, hSS _ _ ⟨s57, hjl', ?_⟩⟩
        rw [fre_succ, if_neg hin2, List.map_append]
        refine hZ7.app ?_
        show PairsV H7 [V.ref tt] [ps.getD ((j : Nat) : Int).toNat (0, 0)]
        rw [Int.toNat_natCast, getD_of hp]
        exact PairsV.nil.snoc ⟨tt, rfl, s57 _ _ ht⟩
    rintro zs H6 ⟨s6, _, hZ⟩ rA hrA
    rw [hlx] at hZ
    have s7 := same_at (o := .lst zs) hrA
    have hr7 : (upd H6 rA (.lst zs)) rA = some (.lst zs) := upd_same
    have hZ7 := hZ.same s7
    have s57 := s6.trans s7
    generalize upd H6 rA (.lst zs) = H7 at *
    have hf7 := s57 _ _ (s5 _ _ hf4)
    have hn7 := s57 _ _ (s5 _ _ hn4)
    have hzl := hZ7.1
    have hfl : (freT ps.length (Is ++ Os)).length ≤ 30 := by
      refine Nat.le_trans (List.length_filter_le ..) ?_
      rw [rgL_length]
      omega
    rw [List.length_map] at hzl
    -- the web of the pieces
    refine nm ?_
    dsimp only
    refine ⟨_, rfl, fA, _, rfl, .inl (SqL.of hf7), _, rfl, rA, rfl, ⟨_, SqL.of hr7⟩, lc_list (K := K) (a := rA) (xs := zs) (fun i ws H8 => Same H7 H8 ∧ i ≤ (freT ps.length (Is ++ Os)).length ∧ PairsV H8 ws (((freT ps.length (Is ++ Os)).take i).map fun z => ((nix F (mk (pms n.toNat (endsOf ps Is)) (endOf ps z).1) : Int), (nix F (mk (pms n.toNat (endsOf ps Is)) (endOf ps z).2) : Int)))) ⟨Same.refl _, Nat.zero_le _, PairsV.nil⟩ (small60' (by omega))
      (fun i ws H8 hi ⟨e, hi2, ew⟩ => ⟨e.seq (SqL.of hr7), by rw [ew.1, List.length_map, List.length_take]; omega⟩) ?_ ?_⟩
    · rintro i v ws H8 hi ⟨s8, hil, hPw⟩ S hSS
      obtain ⟨p, hp, tt, rfl, ht⟩ := hZ7.at hi
      rw [List.getElem?_map] at hp
      obtain ⟨z, hz, ez⟩ : ∃ z, (freT ps.length (Is ++ Os))[i]? = some z ∧ ps.getD z.toNat (0, 0) = p := by
        cases hq : (freT ps.length (Is ++ Os))[i]? with
        | none => rw [hq] at hp; cases hp
        | some z => rw [hq] at hp; exact ⟨z, rfl, Option.some.inj hp⟩
      have hz1 := (freT_mem.mp (List.mem_of_getElem? hz)).1
      obtain ⟨p', hp'⟩ : ∃ p, ps[z.toNat]? = some p := ⟨_, List.getElem?_eq_getElem (by omega)⟩
      have epp : p' = p := by rw [← ez, getD_of hp']
      rw [epp] at hp'
      obtain ⟨e1, e2, e3, e4⟩ := g4 p (List.mem_of_getElem? hp')
      have ee : endOf ps z = (p.1.toNat, p.2.toNat) := by unfold endOf; rw [getD_of hp']
      have ht8 := s8 _ _ ht
      have hn8 := s8 _ _ hn7
      refine nm ?_
      refine ⟨_, rfl, _, rfl, tt, _, 0, .int p.1, rfl, rfl, SqT.of ht8, rfl, nA, _, _, _, rfl, rfl, SqL.of hn8, atI_of (n := p.1.toNat) (by omega) (il_at (nAt p.1 e1 e2)), ?_⟩
      refine ⟨_, rfl, _, rfl, tt, _, 1, .int p.2, rfl, rfl, SqT.of ht8, rfl, nA, _, _, _, rfl, rfl, SqL.of hn8, atI_of (n := p.2.toNat) (by omega) (il_at (nAt p.2 e3 e4)), (by show 2 ≤ sizeLine; decide), fun pp hpp => ?_⟩
      refine hSS _ _ ⟨s8.trans (same_at hpp), by have := (List.getElem?_eq_some_iff.mp hz).1; omega, ?_⟩
      rw [List.take_succ, hz, List.map_append]
      refine (hPw.same (same_at hpp)).snoc ⟨pp, rfl, ?_⟩
      dsimp only
      rw [ee]
      exact upd_same
    rintro ws H8 ⟨s8, _, hPw⟩ la hla
    rw [hzl, List.take_length] at hPw
    have s9 := same_at (o := .lst ws) hla
    have hla9 : (upd H8 la (.lst ws)) la = some (.lst ws) := upd_same
    have hP9 := hPw.same s9
    have s79 := s8.trans s9
    generalize upd H8 la (.lst ws) = H9 at *
    have hGc := con_good (f := fun i => nix F (mk (pms n.toNat (endsOf ps Is)) i)) hG (Is ++ Os) hfk k1 kn
    intro x dx2 nx ndx nex
    have t1 : Same H9 (upd (upd H9 dx2 (.own x)) x (.ins t.A_Web dx2 [])) := same_new (same_at ndx) (by rw [upd_ne (Ne.symm nex)]; exact nx)
    refine ⟨x, dx2, (F.length : Int), la, false, ws, _, by rw [il_length]; rfl, upd_same, fun o => ?_, hP9.same t1, hGc, fun H10 hV k10 => ⟨rfl, ?_⟩⟩
    · exact SqL.of (by rw [upd_ne (ne_of_none hla9 nx), upd_ne (ne_of_none hla9 nx), upd_ne (ne_of_none hla9 ndx)]; exact hla9)
    have s10 : Same H9 H10 := fun b o e => k10 b o (t1 b o e) (ne_of_none e nx)
    refine ⟨x, _, _, rfl, hV, hGc, fun c H11 hc s11 => q c H11 (pc_of hG hI hIO hfg hfk hgg (by omega) hc) (s05.trans (s57.trans (s79.trans (s10.trans s11))))⟩
end
end My
namespace My
open PySem L2 PyProof.Rows
set_option maxHeartbeats 4000000
/-- the count of the trees with and without, or BadSet -/
def sp_count_with (K : PySem.W.Frag) (C B : Addr) : Sp := fun vs H Q E => ∃ (w a b : Addr) (n : Int) (ps : List (Int × Int)) (Is Os : List Int), vs = [.ref w, .ref a, .ref b] ∧ WebAt C H w n ps ∧ GoodW n ps ∧ SqT K H a (IL Is) ∧ SqT K H b (IL Os) ∧
  (IsSet ps.length Is → IsSet ps.length Os → ∀ (c : Nat) (H' : Hp), PC n ps Is Os c → Same H H' → Q (.int c) H') ∧ (¬ (IsSet ps.length Is ∧ IsSet ps.length Os) → ∀ H' : Hp, Same H H' → E (.ref B) none H')
section
variable {P : Program} {w : World} {K : PySem.W.Frag} {mg : Str → Option Value} {base : Heap} {t : Adr}
theorem sc_count_with : FnScope ["web", "inside", "outside"] ["web", "inside", "outside"] (defScope s_count_with) := ⟨rfl, rfl, rfl, by decide +kernel, rfl, by decide +kernel, by decide +kernel⟩
theorem ok_count_with (T : Txt K mg t) : FnOk P w K mg base (CXW P w) 5 t.a_count_with t.d_count_with ["web", "inside", "outside"] (sp_count_with K t.A_Web t.A_BadSet) := by
  refine T.f_count_with.okX sc_count_with (fun vs H Q E h => ?_) (fun cdv A outer s H vs Q E hr h => ?_)
  · obtain ⟨w, a, b, n, ps, Is, Os, rfl, _⟩ := h
    rfl
  · obtain ⟨w, a, b, n, ps, Is, Os, rfl, hW, hG, hA, hB, q, qe⟩ := h
    refine ⟨_, (pss_cons (ps_set (i := 1) sc_count_with.nd rfl (Or.inl rfl) (pe_call (ok_made_set T) (hr.mono (by decide)) rfl T.m_made_set T.f_made_set.kp T.b_made_set .nil pxs (pa_cons (pv 0) (pa_cons (pv 1) pa_nil))))
      (pss_cons (ps_set (i := 2) sc_count_with.nd rfl (Or.inl rfl) (pe_call (ok_made_set T) (hr.mono (by decide)) rfl T.m_made_set T.f_made_set.kp T.b_made_set .nil pxs (pa_cons (pv 0) (pa_cons (pv 2) pa_nil))))
      (pss_cons (ps_if (pt_val (pe_call (ok_have_common T) (hr.mono (by decide)) rfl T.m_have_common T.f_have_common.kp T.b_have_common .nil pass0 (pa_cons (pv 1) (pa_cons (pv 2) pa_nil))))
      (pss_one (ps_ret pe_int))
      pss_nil)
      (pss_one (ps_ret (pe_call (ok_part_count T) (hr.mono (by decide)) rfl T.m_part_count T.f_part_count.kp T.b_part_count .nil pass0 (pa_cons (pv 0) (pa_cons (pv 1) (pa_cons (pv 2) pa_nil))))))))), ?_⟩
    have g3 := hG.2.2.1
    refine ⟨_, rfl, _, rfl, w, a, n, ps, true, Is, rfl, hW, hA, fun hI r1 H1 s1 hr1 => ?_, fun hI => qe (fun h => hI h.1) H (Same.refl _)⟩
    have l1 := hI.len
    refine nm ?_
    refine ⟨_, rfl, _, rfl, w, b, n, ps, true, Os, rfl, hW.same s1, sqT_same s1 hB, fun hO r2 H2 s2 hr2 => ?_, fun hO => qe (fun h => hO h.2) H1 s1⟩
    have l2 := hO.len
    refine nm ?_
    have hr12 := sqT_same s2 hr1
    have s02 := s1.trans s2
    refine ⟨_, rfl, _, rfl, r1, r2, Is, Os, rfl, hr12, hr2, by omega, fun c H3 hc s3 => ⟨_, rfl, ?_⟩⟩
    have s03 := s02.trans s3
    refine itb (fun hb => ?_) (fun hb => ?_)
    · obtain ⟨z, h1, h2⟩ := hc.mp hb
      exact q hI hO 0 H3 (pc_common h1 h2) s03
    · exact ⟨_, rfl, _, rfl, _, rfl, w, r1, r2, n, ps, Is, Os, rfl, hW.same s03, hG, sqT_same s3 hr12, sqT_same s3 hr2, hI, by omega, fun z h1 h2 => absurd (hc.mpr ⟨z, h1, h2⟩) (by rw [hb]; decide), fun c H4 hc4 s4 => q hI hO c H4 hc4 (s03.trans s4)⟩
end
end My
namespace My
open PySem L2 PyProof.Rows
set_option maxHeartbeats 4000000
/-- a cell of the script -/
def sp_law_at (K : PySem.W.Frag) : Sp := fun vs H Q _ => ∃ (a : Addr) (ns : List Int) (k : Int), vs = [.ref a, .int k] ∧ SqL K H a (IL ns) ∧ 0 ≤ k ∧ ∀ r : Int, Q (.int r) H
section
variable {P : Program} {w : World} {K : PySem.W.Frag} {mg : Str → Option Value} {base : Heap} {t : Adr}
theorem sc_law_at : FnScope ["script", "k"] ["script", "k"] (defScope s_law_at) := ⟨rfl, rfl, rfl, by decide +kernel, rfl, by decide +kernel, by decide +kernel⟩
theorem ok_law_at (T : Txt K mg t) : FnOk P w K mg base CX0 1 t.a_law_at t.d_law_at ["script", "k"] (sp_law_at K) := by
  refine T.f_law_at.ok sc_law_at (fun vs H Q E h => ?_) (fun cdv A outer s H vs Q E hr h => ?_)
  · obtain ⟨a, ns, k, rfl, _⟩ := h
    rfl
  · obtain ⟨a, ns, k, rfl, hS, hk, q⟩ := h
    refine ⟨_, (pss_cons (ps_if (pt_cmpR op_lt (pv 1) (pe_callB (call_lenK K) (by rfl) T.n_len Boot.«len» (pa_cons (pv 0) pa_nil)) (nomark _))
      (pss_one (ps_ret (pe_ix (ix_listK K) (pv 0) (pv 1) (fun _ _ => rfl))))
      pss_nil)
      (pss_one (ps_ret pe_int))), ?_⟩
    refine ⟨_, rfl, _, rfl, a, _, rfl, .inl hS, _, _, rfl, rfl, _, rfl, ?_⟩
    refine ite2 (fun hc => ?_) (fun _ => ?_)
    · have hc := of_decide_eq_true hc
      rw [il_length] at hc
      obtain ⟨z, hz⟩ : ∃ z, ns[k.toNat]? = some z := ⟨_, List.getElem?_eq_getElem (by omega)⟩
      exact ⟨_, rfl, _, rfl, a, _, k, .int z, rfl, rfl, hS, atI_of (n := k.toNat) (by omega) (by rw [List.getElem?_map, hz]; rfl), q z⟩
    · exact q 0
end
end My
namespace My
open PySem L2 PyProof.Rows
set_option maxHeartbeats 4000000
/-- a number stirred out of two -/
def sp_law_mixed : Sp := fun vs H Q _ => ∃ (c k : Int), vs = [.int c, .int k] ∧ 0 ≤ k ∧ k < 1000000000 ∧ ∀ r : Int, 0 ≤ r → Q (.int r) H
section
variable {P : Program} {w : World} {K : PySem.W.Frag} {mg : Str → Option Value} {base : Heap} {t : Adr}
theorem sc_law_mixed : FnScope ["cell", "k", "big"] ["cell", "k"] (defScope s_law_mixed) := ⟨rfl, rfl, rfl, by decide +kernel, rfl, by decide +kernel, by decide +kernel⟩
theorem ok_law_mixed (T : Txt K mg t) : FnOk P w K mg base CX0 1 t.a_law_mixed t.d_law_mixed ["cell", "k"] sp_law_mixed := by
  refine T.f_law_mixed.ok sc_law_mixed (fun vs H Q E h => ?_) (fun cdv A outer s H vs Q E hr h => ?_)
  · obtain ⟨c, k, rfl, _⟩ := h
    rfl
  · obtain ⟨c, k, rfl, k0, k1, q⟩ := h
    refine ⟨_, (pss_cons (ps_set (i := 2) sc_law_mixed.nd rfl (Or.inl rfl) (pe_op op_mulC (pe_op op_add (pe_op op_mod (pv 0) (pe_op op_pow pe_int pe_int)) pe_int) (pe_op op_add pe_int (pe_op op_mulC (pe_op op_mulC pe_int (pv 1)) (pv 1)))))
      (pss_cons (ps_set (i := 2) sc_law_mixed.nd rfl (Or.inl rfl) (pe_op op_add (pv 2) (pe_op op_mulC pe_int (pv 1))))
      (pss_one (ps_ret (pe_op op_mod (pe_op op_mulC (pv 2) (pv 2)) (pe_op op_add (pe_op op_pow pe_int pe_int) pe_int)))))), ?_⟩
    have a0 : 0 ≤ c % 10 ^ (60 : Int).toNat := Int.emod_nonneg _ (by decide)
    have a1 : c % 10 ^ (60 : Int).toNat < 10 ^ 60 := Int.emod_lt_of_pos _ (by decide)
    have b := prod_lt (M := 10 ^ 20) (N := 10 ^ 20) (a := 2 * k) (b := k) (by omega) (by omega) k0 (by omega)
    have d := prod_lt (M := 10 ^ 70) (N := 10 ^ 70) (a := c % 10 ^ (60 : Int).toNat + 3) (b := 16180339887498948482045868343656381177203 + 2 * k * k) (by omega) (by omega) (by omega) (by omega)
    refine ⟨_, rfl, _, _, rfl, rfl, ⟨by decide, by decide, by decide⟩, _, _, rfl, rfl, (by show (0 : Int) < 10 ^ 60; decide), _, _, rfl, rfl, _, rfl, _, _, rfl, rfl, ⟨⟨by decide, by decide⟩, by omega, by omega⟩, _, rfl, _, _, rfl, rfl, ⟨⟨by omega, by omega⟩, by omega, by omega⟩, _, _, rfl, rfl, _, _, rfl, rfl, ⟨⟨by omega, by omega⟩, by omega, by omega⟩, ?_⟩
    refine ⟨_, rfl, _, rfl, _, _, rfl, rfl, ⟨⟨by decide, by decide⟩, by omega, by omega⟩, _, _, rfl, rfl, ?_⟩
    refine ⟨_, rfl, _, rfl, _, _, rfl, rfl, ⟨⟨by omega, by omega⟩, by omega, by omega⟩, _, _, rfl, rfl, ⟨by decide, by decide, by decide⟩, _, _, rfl, rfl, _, _, rfl, rfl, (by show (0 : Int) < 10 ^ 60 + 33; decide), ?_⟩
    exact q _ (Int.emod_nonneg _ (by decide))
end
end My
namespace My
open PySem L2 PyProof.Rows
set_option maxHeartbeats 4000000
/-- an int, and no bool -/
def sp_law_whole (K : PySem.W.Frag) : Sp := fun vs H Q _ => ∃ z : Int, vs = [.int z] ∧ Q (.bl true) H
section
variable {P : Program} {w : World} {K : PySem.W.Frag} {mg : Str → Option Value} {base : Heap} {t : Adr}
theorem sc_law_whole : FnScope ["found"] ["found"] (defScope s_law_whole) := ⟨rfl, rfl, rfl, by decide +kernel, rfl, by decide +kernel, by decide +kernel⟩
theorem ok_law_whole (T : Txt K mg t) : FnOk P w K mg base CX0 1 t.a_law_whole t.d_law_whole ["found"] (sp_law_whole K) := by
  refine T.f_law_whole.ok sc_law_whole (fun vs H Q E h => ?_) (fun cdv A outer s H vs Q E hr h => ?_)
  · obtain ⟨z, rfl, _⟩ := h
    rfl
  · obtain ⟨z, rfl, q⟩ := h
    refine ⟨_, (pss_one (ps_ret (pe_and (pe_callB (call_isiK K (T := "int")) (by rfl) T.n_isinstance Boot.«isinstance» (pa_cons (pv 0) (pa_cons (pe_bltn (v := V.ty "int") rfl T.n_int Boot.«int» rfl) pa_nil))) (pe_one (pe_not (pe_callB (call_isiK K (T := "bool")) (by rfl) T.n_isinstance Boot.«isinstance» (pa_cons (pv 0) (pa_cons (pe_bltn (v := V.ty "bool") rfl T.n_bool Boot.«bool» rfl) pa_nil)))))))), ?_⟩
    refine ⟨_, rfl, _, _, _, rfl, TyOf.int _, kit_same, _, rfl, ?_⟩
    refine iteT ?_
    exact ⟨_, rfl, _, _, _, rfl, TyOf.int _, kit_int_bool, _, rfl, q⟩
end
end My
namespace My
open PySem L2 PyProof.Rows
set_option maxHeartbeats 4000000
/-- rings out of the script -/
def sp_law_rings (K : PySem.W.Frag) : Sp := fun vs H Q _ => ∃ (a : Addr) (ns : List Int), vs = [.ref a] ∧ SqL K H a (IL ns) ∧ ns.length ≤ 63 ∧
  ∀ (r : Addr) (zs : List V) (L : List (List Int)) (H' : Hp), Same H H' → H' r = some (.lst zs) → Bears (ListV H') zs L → 1 ≤ L.length → L.length ≤ 6 → RgL L → Q (.ref r) H'
section
variable {P : Program} {w : World} {K : PySem.W.Frag} {mg : Str → Option Value} {base : Heap} {t : Adr}
theorem sc_law_rings : FnScope ["script", "rest", "k", "cell", "told", "sides", "j"] ["script"] (defScope s_law_rings) := ⟨rfl, rfl, rfl, by decide +kernel, rfl, by decide +kernel, by decide +kernel⟩
theorem ok_law_rings (T : Txt K mg t) : FnOk P w K mg base CX0 2 t.a_law_rings t.d_law_rings ["script"] (sp_law_rings K) := by
  refine T.f_law_rings.ok sc_law_rings (fun vs H Q E h => ?_) (fun cdv A outer s H vs Q E hr h => ?_)
  · obtain ⟨a, ns, rfl, _⟩ := h
    rfl
  · obtain ⟨a, ns, rfl, hA, hn63, q⟩ := h
    refine ⟨_, (pss_cons (ps_set (i := 1) sc_law_rings.nd rfl (Or.inl rfl) (pe_op op_mod (pe_call (ok_law_at T) (hr.mono (by decide)) rfl T.m_law_at T.f_law_at.kp T.b_law_at .nil pass0 (pa_cons (pv 0) (pa_cons pe_int pa_nil))) (pe_op op_pow pe_int pe_int)))
      (pss_cons (ps_if (pt_cmpR op_eq (pe_op op_mod (pe_call (ok_law_at T) (hr.mono (by decide)) rfl T.m_law_at T.f_law_at.kp T.b_law_at .nil pass0 (pa_cons (pv 0) (pa_cons pe_int pa_nil))) pe_int) pe_int (nomark _))
      (pss_one (ps_for PassesOwn.never rfl (pi_enumK K rfl T.n_enumerate (pa_cons (pe_slice (sl_listK K) (pv 0) (po_some pe_int) po_none) pa_nil)) (pg_tupK (n := 2) K rfl (pgs_cons (pg_name (i := 2) sc_law_rings.nd rfl (Or.inl rfl)) (pgs_cons (pg_name (i := 3) sc_law_rings.nd rfl (Or.inl rfl)) pgs_nil)))
      (pss_one (ps_set (i := 1) sc_law_rings.nd rfl (Or.inl rfl) (pe_call (ok_law_mixed T) (hr.mono (by decide)) rfl T.m_law_mixed T.f_law_mixed.kp T.b_law_mixed .nil pass0 (pa_cons (pe_op op_add (pv 1) (pe_op op_mod (pv 3) (pe_op op_pow pe_int pe_int))) (pa_cons (pe_op op_mod (pv 2) pe_int) pa_nil)))))))
      pss_nil)
      (pss_cons (ps_set (i := 4) sc_law_rings.nd rfl (Or.inl rfl) (pe_lst pa_nil))
      (pss_cons (ps_for PassesOwn.never rfl (pi_range1 rfl T.n_range (pa_cons (pe_op op_add pe_int (pe_op op_mod (pv 1) pe_int)) pa_nil)) (pg_name (i := 2) sc_law_rings.nd rfl (Or.inl rfl))
      (pss_cons (ps_set (i := 1) sc_law_rings.nd rfl (Or.inl rfl) (pe_op op_fdiv (pv 1) pe_int))
      (pss_cons (ps_if (pt_cmpR op_eq (pv 1) pe_int (nomark _))
      (pss_one (ps_set (i := 1) sc_law_rings.nd rfl (Or.inl rfl) (pe_call (ok_law_mixed T) (hr.mono (by decide)) rfl T.m_law_mixed T.f_law_mixed.kp T.b_law_mixed .nil pass0 (pa_cons (pe_call (ok_law_at T) (hr.mono (by decide)) rfl T.m_law_at T.f_law_at.kp T.b_law_at .nil pass0 (pa_cons (pv 0) (pa_cons pe_int pa_nil))) (pa_cons (pv 2) pa_nil)))))
      pss_nil)
      (pss_cons (ps_set (i := 5) sc_law_rings.nd rfl (Or.inl rfl) (pe_lst pa_nil))
      (pss_cons (ps_for PassesOwn.never rfl (pi_range1 rfl T.n_range (pa_cons (pe_op op_add pe_int (pe_op op_mod (pv 1) pe_int)) pa_nil)) (pg_name (i := 6) sc_law_rings.nd rfl (Or.inl rfl))
      (pss_cons (ps_set (i := 1) sc_law_rings.nd rfl (Or.inl rfl) (pe_op op_fdiv (pv 1) pe_int))
      (pss_one (ps_expr (pe_bmK K PySem.F.plainAttrs_list PySem.F.slot_list_append PySem.F.type_list_append mt_append (pv 5) (pa_cons (pe_op op_add pe_int (pe_op op_mod (pv 1) pe_int)) pa_nil))))))
      (pss_one (ps_expr (pe_bmK K PySem.F.plainAttrs_list PySem.F.slot_list_append PySem.F.type_list_append mt_append (pv 4) (pa_cons (pv 5) pa_nil)))))))))
      (pss_one (ps_ret (pv 4))))))), ?_⟩
    refine ⟨_, rfl, a, ns, 2, rfl, hA, by decide, fun c2 => ⟨_, _, rfl, rfl, ⟨by decide, by decide, by decide⟩, _, _, rfl, rfl, (by show (0 : Int) < 10 ^ 60; decide), ?_⟩⟩
    refine nm ?_
    dsimp only
    generalize c2 % 10 ^ (60 : Int).toNat = rs0 at *
    refine contS (fun σ H2 => ∃ (rs : Int) (v2 v3 : Option V), σ = [some (.ref a), some (.int rs), v2, v3, none, none, none] ∧ Same H H2) ?_ ?_
    rotate_left
    · intro Kn hK
      refine ⟨_, rfl, a, ns, 1, rfl, hA, by decide, fun c1 => ⟨_, _, rfl, rfl, (by show (0 : Int) < 2; decide), rfl, _, rfl, ?_⟩⟩
      rw [dec_int]
      refine itd2 (fun _ => ?_) (fun _ => hK _ _ ⟨rs0, none, none, rfl, Same.refl _⟩)
      refine ⟨_, rfl, _, rfl, a, _, rfl, hA, fun p1 hp1 => ?_⟩
      rw [cutI_eq]
      have cl : (cutI ns (some 2) none).length ≤ 63 := by
        have := cutV_length (IL ns) (some 2) none
        rw [cutI_eq, il_length, il_length] at this
        omega
      generalize cutI ns (some 2) none = cs at *
      have u1 := same_at (o := .lst (IL cs)) hp1
      refine ⟨p1, rfl, ⟨_, SqL.of upd_same⟩, for_enum (K := K) (a := p1) (xs := IL cs) (fun i σ H2 => ∃ (rs : Int) (v2 v3 : Option V), σ = [some (.ref a), some (.int rs), v2, v3, none, none, none] ∧ Same H H2 ∧ H2 p1 = some (.lst (IL cs))) ⟨rs0, none, none, rfl, u1, upd_same⟩ (fun i σ H2 _ ⟨_, _, _, _, _, e⟩ => SqL.of e) ?_ (fun σ H2 ⟨rs, v2, v3, e, s, _⟩ => hK _ _ ⟨rs, v2, v3, e, s⟩)⟩
      rintro i v σ H2 pt hpt2 hi ⟨rs, v2, v3, rfl, s2, hp2⟩
      obtain ⟨c, rfl, hc⟩ := il_get hi
      have u2 := same_at (o := .tup [.int i, .int c]) hpt2
      refine ⟨pt, _, rfl, SqT.of upd_same, rfl, _, _, rfl, _, _, rfl, rfl, ?_⟩
      refine ⟨_, rfl, _, rfl, _, _, rfl, rfl, ⟨by decide, by decide, by decide⟩, _, _, rfl, rfl, (by show (0 : Int) < 10 ^ 60; decide), _, _, rfl, rfl, _, rfl, _, _, rfl, rfl, (by show (0 : Int) < 37; decide), _, _, rfl, Int.emod_nonneg _ (by decide), Int.lt_trans (Int.emod_lt_of_pos _ (by decide)) (by decide), fun m m0 => ?_⟩
      exact ⟨m, _, _, rfl, s2.trans u2, u2 _ _ hp2⟩
    rintro σ H1 ⟨rs1, v2, v3, rfl, s1⟩
    -- told
    refine ⟨Nat.zero_le _, fun td htd => ?_⟩
    have u2 := same_at (o := .lst []) htd
    have k2 := upd_same (H := H1) (a := td) (o := .lst [])
    have htd0 : H td = none := s1.free htd
    have s2 := s1.trans u2
    generalize upd H1 td (.lst []) = H2 at *
    refine nm ?_
    dsimp only
    have m0 : 0 ≤ rs1 % 6 := Int.emod_nonneg _ (by decide)
    have m1 : rs1 % 6 < 6 := Int.emod_lt_of_pos _ (by decide)
    refine ⟨_, rfl, _, _, rfl, rfl, (by show (0 : Int) < 6; decide), _, _, rfl, rfl, _, rfl, by omega, by omega, ?_⟩
    refine for_range (lo := 0) (n := (1 + rs1 % 6).toNat) (fun i σ H3 => ∃ (rs : Int) (v2 v3 v5 v6 : Option V) (zs : List V) (L : List (List Int)), σ = [some (.ref a), some (.int rs), v2, v3, some (.ref td), v5, v6] ∧ Same H H3 ∧ H3 td = some (.lst zs) ∧ Bears (LiV td H3) zs L ∧ L.length = i ∧ RgL L) ⟨rs1, v2, v3, none, none, [], [], rfl, s2, k2, ⟨rfl, fun i a e => by cases e⟩, rfl, fun l hl => by cases hl⟩ ?_ ?_
    · rintro i σ H3 hi ⟨rs, v2, v3, v5, v6, zs, L, rfl, s3, k3, hB, hLi, hR⟩
      refine nm ?_
      dsimp only
      refine ⟨_, rfl, _, _, rfl, rfl, ⟨by decide, by decide⟩, ?_⟩
      refine nm ?_
      dsimp only
      refine contS (fun σ H4 => ∃ rs' : Int, H4 = H3 ∧ σ = [some (.ref a), some (.int rs'), some (.int (0 + (i : Int))), v3, some (.ref td), v5, v6]) ?_ ?_
      rotate_left
      · intro Kn hK
        refine ⟨_, rfl, rfl, _, rfl, ?_⟩
        rw [dec_int]
        refine itd2 (fun _ => ?_) (fun _ => hK _ _ ⟨_, rfl, rfl⟩)
        exact ⟨_, rfl, a, ns, 2, rfl, s3.seq hA, by decide, fun c3 => ⟨_, rfl, c3, _, rfl, by omega, by omega, fun r3 _ => hK _ _ ⟨r3, rfl, rfl⟩⟩⟩
      rintro σ H4 ⟨rs', rfl, rfl⟩
      -- sides
      refine ⟨Nat.zero_le _, fun sd hsd => ?_⟩
      have u4 := same_at (o := .lst []) hsd
      have k4 := upd_same (H := H4) (a := sd) (o := .lst [])
      have sdt : sd ≠ td := Ne.symm (ne_of_none k3 hsd)
      have hsd0 : H sd = none := s3.free hsd
      have s4 := s3.trans u4
      have kt4 := u4 _ _ k3
      generalize hH5 : upd H4 sd (.lst []) = H5 at *
      refine nm ?_
      dsimp only
      have j0 : 0 ≤ rs' % 5 := Int.emod_nonneg _ (by decide)
      have j1 : rs' % 5 < 5 := Int.emod_lt_of_pos _ (by decide)
      refine ⟨_, rfl, _, _, rfl, rfl, (by show (0 : Int) < 5; decide), _, _, rfl, rfl, _, rfl, by omega, by omega, ?_⟩
      refine for_range (lo := 0) (n := (1 + rs' % 5).toNat) (fun j σ H6 => ∃ (rs2 : Int) (v6 : Option V) (l : List Int), σ = [some (.ref a), some (.int rs2), some (.int (0 + (i : Int))), v3, some (.ref td), some (.ref sd), v6] ∧ (∀ x o, x ≠ sd → H5 x = some o → H6 x = some o) ∧ H6 sd = some (.lst (IL l)) ∧ l.length = j ∧ ∀ z ∈ l, 1 ≤ z ∧ z ≤ 3) ⟨rs', v6, [], rfl, fun _ _ _ e => e, k4, rfl, fun z hz => by cases hz⟩ ?_ ?_
      · rintro j σ H6 hj ⟨rs2, v6', l, rfl, kp, k6, hl, hz⟩
        refine nm ?_
        dsimp only
        refine ⟨_, rfl, _, _, rfl, rfl, ⟨by decide, by decide⟩, ?_⟩
        refine nm ?_
        dsimp only
        generalize rs2 / 5 = rs3 at *
        have t0 : 0 ≤ rs3 % 3 := Int.emod_nonneg _ (by decide)
        have t1 : rs3 % 3 < 3 := Int.emod_lt_of_pos _ (by decide)
        refine ⟨_, rfl, .inl ⟨rfl, _, SqL.of k6⟩, _, rfl, _, _, rfl, rfl, (by show (0 : Int) < 3; decide), _, _, rfl, rfl, sd, _, _, rfl, rfl, k6, small60' (by rw [il_length]; omega), ?_⟩
        refine ⟨rs3, _, l ++ [1 + rs3 % 3], rfl, fun x o hx e => by rw [upd_ne hx]; exact kp x o hx e, ?_, by rw [List.length_append, hl]; rfl, fun z hzz => ?_⟩
        · rw [upd_same, il_snoc]
        · rcases List.mem_append.mp hzz with e | e
          · exact hz z e
          · rw [List.mem_singleton.mp e]; omega
      · rintro σ H6 ⟨rs2, v6', l, rfl, kp, k6, hl, hz⟩
        have kt6 := kp _ _ (Ne.symm sdt) kt4
        have s6 : Same H H6 := fun x o e => kp x o (ne_of_none e hsd0) (s4 x o e)
        have hB6 : Bears (LiV td H6) zs L := hB.imp fun v l ⟨r, e, h1, h2⟩ => ⟨r, e, kp _ _ (ne_of_none h1 hsd) (u4 _ _ h1), h2⟩
        refine ⟨_, rfl, .inl ⟨rfl, _, SqL.of kt6⟩, _, rfl, td, _, _, rfl, rfl, kt6, small60' (by rw [hB.1]; omega), ?_⟩
        refine ⟨rs2, _, _, _, _, zs ++ [.ref sd], L ++ [l], rfl, same_upd htd0 s6, upd_same, ?_, by rw [List.length_append, hLi]; rfl, fun l' hl' => ?_⟩
        · exact (hB6.snoc ⟨sd, rfl, k6, sdt⟩).imp fun v l h => h.mut
        · rcases List.mem_append.mp hl' with e | e
          · exact hR l' e
          · rw [List.mem_singleton.mp e]; exact ⟨by omega, by omega, hz⟩
    · rintro σ H3 ⟨rs, v2, v3, v5, v6, zs, L, rfl, s3, k3, hB, hLi, hR⟩
      exact ⟨_, rfl, q td zs L H3 s3 k3 (hB.imp fun v l h => h.list) (by omega) (by omega) hR⟩
end
end My
namespace My
open PySem L2 PyProof.Rows
set_option maxHeartbeats 4000000
/-- the trees of a ring of bundles -/
def sp_law_ring_count (K : PySem.W.Frag) : Sp := fun vs H Q _ => ∃ (a : Addr) (l : List Int), vs = [.ref a] ∧ SqL K H a (IL l) ∧ 1 ≤ l.length ∧ l.length ≤ 5 ∧ (∀ z ∈ l, 1 ≤ z ∧ z ≤ 3) ∧ ∀ H' : Hp, Same H H' → (rcF (fun i => l.getD i 0) (l.length - 1)).natAbs ≤ 2000 → Q (.int (rcF (fun i => l.getD i 0) (l.length - 1))) H'
theorem pdx_bnd {a : Nat → Int} {k s : Nat} (h : ∀ i, i < s → 1 ≤ a i ∧ a i ≤ 3) : ∀ i, i ≤ s → 0 < pdx a k i ∧ pdx a k i ≤ 3 ^ i
  | 0, _ => ⟨by show (0 : Int) < 1; decide, by show (1 : Int) ≤ 3 ^ 0; decide⟩
  | i + 1, hi => by
    obtain ⟨a1, a2⟩ := pdx_bnd (k := k) h i (by omega)
    have b := h i (by omega)
    show 0 < (if i = k then pdx a k i else pdx a k i * a i) ∧ (if i = k then pdx a k i else pdx a k i * a i) ≤ 3 ^ (i + 1)
    rw [Int.pow_succ]
    split
    · have : (0 : Int) < 3 ^ i := Int.pow_pos (by decide)
      omega
    · refine ⟨Int.mul_pos a1 (by omega), ?_⟩
      exact Int.mul_le_mul a2 b.2 (by omega) (Int.le_of_lt (Int.pow_pos (by decide)))
section
variable {P : Program} {w : World} {K : PySem.W.Frag} {mg : Str → Option Value} {base : Heap} {t : Adr}
theorem sc_law_ring_count : FnScope ["sides", "total", "k", "product", "j", "amount"] ["sides"] (defScope s_law_ring_count) := ⟨rfl, rfl, rfl, by decide +kernel, rfl, by decide +kernel, by decide +kernel⟩
theorem ok_law_ring_count (T : Txt K mg t) : FnOk P w K mg base CX0 1 t.a_law_ring_count t.d_law_ring_count ["sides"] (sp_law_ring_count K) := by
  refine T.f_law_ring_count.ok sc_law_ring_count (fun vs H Q E h => ?_) (fun cdv A outer s H vs Q E hr h => ?_)
  · obtain ⟨a, l, rfl, _⟩ := h
    rfl
  · obtain ⟨a, l, rfl, hA, l1, l5, hz, q⟩ := h
    refine ⟨_, (pss_cons (ps_set (i := 1) sc_law_ring_count.nd rfl (Or.inl rfl) pe_int)
      (pss_cons (ps_for PassesOwn.never rfl (pi_range1 rfl T.n_range (pa_cons (pe_callB (call_lenK K) (by rfl) T.n_len Boot.«len» (pa_cons (pv 0) pa_nil)) pa_nil)) (pg_name (i := 2) sc_law_ring_count.nd rfl (Or.inl rfl))
      (pss_cons (ps_set (i := 3) sc_law_ring_count.nd rfl (Or.inl rfl) pe_int)
      (pss_cons (ps_for PassesOwn.never rfl (pi_enumK K rfl T.n_enumerate (pa_cons (pv 0) pa_nil)) (pg_tupK (n := 2) K rfl (pgs_cons (pg_name (i := 4) sc_law_ring_count.nd rfl (Or.inl rfl)) (pgs_cons (pg_name (i := 5) sc_law_ring_count.nd rfl (Or.inl rfl)) pgs_nil)))
      (pss_one (ps_if (pt_cmpR op_ne (pv 4) (pv 2) (nomark _))
      (pss_one (ps_set (i := 3) sc_law_ring_count.nd rfl (Or.inl rfl) (pe_op op_mulL (pv 3) (pv 5))))
      pss_nil)))
      (pss_one (ps_set (i := 1) sc_law_ring_count.nd rfl (Or.inl rfl) (pe_op op_add (pv 1) (pv 3)))))))
      (pss_one (ps_ret (pv 1))))), ?_⟩
    obtain ⟨f, hf⟩ : ∃ f : Nat → Int, f = fun i => l.getD i 0 := ⟨_, rfl⟩
    have fb : ∀ i, i < l.length → 1 ≤ f i ∧ f i ≤ 3 := fun i hi => by
      rw [hf]
      show 1 ≤ l.getD i 0 ∧ l.getD i 0 ≤ 3
      rw [List.getD_eq_getElem?_getD, List.getElem?_eq_getElem hi]
      exact hz _ (List.getElem_mem hi)
    refine nm ?_
    dsimp only
    refine ⟨_, rfl, a, _, rfl, .inl hA, _, rfl, by rw [il_length]; omega, by rw [il_length]; omega, ?_⟩
    rw [il_length, Int.toNat_natCast]
    refine for_range (lo := 0) (n := l.length) (fun i σ H2 => ∃ (v2 v3 v4 v5 : Option V), σ = [some (.ref a), some (.int (sm i fun k => pdx f k l.length)), v2, v3, v4, v5] ∧ Same H H2) ⟨none, none, none, none, rfl, Same.refl _⟩ ?_ ?_
    · rintro i σ H2 hi ⟨v2, v3, v4, v5, rfl, s2⟩
      rw [Int.zero_add]
      refine nm ?_
      dsimp only
      refine asgC ?_
      refine ⟨_, rfl, a, rfl, ⟨_, s2.seq hA⟩, for_enum (K := K) (a := a) (xs := IL l) (fun j σ H3 => ∃ (v4 v5 : Option V), σ = [some (.ref a), some (.int (sm i fun k => pdx f k l.length)), some (.int (i : Int)), some (.int (pdx f i j)), v4, v5] ∧ Same H H3 ∧ j ≤ l.length) ⟨v4, v5, rfl, s2, Nat.zero_le _⟩ (fun j σ H3 _ ⟨_, _, _, e, _⟩ => e.seq hA) ?_ ?_⟩
      · rintro j v σ H3 pt hpt hj ⟨v4, v5, rfl, s3, hjl⟩
        obtain ⟨c, rfl, hc⟩ := il_get hj
        have hjl' := (List.getElem?_eq_some_iff.mp hc).1
        have u3 := same_at (o := .tup [.int j, .int c]) hpt
        have ec : f j = c := by rw [hf]; exact getD_of hc
        refine ⟨pt, _, rfl, SqT.of upd_same, rfl, _, _, rfl, _, _, rfl, rfl, ?_⟩
        refine ⟨_, rfl, _, rfl, rfl, _, rfl, ?_⟩
        rw [dec_int]
        obtain ⟨b1, b2⟩ := pdx_bnd (k := i) fb j hjl
        have b3 : (3 : Int) ^ j ≤ 3 ^ 5 := by
          have : j = 0 ∨ j = 1 ∨ j = 2 ∨ j = 3 ∨ j = 4 := by omega
          rcases this with e | e | e | e | e <;> subst e <;> decide
        have b4 : (3 : Int) ^ 5 = 243 := by decide
        have small : ∀ z : Int, 0 < z → z ≤ 243 → z.natAbs < 2 ^ 9000 := fun z h0 h1 => Nat.lt_of_lt_of_le (show z.natAbs < 2 ^ 8 by have : (2 : Nat) ^ 8 = 256 := rfl; omega) (Nat.pow_le_pow_right (by decide) (by decide))
        have cb := fb j hjl'
        have p1 : j = i → pdx f i (j + 1) = pdx f i j := fun e => by show (if j = i then _ else _) = _; rw [if_pos e]
        have p2 : j ≠ i → pdx f i (j + 1) = pdx f i j * c := fun e => by show (if j = i then _ else _) = _; rw [if_neg e, ec]
        refine itn2 (fun he => ?_) (fun he => ?_)
        · exact ⟨some (.int j), some (.int c), by rw [p1 (by omega)]; rfl, s3.trans u3, hjl'⟩
        · rw [ec] at cb
          refine ⟨_, rfl, _, rfl, _, _, rfl, rfl, ⟨small _ b1 (by omega), small _ (by omega) (by omega)⟩, ?_⟩
          exact ⟨some (.int j), some (.int c), by rw [p2 (by omega)]; rfl, s3.trans u3, hjl'⟩
      · rintro σ H3 ⟨v4, v5, rfl, s3, _⟩
        rw [il_length]
        refine ⟨_, rfl, _, rfl, _, _, rfl, rfl, ?_⟩
        exact ⟨_, _, _, _, rfl, s3⟩
    · rintro σ H2 ⟨v2, v3, v4, v5, rfl, s2⟩
      refine ⟨_, rfl, ?_⟩
      obtain ⟨s, hs⟩ : ∃ s, l.length = s + 1 := ⟨l.length - 1, by omega⟩
      have bb := sm_bds (s := l.length) (f := fun k => pdx f k l.length) (B := 243) fun k hk => by
        obtain ⟨b1, b2⟩ := pdx_bnd (k := k) fb l.length (Nat.le_refl _)
        have b3 : (3 : Int) ^ l.length ≤ 3 ^ 5 := by
          have : l.length = 1 ∨ l.length = 2 ∨ l.length = 3 ∨ l.length = 4 ∨ l.length = 5 := by omega
          rcases this with e | e | e | e | e <;> rw [e] <;> decide
        have b4 : (3 : Int) ^ 5 = 243 := by decide
        omega
      have b5 : (l.length : Int) * 243 ≤ 5 * 243 := Int.mul_le_mul_of_nonneg_right (by omega) (by decide)
      rw [hs, rc_sum] at bb
      rw [hs, rc_sum]
      rw [hs] at q b5
      rw [hf] at *
      exact q H2 s2 (by show (rcF _ s).natAbs ≤ 2000; omega)
end
end My
namespace My
open PySem L2 PyProof.Rows
set_option maxHeartbeats 4000000
/-- a chain of rings, and how many trees it has -/
def sp_law_made (K : PySem.W.Frag) : Sp := fun vs H Q _ => ∃ (r : Addr) (zs : List V) (L : List (List Int)), vs = [.ref r] ∧ H r = some (.lst zs) ∧ Bears (ListV H) zs L ∧ 1 ≤ L.length ∧ L.length ≤ 6 ∧ RgL L ∧
  ∀ (t l : Addr) (n d : Int) (xs : List V) (ps : List (Int × Int)) (H' : Hp), Same H H' → H' t = some (.tup [.int n, .ref l, .int d]) → H l = none → H' l = some (.lst xs) → PairsV H' xs ps → GoodW n ps → 1 ≤ ps.length → det (n - 1).toNat (lapE (oneE ps)) = d → Q (.ref t) H'
section
variable {P : Program} {w : World} {K : PySem.W.Frag} {mg : Str → Option Value} {base : Heap} {t : Adr}
theorem sc_law_made : FnScope ["rings", "count", "ties", "due", "sides", "places", "k", "amount", "pair"] ["rings"] (defScope s_law_made) := ⟨rfl, rfl, rfl, by decide +kernel, rfl, by decide +kernel, by decide +kernel⟩
theorem ok_law_made (T : Txt K mg t) : FnOk P w K mg base CX0 3 t.a_law_made t.d_law_made ["rings"] (sp_law_made K) := by
  refine T.f_law_made.ok sc_law_made (fun vs H Q E h => ?_) (fun cdv A outer s H vs Q E hr h => ?_)
  · obtain ⟨r, zs, L, rfl, _⟩ := h
    rfl
  · obtain ⟨r, zs, L, rfl, hrz, hB, L1, L6, hR, q⟩ := h
    refine ⟨_, (pss_cons (ps_set (i := 1) sc_law_made.nd rfl (Or.inr rfl) pe_int)
      (pss_cons (ps_set (i := 2) sc_law_made.nd rfl (Or.inl rfl) (pe_lst pa_nil))
      (pss_cons (ps_set (i := 3) sc_law_made.nd rfl (Or.inl rfl) pe_int)
      (pss_cons (ps_for PassesOwn.never rfl (pi_listK K (pv 0)) (pg_name (i := 4) sc_law_made.nd rfl (Or.inl rfl))
      (pss_one (ps_if (PW.pt (pw_and (pt_cmpR op_le (pe_op op_sub (pe_op op_add (pv 1) (pe_callB (call_lenK K) (by rfl) T.n_len Boot.«len» (pa_cons (pv 4) pa_nil))) pe_int) pe_int (nomark _)) (pw_and1 (pt_cmpR op_le (pe_op op_add (pe_callB (call_lenK K) (by rfl) T.n_len Boot.«len» (pa_cons (pv 2) pa_nil)) (pe_callB (call_sumK K rfl) (by rfl) T.n_sum Boot.«sum» (pa_cons (pv 4) pa_nil))) pe_int (nomark _)))))
      (pss_cons (ps_set (i := 5) sc_law_made.nd rfl (Or.inl rfl) (pe_op op_cat (pe_lst (pa_cons (pe_op op_sub (pv 1) pe_int) pa_nil)) (pe_lc rfl (sc0 := defScope s_law_made) (N0 := ["rings", "count", "ties", "due", "sides", "places", "k", "amount", "pair"]) (N' := ["k", "count"]) (o := 1) (fr := [1]) ⟨rfl, by decide +kernel, by decide +kernel, by decide +kernel, rfl, by decide +kernel⟩ (pi_range1 rfl T.n_range (pa_cons (pe_op op_sub (pe_callB (call_lenK K) (by rfl) T.n_len Boot.«len» (pa_cons (pv 4) pa_nil)) pe_int) pa_nil)) (own_name (by decide)) (fun _ _ _ _ => (pg_name (i := 0) (show List.Nodup (["k", "count"] : List Str) by decide +kernel) rfl (Or.inl rfl))) (fun _ _ _ _ => pts_nil) (fun _ _ _ _ => (pe_op op_add (pv 1) (pv 0))))))
      (pss_cons (ps_for PassesOwn.never rfl (pi_enumK K rfl T.n_enumerate (pa_cons (pv 4) pa_nil)) (pg_tupK (n := 2) K rfl (pgs_cons (pg_name (i := 6) sc_law_made.nd rfl (Or.inl rfl)) (pgs_cons (pg_name (i := 7) sc_law_made.nd rfl (Or.inl rfl)) pgs_nil)))
      (pss_cons (ps_set (i := 8) sc_law_made.nd rfl (Or.inr rfl) (pe_tup (pa_cons (pe_ix (ix_listK K) (pv 5) (pv 6) (fun _ _ => rfl)) (pa_cons (pe_ix (ix_listK K) (pv 5) (pe_op op_mod (pe_op op_add (pv 6) pe_int) (pe_callB (call_lenK K) (by rfl) T.n_len Boot.«len» (pa_cons (pv 5) pa_nil))) (fun _ _ => rfl)) pa_nil))))
      (pss_one (ps_expr (pe_bmK K PySem.F.plainAttrs_list PySem.F.slot_list_extend PySem.F.type_list_extend mt_extend (pv 2) (pa_cons (pe_lc rfl (sc0 := defScope s_law_made) (N0 := ["rings", "count", "ties", "due", "sides", "places", "k", "amount", "pair"]) (N' := ["copy", "pair"]) (o := 1) (fr := [8]) ⟨rfl, by decide +kernel, by decide +kernel, by decide +kernel, rfl, by decide +kernel⟩ (pi_range1 rfl T.n_range (pa_cons (pv 7) pa_nil)) (own_name (by decide)) (fun _ _ _ _ => (pg_name (i := 0) (show List.Nodup (["copy", "pair"] : List Str) by decide +kernel) rfl (Or.inl rfl))) (fun _ _ _ _ => pts_nil) (fun _ _ _ _ => (pv 1))) pa_nil))))))
      (pss_cons (ps_if (pt_cmpR op_gt (pe_callB (call_lenK K) (by rfl) T.n_len Boot.«len» (pa_cons (pv 4) pa_nil)) pe_int (nomark _))
      (pss_one (ps_set (i := 3) sc_law_made.nd rfl (Or.inl rfl) (pe_op op_mulL (pv 3) (pe_call (ok_law_ring_count T) (hr.mono (by decide)) rfl T.m_law_ring_count T.f_law_ring_count.kp T.b_law_ring_count .nil pass0 (pa_cons (pv 4) pa_nil)))))
      pss_nil)
      (pss_one (ps_set (i := 1) sc_law_made.nd rfl (Or.inr rfl) (pe_op op_sub (pe_op op_add (pv 1) (pe_callB (call_lenK K) (by rfl) T.n_len Boot.«len» (pa_cons (pv 4) pa_nil))) pe_int))))))
      pss_nil)))
      (pss_one (ps_ret (pe_tup (pa_cons (pv 1) (pa_cons (pv 2) (pa_cons (pv 3) pa_nil)))))))))), ?_⟩
    have one : 1 ≤ sizeLine := by decide
    have two : 2 ≤ sizeLine := by decide
    have zl := hB.1
    refine asgC ?_
    refine ⟨Nat.zero_le _, fun td htd => ?_⟩
    have u1 := same_at (o := .lst []) htd
    have k1 := upd_same (H := H) (a := td) (o := .lst [])
    generalize upd H td (.lst []) = H1 at *
    refine nm ?_
    dsimp only
    refine asgC ?_
    refine ⟨_, rfl, r, rfl, ⟨_, SqL.of (u1 _ _ hrz)⟩, for_list (K := K) (a := r) (xs := zs) (fun i σ H2 => ∃ (n d : Int) (v4 v5 v6 v7 v8 : Option V) (xs : List V) (ps : List (Int × Int)), σ = [some (.ref r), some (.int n), some (.ref td), some (.int d), v4, v5, v6, v7, v8] ∧ Same H H2 ∧ H2 td = some (.lst xs) ∧ PairsV H2 xs ps ∧ GoodW n ps ∧ det (n - 1).toNat (lapE (oneE ps)) = d ∧ (i = 0 → n = 1 ∧ ps = []) ∧ (1 ≤ i → 1 ≤ ps.length)) ⟨1, 1, none, none, none, none, none, [], [], rfl, u1, k1, PairsV.nil, ⟨by decide, by decide, by decide, fun p hp => by cases hp⟩, rfl, fun _ => ⟨rfl, rfl⟩, fun h => by omega⟩ (fun i σ H2 _ ⟨_, _, _, _, _, _, _, _, _, _, e, _⟩ => SqL.of (e _ _ hrz)) ?_ ?_⟩
    · rintro i v σ H2 hi ⟨n, d, v4, v5, v6, v7, v8, xs, ps, rfl, s2, k2, hP2, hG, hdet, h0, h1⟩
      obtain ⟨l, hl, sd, rfl, hsd⟩ := hB.at hi
      obtain ⟨l1, l5, lz⟩ := hR l (List.mem_of_getElem? hl)
      obtain ⟨g1, g2, g3, g4⟩ := id hG
      have hs2 := s2 _ _ hsd
      have xl := hP2.1
      refine nm ?_
      dsimp only
      refine ⟨_, rfl, _, rfl, sd, _, rfl, .inl (SqL.of hs2), _, _, rfl, rfl, _, _, rfl, rfl, _, _, rfl, rfl, _, rfl, ?_⟩
      rw [il_length]
      have lsum : l.sum ≤ 15 := by
        have := bdl_len (d := 0) (m := 0) lz (k := l.length) (Nat.le_refl _)
        rw [List.take_length] at this
        have : ∀ l : List Int, (∀ z ∈ l, 1 ≤ z ∧ z ≤ 3) → l.sum ≤ 3 * (l.length : Int) := fun l => by
          induction l with
          | nil => intro _; exact Int.le_refl _
          | cons x l ih =>
            intro h
            have := ih fun z hz => h z (List.mem_cons_of_mem _ hz)
            have := h x List.mem_cons_self
            rw [List.sum_cons, List.length_cons]
            omega
        have := this l lz
        omega
      refine itd2 (fun c1 => ?_) (fun c1 => ?_)
      rotate_left
      · have hi0 : i ≠ 0 := fun h => by have := h0 h; omega
        exact iteF ⟨n, d, _, _, _, _, _, xs, ps, rfl, s2, k2, hP2, hG, hdet, fun h => absurd h (by omega), fun _ => h1 (by omega)⟩
      refine ⟨_, rfl, td, xs, rfl, .inl (SqL.of k2), _, rfl, sd, _, rfl, SqL.of hs2, _, _, rfl, rfl, _, _, rfl, rfl, _, rfl, ?_⟩
      refine itd2 (fun c2 => ?_) (fun c2 => ?_)
      rotate_left
      · have hi0 : i ≠ 0 := fun h => by
          obtain ⟨e1, e2⟩ := h0 h
          rw [e2] at xl
          have : xs.length = 0 := xl
          omega
        exact ⟨n, d, _, _, _, _, _, xs, ps, rfl, s2, k2, hP2, hG, hdet, fun h => absurd h (by omega), fun _ => h1 (by omega)⟩
      obtain ⟨m, hm⟩ : ∃ m, l.length = m + 1 := ⟨l.length - 1, by omega⟩
      obtain ⟨d0, hd0⟩ : ∃ d0 : Nat, (d0 : Int) = n - 1 := ⟨(n - 1).toNat, by omega⟩
      obtain ⟨f, hf⟩ : ∃ f : Nat → Int, f = fun i => l.getD i 0 := ⟨_, rfl⟩
      -- places
      refine ⟨_, rfl, _, _, rfl, rfl, one, fun p1 hp1 => ?_⟩
      have u3 := same_at (o := .lst (IL [n - 1])) hp1
      have k3 := upd_same (H := H2) (a := p1) (o := .lst (IL [n - 1]))
      have hs3 := u3 _ _ hs2
      have pt1 : p1 ≠ td := Ne.symm (ne_of_none k2 hp1)
      have kt3 := u3 _ _ k2
      have hP3 := hP2.same u3
      have s3 := s2.trans u3
      generalize hH3 : upd H2 p1 (.lst (IL [n - 1])) = H3 at *
      have hH3' : upd H2 p1 (.lst [.int (n - 1)]) = H3 := hH3
      refine ⟨_, rfl, sd, _, rfl, .inl (SqL.of (hH3' ▸ hs3)), _, _, rfl, rfl, _, rfl, by rw [il_length]; omega, by rw [il_length]; omega, ?_⟩
      rw [il_length, show ((l.length : Int) - 1).toNat = m by omega]
      refine lc_range (lo := 0) (n := m) (fun i ws H4 => H4 = H3 ∧ ws = IL ((List.range i).map fun k : Nat => n + (k : Int))) ⟨hH3', rfl⟩ (small60' (by omega)) (fun i ws H4 _ ⟨_, e⟩ => by rw [e, il_length, List.length_map, List.length_range]; exact Nat.le_refl _) ?_ ?_
      · rintro k ws H4 hk ⟨rfl, rfl⟩ SS hSS
        refine nm ?_
        refine ⟨_, rfl, _, rfl, _, _, rfl, rfl, hSS _ _ ⟨rfl, ?_⟩⟩
        rw [List.range_succ, List.map_append, Int.zero_add]
        exact (il_snoc ..).symm
      rintro ws H4 ⟨rfl, rfl⟩ p2 hp2
      have u5 := same_at (o := .lst (IL ((List.range m).map fun k : Nat => n + (k : Int)))) hp2
      refine cat_ok (l1 := [n - 1]) (l2 := (List.range m).map fun k : Nat => n + (k : Int)) (u5 _ _ k3) upd_same (by rw [List.length_map, List.length_range]; show 1 + _ ≤ _; omega) fun pA hpA => ?_
      have ePL : [n - 1] ++ (List.range m).map (fun k : Nat => n + (k : Int)) = (List.range (m + 1)).map fun k : Nat => ((d0 + k : Nat) : Int) := by
        rw [List.range_succ_eq_map, List.map_cons, List.map_map]
        refine List.cons_eq_cons.mpr ⟨by show n - 1 = ((d0 + 0 : Nat) : Int); omega, List.map_congr_left fun k _ => ?_⟩
        show n + (k : Int) = ((d0 + (k + 1) : Nat) : Int)
        omega
      rw [ePL]
      obtain ⟨PL, hPL⟩ : ∃ PL, PL = (List.range (m + 1)).map fun k : Nat => ((d0 + k : Nat) : Int) := ⟨_, rfl⟩
      rw [← hPL]
      have pll : PL.length = m + 1 := by rw [hPL, List.length_map, List.length_range]
      have plat : ∀ k : Nat, k < m + 1 → atI (IL PL) (k : Int) = some (.int ((d0 + k : Nat) : Int)) := fun k hk => atI_of (n := k) rfl (il_at (by rw [hPL, List.getElem?_map, List.getElem?_range hk]; rfl))
      have u6 := u5.trans (same_at (o := .lst (IL PL)) hpA)
      have k6 := upd_same (H := upd H4 p2 (.lst (IL ((List.range m).map fun k : Nat => n + (k : Int))))) (a := pA) (o := .lst (IL PL))
      have s6 := s3.trans u6
      have kt6 := u6 _ _ kt3
      have hP6 := hP3.same u6
      have pAt : pA ≠ td := Ne.symm (ne_of_none (u5 _ _ kt3) hpA)
      generalize upd (upd H4 p2 (.lst (IL ((List.range m).map fun k : Nat => n + (k : Int))))) pA (.lst (IL PL)) = H6 at *
      refine nm ?_
      dsimp only
      have hs6 := s6 _ _ hsd
      have m1 : (0 : Int) < (PL.length : Int) := by omega
      refine contS (fun σ H7 => ∃ (v6 v7 v8 : Option V) (xs : List V), σ = [some (.ref r), some (.int n), some (.ref td), some (.int d), some (.ref sd), some (.ref pA), v6, v7, v8] ∧ Same H H7 ∧ H7 td = some (.lst xs) ∧ PairsV H7 xs (ps ++ bdl d0 m f (m + 1))) ?_ ?_
      rotate_left
      · intro Kn hK
        refine ⟨_, rfl, sd, rfl, ⟨_, SqL.of hs6⟩, for_enum (K := K) (a := sd) (xs := IL l) (fun k σ H7 => ∃ (v6 v7 v8 : Option V) (xs : List V), σ = [some (.ref r), some (.int n), some (.ref td), some (.int d), some (.ref sd), some (.ref pA), v6, v7, v8] ∧ Same H H7 ∧ H7 td = some (.lst xs) ∧ PairsV H7 xs (ps ++ bdl d0 m f k) ∧ H7 pA = some (.lst (IL PL)) ∧ k ≤ l.length) ⟨v6, v7, v8, xs, rfl, s6, kt6, by show PairsV _ _ (ps ++ []); rw [List.append_nil]; exact hP6, k6, Nat.zero_le _⟩ (fun k σ H7 _ ⟨_, _, _, _, _, e, _⟩ => SqL.of (e _ _ hsd)) ?_ (fun σ H7 ⟨a1, a2, a3, a4, a5, a6, a7, a8, _⟩ => hK _ _ ⟨a1, a2, a3, a4, a5, a6, a7, by rw [il_length, hm] at a8; exact a8⟩)⟩
        rintro k v σ H7 pt hpt hk ⟨w6, w7, w8, xs7, rfl, s7, kt7, hP7, kp7, hkl⟩
        obtain ⟨c, rfl, hc⟩ := il_get hk
        have hkl' := (List.getElem?_eq_some_iff.mp hc).1
        have cz := lz c (List.mem_of_getElem? hc)
        have ec : f k = c := by rw [hf]; exact getD_of hc
        have v7 := same_at (o := .tup [.int k, .int c]) hpt
        refine ⟨pt, _, rfl, SqT.of upd_same, rfl, _, _, rfl, _, _, rfl, rfl, ?_⟩
        have kp8 := v7 _ _ kp7
        have kt8 := v7 _ _ kt7
        have hP8 := hP7.same v7
        have s8 := s7.trans v7
        generalize upd H7 pt (.tup [.int k, .int c]) = H8 at *
        have xlen : xs7.length ≤ 100 := by
          have b1 := bdl_len (d := d0) (m := m) lz (k := k) (by omega)
          have b2 : (l.take k).sum ≤ 45 := by
            have : ∀ l : List Int, (∀ z ∈ l, 1 ≤ z ∧ z ≤ 3) → l.sum ≤ 3 * (l.length : Int) := fun l => by
              induction l with
              | nil => intro _; exact Int.le_refl _
              | cons x l ih =>
                intro h
                have := ih fun z hz => h z (List.mem_cons_of_mem _ hz)
                have := h x List.mem_cons_self
                rw [List.sum_cons, List.length_cons]
                omega
            have := this (l.take k) fun z hz => lz z (List.mem_of_mem_take hz)
            rw [List.length_take] at this
            omega
          rw [hP7.1, List.length_append, hf]
          omega
        have hmod := Nat.mod_lt (k + 1) (show 0 < m + 1 by omega)
        have emod : ((k : Int) + 1) % (PL.length : Int) = (((k + 1) % (m + 1) : Nat) : Int) := by rw [pll]; first | exact (Int.natCast_emod _ _).symm | rfl
        refine ⟨_, rfl, _, rfl, pA, _, (k : Int), _, rfl, rfl, SqL.of kp8, plat k (by omega), _, rfl, _, rfl, _, _, rfl, rfl, _, rfl, pA, _, rfl, .inl (SqL.of kp8), _, _, rfl, rfl, by rw [il_length]; exact m1, pA, _, (((k + 1) % (m + 1) : Nat) : Int), _, rfl, by rw [il_length, ← emod], SqL.of kp8, plat _ hmod, two, fun tp htp => ?_⟩
        obtain ⟨pp, hpp⟩ : ∃ pp : Int × Int, pp = (((d0 + k : Nat) : Int), ((d0 + (k + 1) % (m + 1) : Nat) : Int)) := ⟨_, rfl⟩
        have v8 := same_at (o := .tup [.int ((d0 + k : Nat) : Int), .int ((d0 + (k + 1) % (m + 1) : Nat) : Int)]) htp
        have kt9 := v8 _ _ kt8
        have kp9 := v8 _ _ kp8
        have hP9 := hP8.same v8
        have s9 := s8.trans v8
        have hp9 : PairV (upd H8 tp (.tup [.int ((d0 + k : Nat) : Int), .int ((d0 + (k + 1) % (m + 1) : Nat) : Int)])) (.ref tp) pp := ⟨tp, rfl, by rw [hpp]; exact upd_same⟩
        generalize upd H8 tp (.tup [.int ((d0 + k : Nat) : Int), .int ((d0 + (k + 1) % (m + 1) : Nat) : Int)]) = H9 at *
        refine nm ?_
        dsimp only
        refine ⟨_, rfl, .inl ⟨rfl, _, SqL.of kt9⟩, _, rfl, c, rfl, by omega, by omega, lc_range (lo := 0) (n := c.toNat) (fun i ws H10 => H10 = H9 ∧ ws = List.replicate i (.ref tp)) ⟨rfl, rfl⟩ (small60' (by omega)) (fun i ws H10 _ ⟨_, e⟩ => by rw [e, List.length_replicate]; exact Nat.le_refl _) ?_ ?_⟩
        · rintro j ws H10 hj ⟨rfl, rfl⟩ SS hSS
          refine nm ?_
          exact ⟨_, rfl, hSS _ _ ⟨rfl, by rw [List.replicate_succ']⟩⟩
        rintro ws H10 ⟨rfl, rfl⟩ nl hnl
        have w1 := same_at (o := .lst (List.replicate c.toNat (.ref tp))) hnl
        have nt : nl ≠ td := Ne.symm (ne_of_none kt9 hnl)
        refine ⟨td, nl, xs7, _, rfl, rfl, w1 _ _ kt9, upd_same, by rw [List.length_replicate]; exact Nat.le_of_lt (small60' (by omega)), ?_⟩
        refine ⟨_, _, _, _, rfl, same_upd htd (s9.trans w1), upd_same, ?_, by rw [upd_ne pAt]; exact w1 _ _ kp9, hkl'⟩
        have hrep := ((hP9.same w1).app (PairsV.rep (hp9.same w1) c.toNat)).mut (l := td) (zs := xs7 ++ List.replicate c.toNat (.ref tp)) (w1 _ _ kt9)
        rw [List.append_assoc] at hrep
        show PairsV _ _ (ps ++ (bdl d0 m f k ++ List.replicate (f k).toNat (((d0 + k : Nat) : Int), ((d0 + (k + 1) % (m + 1) : Nat) : Int))))
        rw [ec, ← hpp]
        exact hrep
      rintro σ H7 ⟨w6, w7, w8, xs7, rfl, s7, kt7, hP7⟩
      obtain ⟨cc, _, ecc, c20⟩ := det_tc hG
      rw [hdet] at ecc
      have fpos : ∀ i, i ≤ m → 1 ≤ f i := fun i hi => by
        rw [hf]
        show 1 ≤ l.getD i 0
        rw [List.getD_eq_getElem?_getD, List.getElem?_eq_getElem (show i < l.length by omega)]
        exact (lz _ (List.getElem_mem _)).1
      -- due
      refine contS (fun σ H8 => σ = [some (.ref r), some (.int n), some (.ref td), some (.int (d * rcF f m)), some (.ref sd), some (.ref pA), w6, w7, w8] ∧ Same H7 H8) ?_ ?_
      rotate_left
      · intro Kn hK
        refine ⟨_, rfl, sd, _, rfl, .inl (SqL.of (s7 _ _ hsd)), _, _, rfl, rfl, _, rfl, ?_⟩
        rw [il_length]
        refine itd2 (fun cl => ?_) (fun cl => ?_)
        · refine ⟨_, rfl, _, rfl, sd, l, rfl, SqL.of (s7 _ _ hsd), l1, l5, lz, fun H8 s8 rb => ?_⟩
          rw [← hf, show l.length - 1 = m by omega] at rb
          rw [← hf, show l.length - 1 = m by omega]
          have big : ∀ z : Int, z.natAbs ≤ 10 ^ 20 → z.natAbs < 2 ^ 9000 := fun z hz => Nat.lt_of_le_of_lt (Nat.le_trans hz (show 10 ^ 20 ≤ 2 ^ 80 by decide)) (Nat.pow_lt_pow_right (by decide) (by decide))
          exact ⟨_, _, rfl, rfl, ⟨big _ (by omega), big _ (by omega)⟩, hK _ _ ⟨rfl, s8⟩⟩
        · have m00 : m = 0 := by omega
          subst m00
          refine hK _ _ ⟨?_, Same.refl _⟩
          show _ = [_, _, _, some (V.int (d * 1)), _, _, _, _, _]
          rw [Int.mul_one]
      rintro σ H8 ⟨rfl, s8⟩
      refine ⟨_, rfl, _, rfl, sd, _, rfl, .inl (SqL.of (s8 _ _ (s7 _ _ hsd))), _, _, rfl, rfl, _, _, rfl, rfl, ?_⟩
      rw [il_length]
      have blen := bdl_len (d := d0) (m := m) lz (k := m + 1) (by omega)
      rw [← hm, List.take_length] at blen
      rw [hm, ← hf] at blen
      have en : n + (l.length : Int) - 1 = n + (m : Int) := by omega
      rw [en] at c1
      refine nm ?_
      dsimp only
      rw [en]
      have hG' : GoodW (n + (m : Int)) (ps ++ bdl d0 m f (m + 1)) := ⟨by omega, by omega, by rw [List.length_append]; omega, fun p hp => by
        rcases List.mem_append.mp hp with e | e
        · have := g4 p e; omega
        · have := bdl_mem (Nat.le_refl _) p e; omega⟩
      refine ⟨n + (m : Int), d * rcF f m, _, _, _, _, _, xs7, _, rfl, s7.trans s8, s8 _ _ kt7, hP7.same s8, hG', ?_, fun h => absurd h (by omega), fun _ => ?_⟩
      · have := ring_more hG fpos
        rw [show (n - 1).toNat = d0 by omega] at this
        rw [this, ← hdet, show (n - 1).toNat = d0 by omega]
      · rw [List.length_append]
        have : 1 ≤ (bdl d0 m f (m + 1)).length := by
          show 1 ≤ (bdl d0 m f m ++ List.replicate (f m).toNat _).length
          have := fpos m (Nat.le_refl _)
          rw [List.length_append, List.length_replicate]
          omega
        omega
    · rintro σ H2 ⟨n, d, v4, v5, v6, v7, v8, xs, ps, rfl, s2, k2, hP2, hG, hdet, h0, h1⟩
      refine ⟨_, rfl, _, rfl, _, rfl, (by show 3 ≤ sizeLine; decide), fun t ht => ?_⟩
      have u := same_at (o := .tup [.int n, .ref td, .int d]) ht
      exact q t td n d xs ps _ (s2.trans u) upd_same htd (u _ _ k2) (hP2.same u) hG (h1 (by omega)) hdet
end
end My
namespace My
open PySem L2 PyProof.Rows
set_option maxHeartbeats 4000000
/-- the ties in another order, some the other way round -/
def sp_law_stirred (K : PySem.W.Frag) : Sp := fun vs H Q _ => ∃ (l a : Addr) (xs : List V) (ps : List (Int × Int)) (ns : List Int) (n : Int), vs = [.ref l, .ref a] ∧ H l = some (.lst xs) ∧ PairsV H xs ps ∧ ps.length ≤ 30 ∧ (∀ p ∈ ps, 0 ≤ p.1 ∧ p.1 < n ∧ 0 ≤ p.2 ∧ p.2 < n) ∧ SqL K H a (IL ns) ∧ ns.length ≤ 63 ∧
  ∀ (r : Addr) (ys : List V) (qs : List (Int × Int)) (H' : Hp), Same H H' → H r = none → H' r = some (.lst ys) → PairsV H' ys qs → qs.length = ps.length → (∀ p ∈ qs, 0 ≤ p.1 ∧ p.1 < n ∧ 0 ≤ p.2 ∧ p.2 < n) → (∀ i j, lapE (oneE qs) i j = lapE (oneE ps) i j) → Q (.ref r) H'
theorem ind_turn (u v i j : Nat) : ind v u i * ind v u j = ind u v i * ind u v j := by rw [ind_swap u v i, ind_swap u v j, Int.neg_mul_neg]
section
variable {P : Program} {w : World} {K : PySem.W.Frag} {mg : Str → Option Value} {base : Heap} {t : Adr}
theorem sc_law_stirred : FnScope ["ties", "script", "rows", "told", "m", "pair"] ["ties", "script"] (defScope s_law_stirred) := ⟨rfl, rfl, rfl, by decide +kernel, rfl, by decide +kernel, by decide +kernel⟩
theorem ok_law_stirred (T : Txt K mg t) : FnOk P w K mg base CX0 2 t.a_law_stirred t.d_law_stirred ["ties", "script"] (sp_law_stirred K) := by
  refine T.f_law_stirred.ok sc_law_stirred (fun vs H Q E h => ?_) (fun cdv A outer s H vs Q E hr h => ?_)
  · obtain ⟨l, a, xs, ps, ns, n, rfl, _⟩ := h
    rfl
  · obtain ⟨l, a, xs, ps, ns, n, rfl, hl, hP, hp30, hp, hA, hn63, q⟩ := h
    refine ⟨_, (pss_cons (ps_set (i := 2) sc_law_stirred.nd rfl (Or.inl rfl) (pe_callTy (call_listK K) (by rfl) T.n_list Boot.«list» (pa_cons (pv 0) pa_nil)))
      (pss_cons (ps_set (i := 3) sc_law_stirred.nd rfl (Or.inl rfl) (pe_lst pa_nil))
      (pss_cons (ps_set (i := 4) sc_law_stirred.nd rfl (Or.inl rfl) (pe_call (ok_law_mixed T) (hr.mono (by decide)) rfl T.m_law_mixed T.f_law_mixed.kp T.b_law_mixed .nil pass0 (pa_cons (pe_op op_add (pe_op op_mod (pe_call (ok_law_at T) (hr.mono (by decide)) rfl T.m_law_at T.f_law_at.kp T.b_law_at .nil pass0 (pa_cons (pv 1) (pa_cons pe_int pa_nil))) (pe_op op_pow pe_int pe_int)) (pe_callB (call_lenK K) (by rfl) T.n_len Boot.«len» (pa_cons (pv 1) pa_nil))) (pa_cons pe_int pa_nil))))
      (pss_cons (ps_while PassesOwn.never (pt_cmpR op_gt (pe_callB (call_lenK K) (by rfl) T.n_len Boot.«len» (pa_cons (pv 2) pa_nil)) pe_int (nomark _))
      (pss_cons (ps_set (i := 4) sc_law_stirred.nd rfl (Or.inl rfl) (pe_call (ok_law_mixed T) (hr.mono (by decide)) rfl T.m_law_mixed T.f_law_mixed.kp T.b_law_mixed .nil pass0 (pa_cons (pv 4) (pa_cons pe_int pa_nil))))
      (pss_cons (ps_set (i := 5) sc_law_stirred.nd rfl (Or.inl rfl) (pe_bmK K PySem.F.plainAttrs_list PySem.F.slot_list_pop PySem.F.type_list_pop mt_popAt (pv 2) (pa_cons (pe_op op_mod (pe_op op_fdiv (pv 4) pe_int) (pe_callB (call_lenK K) (by rfl) T.n_len Boot.«len» (pa_cons (pv 2) pa_nil))) pa_nil)))
      (pss_one (ps_expr (pe_bmK K PySem.F.plainAttrs_list PySem.F.slot_list_append PySem.F.type_list_append mt_append (pv 3) (pa_cons (pe_ix (ix_listK K) (pe_lst (pa_cons (pv 5) (pa_cons (pe_tup (pa_cons (pe_ix (ix_tupK K) (pv 5) pe_int (fun _ _ => rfl)) (pa_cons (pe_ix (ix_tupK K) (pv 5) pe_int (fun _ _ => rfl)) pa_nil))) pa_nil))) (pe_op op_mod (pe_op op_fdiv (pv 4) pe_int) pe_int) (fun _ _ => rfl)) pa_nil)))))))
      (pss_one (ps_ret (pv 3))))))), ?_⟩
    have two : 2 ≤ sizeLine := by decide
    -- rows
    refine ⟨_, rfl, l, xs, rfl, .inl (SqL.of hl), fun rA hrA => ?_⟩
    have u1 := same_at (o := .lst xs) hrA
    have k1 := upd_same (H := H) (a := rA) (o := .lst xs)
    have hP1 := hP.same u1
    generalize upd H rA (.lst xs) = H1 at *
    refine nm ?_
    dsimp only
    refine ⟨Nat.zero_le _, fun td htd => ?_⟩
    have u2 := same_at (o := .lst []) htd
    have k2 := upd_same (H := H1) (a := td) (o := .lst [])
    have rt : rA ≠ td := ne_of_none k1 htd
    have kr2 := u2 _ _ k1
    have hP2 := hP1.same u2
    have htd0 : H td = none := u1.free htd
    have s2 := u1.trans u2
    generalize upd H1 td (.lst []) = H2 at *
    refine nm ?_
    dsimp only
    -- m
    refine ⟨_, rfl, a, ns, 3, rfl, s2.seq hA, by decide, fun c3 => ⟨_, _, rfl, rfl, ⟨by decide, by decide, by decide⟩, _, _, rfl, rfl, (by show (0 : Int) < 10 ^ 60; decide), _, rfl, a, _, rfl, .inl (s2.seq hA), _, _, rfl, rfl, _, _, rfl, by decide, by decide, fun m0 m00 => ?_⟩⟩
    refine nm ?_
    dsimp only
    have IN : ∀ p : Int × Int, (0 ≤ p.1 ∧ p.1 < n ∧ 0 ≤ p.2 ∧ p.2 < n) → (0 ≤ p.2 ∧ p.2 < n ∧ 0 ≤ p.1 ∧ p.1 < n) := fun p h => ⟨h.2.2.1, h.2.2.2, h.1, h.2.1⟩
    refine ⟨fun m σ H3 => ∃ (xs ys : List V) (rs ts : List (Int × Int)) (mm : Int) (v5 : Option V), σ = [some (.ref l), some (.ref a), some (.ref rA), some (.ref td), some (.int mm), v5] ∧ Same H H3 ∧ H3 rA = some (.lst xs) ∧ PairsV H3 xs rs ∧ H3 td = some (.lst ys) ∧ PairsV H3 ys ts ∧ rs.length = m ∧ ts.length + m = ps.length ∧ (∀ p ∈ rs, 0 ≤ p.1 ∧ p.1 < n ∧ 0 ≤ p.2 ∧ p.2 < n) ∧ (∀ p ∈ ts, 0 ≤ p.1 ∧ p.1 < n ∧ 0 ≤ p.2 ∧ p.2 < n) ∧ ∀ i j, lapE (oneE ts) i j + lapE (oneE rs) i j = lapE (oneE ps) i j,
      ⟨ps.length, xs, [], ps, [], m0, none, rfl, s2, kr2, hP2, k2, PairsV.nil, rfl, by show 0 + _ = _; omega, hp, fun p h => (by cases h), fun i j => by show 0 + _ = _; rw [Int.zero_add]⟩, ?_⟩
    rintro m σ H3 ⟨xs, ys, rs, ts, mm, v5, rfl, s3, kr3, hP3, kt3, hT3, hrm, htm, hrg, htg, hlap⟩
    have xl := hP3.1
    refine ⟨_, rfl, rA, xs, rfl, .inl (SqL.of kr3), _, _, rfl, rfl, _, rfl, ?_⟩
    refine itd2 (fun hpos => ?_) (fun hpos => ?_)
    · refine ⟨_, fun σ' H' h => h, ?_⟩
      refine ⟨_, rfl, mm, 46, rfl, by decide, by decide, fun m2 m20 => ?_⟩
      refine nm ?_
      dsimp only
      have l0 : (0 : Int) < (xs.length : Int) := by omega
      have a0 := Int.emod_nonneg (m2 / 8) (show (xs.length : Int) ≠ 0 by omega)
      have a1 := Int.emod_lt_of_pos (m2 / 8) l0
      obtain ⟨at_, hat⟩ : ∃ at_, m2 / 8 % (xs.length : Int) = at_ := ⟨_, rfl⟩
      rw [hat] at a0 a1
      obtain ⟨g, hg⟩ : ∃ g, rs[at_.toNat]? = some g := ⟨_, List.getElem?_eq_getElem (by omega)⟩
      obtain ⟨y1, hy1, tt, rfl, htt⟩ := hP3.2 _ _ hg
      have gi := hrg g (List.mem_of_getElem? hg)
      have ttA : tt ≠ rA := ne_of htt kr3 (fun z => nomatch z)
      refine ⟨_, rfl, .inl ⟨rfl, _, SqL.of kr3⟩, _, rfl, _, _, rfl, rfl, ⟨by decide, by decide⟩, _, rfl, rA, xs, rfl, .inl (SqL.of kr3), _, _, rfl, rfl, l0, ?_⟩
      refine ⟨rA, xs, at_, at_.toNat, .ref tt, rfl, by rw [← hat], kr3, by omega, by omega, seq_ix a0 (by omega), hy1, ?_⟩
      have hP4 : PairsV (upd H3 rA (.lst (xs.eraseIdx at_.toNat))) (xs.eraseIdx at_.toNat) (rs.eraseIdx at_.toNat) := (show Bears (PairV _) _ _ from hP3.mut (l := rA) (zs := xs.eraseIdx at_.toNat) kr3).erase at_.toNat
      have hT4 := hT3.mut (l := rA) (zs := xs.eraseIdx at_.toNat) kr3
      have kr4 := upd_same (H := H3) (a := rA) (o := .lst (xs.eraseIdx at_.toNat))
      have kt4 : (upd H3 rA (.lst (xs.eraseIdx at_.toNat))) td = some (.lst ys) := by rw [upd_ne (Ne.symm rt)]; exact kt3
      have ht4 : (upd H3 rA (.lst (xs.eraseIdx at_.toNat))) tt = some (.tup [.int g.1, .int g.2]) := by rw [upd_ne ttA]; exact htt
      have s4 : Same H (upd H3 rA (.lst (xs.eraseIdx at_.toNat))) := same_upd hrA s3
      generalize upd H3 rA (.lst (xs.eraseIdx at_.toNat)) = H4 at *
      refine nm ?_
      dsimp only
      have i0 : ∀ a b : Int, atI ([.int a, .int b] : List V) 0 = some (.int a) := fun _ _ => rfl
      have i1 : ∀ a b : Int, atI ([.int a, .int b] : List V) 1 = some (.int b) := fun _ _ => rfl
      refine ⟨_, rfl, .inl ⟨rfl, _, SqL.of kt4⟩, _, rfl, _, rfl, tt, _, 1, _, rfl, rfl, SqT.of ht4, i1 _ _, _, rfl, tt, _, 0, _, rfl, rfl, SqT.of ht4, i0 _ _, two, fun tp htp => ⟨two, fun lp hlp => ?_⟩⟩
      have u5 := same_at (o := .tup [.int g.2, .int g.1]) htp
      have u6 := same_at (o := .lst [.ref tt, .ref tp]) hlp
      have u56 := u5.trans u6
      have kl6 := upd_same (H := upd H4 tp (.tup [.int g.2, .int g.1])) (a := lp) (o := .lst [.ref tt, .ref tp])
      have ht6 := u56 _ _ ht4
      have hp6 := u6 _ _ (upd_same (H := H4) (a := tp) (o := .tup [.int g.2, .int g.1]))
      have s6 := s4.trans u56
      have kt6 := u56 _ _ kt4
      have kr6 := u56 _ _ kr4
      have hP6 := hP4.same u56
      have hT6 := hT4.same u56
      generalize upd (upd H4 tp (.tup [.int g.2, .int g.1])) lp (.lst [.ref tt, .ref tp]) = H6 at *
      have b0 := Int.emod_nonneg (m2 / 1000) (show (2 : Int) ≠ 0 by decide)
      have b1 := Int.emod_lt_of_pos (m2 / 1000) (show (0 : Int) < 2 by decide)
      have elen : (rs.eraseIdx at_.toNat).length + 1 = rs.length := by
        rw [List.length_eraseIdx, if_pos (List.getElem?_eq_some_iff.mp hg).1]
        have := (List.getElem?_eq_some_iff.mp hg).1
        omega
      have fin : ∀ (v : Addr) (g' : Int × Int), H6 v = some (.tup [.int g'.1, .int g'.2]) → (0 ≤ g'.1 ∧ g'.1 < n ∧ 0 ≤ g'.2 ∧ g'.2 < n) → (∀ i j, ind g'.1.toNat g'.2.toNat i * ind g'.1.toNat g'.2.toNat j = ind g.1.toNat g.2.toNat i * ind g.1.toNat g.2.toNat j) →
          ∃ (xs' ys' : List V) (rs' ts' : List (Int × Int)) (mm : Int) (v5 : Option V), [some (V.ref l), some (.ref a), some (.ref rA), some (.ref td), some (.int m2), some (.ref tt)] = [some (V.ref l), some (.ref a), some (.ref rA), some (.ref td), some (.int mm), v5] ∧ Same H (upd H6 td (.lst (ys ++ [.ref v]))) ∧ (upd H6 td (.lst (ys ++ [.ref v]))) rA = some (.lst xs') ∧ PairsV (upd H6 td (.lst (ys ++ [.ref v]))) xs' rs' ∧ (upd H6 td (.lst (ys ++ [.ref v]))) td = some (.lst ys') ∧ PairsV (upd H6 td (.lst (ys ++ [.ref v]))) ys' ts' ∧ rs'.length = m - 1 ∧ ts'.length + (m - 1) = ps.length ∧ (∀ p ∈ rs', 0 ≤ p.1 ∧ p.1 < n ∧ 0 ≤ p.2 ∧ p.2 < n) ∧ (∀ p ∈ ts', 0 ≤ p.1 ∧ p.1 < n ∧ 0 ≤ p.2 ∧ p.2 < n) ∧ ∀ i j, lapE (oneE ts') i j + lapE (oneE rs') i j = lapE (oneE ps) i j := fun v g' hv hg' hind =>
        ⟨xs.eraseIdx at_.toNat, ys ++ [.ref v], rs.eraseIdx at_.toNat, ts ++ [g'], m2, some (.ref tt), rfl, same_upd htd0 s6, by rw [upd_ne rt]; exact kr6, hP6.mut (l := td) (zs := ys ++ [.ref v]) kt6, upd_same, (hT6.snoc ⟨v, rfl, hv⟩).mut (l := td) (zs := ys ++ [.ref v]) kt6, by omega, by rw [List.length_append, List.length_singleton]; omega, fun p hp => hrg p (List.mem_of_mem_eraseIdx hp), fun p hp => by
          rcases List.mem_append.mp hp with e | e
          · exact htg p e
          · rw [List.mem_singleton.mp e]; exact hg', fun i j => by
          rw [lp_snoc, hind i j, ← hlap i j, lp_erase i j hg]
          omega⟩
      have yl := hT6.1
      refine ⟨_, rfl, _, _, rfl, rfl, ⟨by decide, by decide⟩, _, _, rfl, rfl, (by show (0 : Int) < 2; decide), ?_⟩
      rcases (show m2 / 1000 % 2 = 0 ∨ m2 / 1000 % 2 = 1 by omega) with c | c
      · refine ⟨lp, _, 0, .ref tt, rfl, by rw [← c], SqL.of kl6, rfl, td, ys, _, rfl, rfl, kt6, small60' (by omega), m - 1, by omega, ?_⟩
        exact fin tt g ht6 gi fun _ _ => rfl
      · refine ⟨lp, _, 1, .ref tp, rfl, by rw [← c], SqL.of kl6, rfl, td, ys, _, rfl, rfl, kt6, small60' (by omega), m - 1, by omega, ?_⟩
        exact fin tp (g.2, g.1) hp6 (IN g gi) fun i j => ind_turn _ _ _ _
    · have m00 : m = 0 := by omega
      subst m00
      have r0 : rs = [] := List.length_eq_zero_iff.mp hrm
      subst r0
      refine ⟨_, rfl, q td ys ts H3 s3 htd0 kt3 hT3 (by omega) htg fun i j => ?_⟩
      rw [← hlap i j]
      show _ = _ + 0
      rw [Int.add_zero]
end
end My
namespace My
open PySem L2 PyProof.Rows
set_option maxHeartbeats 4000000
def sp_law (K : PySem.W.Frag) : Sp := fun vs H Q _ => ∃ (a : Addr) (ns : List Int), vs = [.ref a] ∧ SqL K H a (IL ns) ∧ ns.length ≤ 63 ∧ ∀ H', Q (.bl true) H'
section
variable {P : Program} {w : World} {K : PySem.W.Frag} {mg : Str → Option Value} {base : Heap} {t : Adr}
theorem sc_law : FnScope ["script", "count", "ties", "due", "web", "found", "tie"] ["script"] (defScope s_law) := ⟨rfl, rfl, rfl, by decide +kernel, rfl, by decide +kernel, by decide +kernel⟩
theorem ok_law (T : Txt K mg t) : FnOk P w K mg base CX0 6 t.a_law t.d_law ["script"] (sp_law K) := by
  refine T.f_law.ok sc_law (fun vs H Q E h => ?_) (fun cdv A outer s H vs Q E hr h => ?_)
  · obtain ⟨a, ns, rfl, _⟩ := h
    rfl
  · obtain ⟨a, ns, rfl, hS, hn63, k⟩ := h
    refine ⟨_, (pss_cons (ps_asg (pe_call (ok_law_made T) (hr.mono (by decide)) rfl T.m_law_made T.f_law_made.kp T.b_law_made .nil pass0 (pa_cons (pe_call (ok_law_rings T) (hr.mono (by decide)) rfl T.m_law_rings T.f_law_rings.kp T.b_law_rings .nil pass0 (pa_cons (pv 0) pa_nil)) pa_nil)) (pg_tupK (n := 3) K rfl (pgs_cons (pg_name (i := 1) sc_law.nd rfl (Or.inl rfl)) (pgs_cons (pg_name (i := 2) sc_law.nd rfl (Or.inl rfl)) (pgs_cons (pg_name (i := 3) sc_law.nd rfl (Or.inl rfl)) pgs_nil)))))
      (pss_cons (ps_set (i := 2) sc_law.nd rfl (Or.inl rfl) (pe_call (ok_law_stirred T) (hr.mono (by decide)) rfl T.m_law_stirred T.f_law_stirred.kp T.b_law_stirred .nil pass0 (pa_cons (pv 2) (pa_cons (pv 0) pa_nil))))
      (pss_cons (ps_set (i := 4) sc_law.nd rfl (Or.inl rfl) (pe_make T.k_Web (ok_Web___init T) (hr.mono (by decide)) rfl T.c_Web T.b_Web___init .nil pass0 (pa_cons (pv 1) (pa_cons (pv 2) pa_nil))))
      (pss_cons (ps_set (i := 5) sc_law.nd rfl (Or.inl rfl) (pe_call (ok_tree_count T) (hr.mono (by decide)) rfl T.m_tree_count T.f_tree_count.kp T.b_tree_count .nil pass0 (pa_cons (pv 4) pa_nil)))
      (pss_cons (ps_if (PW.pt (pw_or (pt_not (pt_val (pe_call (ok_law_whole T) (hr.mono (by decide)) rfl T.m_law_whole T.f_law_whole.kp T.b_law_whole .nil pass0 (pa_cons (pv 5) pa_nil)))) (pw_or (pt_cmpR op_ne (pv 5) (pv 3) (nomark _)) (pw_or1 (pt_cmpR op_ne (pe_call (ok_count_with T) (hr.mono (by decide)) rfl T.m_count_with T.f_count_with.kp T.b_count_with .nil passN (pa_cons (pv 4) (pa_cons (pe_tup pa_nil) (pa_cons (pe_tup pa_nil) pa_nil)))) (pv 3) (nomark _))))))
      (pss_one (ps_ret pe_bl))
      pss_nil)
      (pss_cons (ps_set (i := 6) sc_law.nd rfl (Or.inl rfl) (pe_op op_mod (pe_call (ok_law_at T) (hr.mono (by decide)) rfl T.m_law_at T.f_law_at.kp T.b_law_at .nil pass0 (pa_cons (pv 0) (pa_cons pe_int pa_nil))) (pe_callB (call_lenK K) (by rfl) T.n_len Boot.«len» (pa_cons (pv 2) pa_nil))))
      (pss_cons (ps_if (pt_cmpR op_ne (pe_op op_add (pe_call (ok_count_with T) (hr.mono (by decide)) rfl T.m_count_with T.f_count_with.kp T.b_count_with .nil passN (pa_cons (pv 4) (pa_cons (pe_tup (pa_cons (pv 6) pa_nil)) (pa_cons (pe_tup pa_nil) pa_nil)))) (pe_call (ok_count_with T) (hr.mono (by decide)) rfl T.m_count_with T.f_count_with.kp T.b_count_with .nil passN (pa_cons (pv 4) (pa_cons (pe_tup pa_nil) (pa_cons (pe_tup (pa_cons (pv 6) pa_nil)) pa_nil))))) (pv 3) (nomark _))
      (pss_one (ps_ret pe_bl))
      pss_nil)
      (pss_one (ps_ret (pe_or (pe_cmpR op_eq (pv 1) pe_int (nomark _)) (pe_one (pe_cmpR op_eq (pe_call (ok_tree_count T) (hr.mono (by decide)) rfl T.m_tree_count T.f_tree_count.kp T.b_tree_count .nil pass0 (pa_cons (pe_make T.k_Web (ok_Web___init T) (hr.mono (by decide)) rfl T.c_Web T.b_Web___init .nil pass0 (pa_cons (pe_op op_add (pv 1) pe_int) (pa_cons (pv 2) pa_nil))) pa_nil)) pe_int (nomark _))))))))))))), ?_⟩
    have one : 1 ≤ sizeLine := by decide
    refine ⟨_, rfl, a, ns, rfl, hS, hn63, fun r zs L H1 s1 hr1 hB L1 L6 hR => ?_⟩
    refine ⟨r, zs, L, rfl, hr1, hB, L1, L6, hR, fun t1 l n d xs ps H2 s2 ht1 hl0 hl2 hP hG hp1 hdet => ?_⟩
    refine ⟨t1, _, rfl, SqT.of ht1, rfl, _, _, rfl, _, _, rfl, _, _, rfl, rfl, ?_⟩
    have s02 := s1.trans s2
    obtain ⟨g1, g2, g3, g4⟩ := id hG
    dsimp only
    -- stirred
    refine ⟨_, rfl, _, rfl, l, a, xs, ps, ns, n, rfl, hl2, hP, g3, g4, s02.seq hS, hn63, fun q1 ys qs H3 s3 hq0 hq3 hQ qlen qg qlap => ?_⟩
    refine nm ?_
    dsimp only
    have s03 := s02.trans s3
    have hG3 : GoodW n qs := ⟨g1, g2, by omega, qg⟩
    have hdq : det (n - 1).toNat (lapE (oneE qs)) = d := by rw [← hdet]; exact det_congr fun i j _ _ => qlap i j
    have hyl := hQ.1
    -- web
    refine ⟨_, rfl, _, rfl, fun x dx nx ndx nex => ?_⟩
    have v1 : Same H3 (upd (upd H3 dx (.own x)) x (.ins t.A_Web dx [])) := same_new (same_at ndx) (by rw [upd_ne (Ne.symm nex)]; exact nx)
    refine ⟨x, dx, n, q1, false, ys, qs, rfl, upd_same, fun o => ?_, hQ.same v1, hG3, fun H4 hW k3 => ⟨rfl, ?_⟩⟩
    · exact SqL.of (by rw [upd_ne (ne_of_none hq3 nx), upd_ne (ne_of_none hq3 nx), upd_ne (ne_of_none hq3 ndx)]; exact hq3)
    have s4 : Same H3 H4 := fun b o e => k3 b o (v1 b o e) (ne_of_none e nx)
    have hq4 := s4 _ _ hq3
    have hQ4 := hQ.same s4
    have s04 := s03.trans s4
    refine nm ?_
    dsimp only
    -- found
    refine ⟨_, rfl, x, n, qs, rfl, hW, hG3, fun c H5 hc s5 => ?_⟩
    have ecd : (c : Int) = d := by rw [← hdq]; exact det_count hG3 hc
    refine nm ?_
    dsimp only
    have empt : IsSet qs.length [] := isSet_iff.mpr ⟨fun z h => (by cases h), .nil⟩
    refine ⟨_, rfl, _, rfl, _, rfl, ?_⟩
    refine iteF ?_
    refine ⟨_, rfl, _, rfl, rfl, _, rfl, ?_⟩
    rw [dec_int]
    refine itn ecd ?_
    refine ⟨_, rfl, Nat.zero_le _, fun e1 he1 => ⟨Nat.zero_le _, fun e2 he2 => ?_⟩⟩
    have u1 := same_at (o := .tup []) he1
    have u2 := same_at (o := .tup []) he2
    have u12 := u1.trans u2
    refine ⟨x, e1, e2, n, qs, [], [], rfl, hW.same (s5.trans u12), hG3, SqT.of (u2 _ _ upd_same), SqT.of upd_same, fun _ _ c2 H6 hc2 s6 => ?_, fun hno => absurd ⟨empt, empt⟩ hno⟩
    have ec2 : (c2 : Int) = d := by rw [← hdq]; exact det_count hG3 (pc_tc.mp hc2)
    refine ⟨_, rfl, rfl, _, rfl, ?_⟩
    rw [dec_int]
    refine itn ec2 ?_
    have s46 := s5.trans (u12.trans s6)
    show (_ : Prop)
    -- tie
    have lp : (0 : Int) < (ys.length : Int) := by omega
    refine ⟨_, rfl, a, ns, 4, rfl, (s04.trans s46).seq hS, by decide, fun c4 => ⟨_, rfl, q1, ys, rfl, .inl (SqL.of (s46 _ _ hq4)), _, _, rfl, rfl, lp, ?_⟩⟩
    have m0 := Int.emod_nonneg c4 (show (ys.length : Int) ≠ 0 by omega)
    have m1 := Int.emod_lt_of_pos c4 lp
    refine nm ?_
    dsimp only
    generalize c4 % (ys.length : Int) = z at *
    have zset : IsSet qs.length [z] := isSet_iff.mpr ⟨fun w hw => by rw [List.mem_singleton.mp hw]; omega, List.pairwise_singleton _ _⟩
    refine ⟨_, rfl, _, rfl, one, fun e3 he3 => ⟨Nat.zero_le _, fun e4 he4 => ?_⟩⟩
    have u3 := same_at (o := .tup [.int z]) he3
    have u4 := same_at (o := .tup []) he4
    have u34 := u3.trans u4
    refine ⟨x, e3, e4, n, qs, [z], [], rfl, hW.same (s46.trans u34), hG3, SqT.of (u4 _ _ upd_same), SqT.of upd_same, fun _ _ c5 H7 hc5 s7 => ?_, fun hno => absurd ⟨zset, empt⟩ hno⟩
    have s47 := s46.trans (u34.trans s7)
    refine ⟨_, rfl, Nat.zero_le _, fun e5 he5 => ⟨_, rfl, one, fun e6 he6 => ?_⟩⟩
    have u5 := same_at (o := .tup []) he5
    have u6 := same_at (o := .tup [.int z]) he6
    have u56 := u5.trans u6
    refine ⟨x, e5, e6, n, qs, [], [z], rfl, hW.same (s47.trans u56), hG3, SqT.of (u6 _ _ upd_same), SqT.of upd_same, fun _ _ c6 H8 hc6 s8 => ?_, fun hno => absurd ⟨empt, zset⟩ hno⟩
    have s48 := s47.trans (u56.trans s8)
    have e56 : (c5 : Int) + (c6 : Int) = d := by
      have h := det_count hG3 (pc_tc.mp (pc_split hc5 hc6))
      rw [hdq] at h
      omega
    refine ⟨_, _, rfl, rfl, _, rfl, rfl, _, rfl, ?_⟩
    rw [dec_int]
    refine itn e56 ?_
    show (_ : Prop)
    -- a place more
    refine ⟨_, rfl, rfl, ?_⟩
    rw [dec_int]
    refine ⟨_, rfl, ?_⟩
    by_cases c14 : n = 14
    · rw [decide_eq_true c14, if_pos rfl]
      exact k _
    rw [decide_eq_false c14, if_neg (by decide)]
    have hq8 := s48 _ _ hq4
    have hQ8 := hQ4.same s48
    have hG8 : GoodW (n + 1) qs := ⟨by omega, by omega, by omega, fun p hp => by have := qg p hp; omega⟩
    refine ⟨_, rfl, _, _, rfl, rfl, _, rfl, fun x2 dx2 nx2 ndx2 nex2 => ?_⟩
    have v2 : Same H8 (upd (upd H8 dx2 (.own x2)) x2 (.ins t.A_Web dx2 [])) := same_new (same_at ndx2) (by rw [upd_ne (Ne.symm nex2)]; exact nx2)
    refine ⟨x2, dx2, n + 1, q1, false, ys, qs, rfl, upd_same, fun o => ?_, hQ8.same v2, hG8, fun H9 hW9 k9 => ⟨rfl, ?_⟩⟩
    · exact SqL.of (by rw [upd_ne (ne_of_none hq8 nx2), upd_ne (ne_of_none hq8 nx2), upd_ne (ne_of_none hq8 ndx2)]; exact hq8)
    refine ⟨x2, n + 1, qs, rfl, hW9, hG8, fun c9 H10 hc9 s10 => ?_⟩
    have e0 : (c9 : Int) = 0 := by
      rw [det_count hG8 hc9, show (n + 1 - 1).toNat = (n - 1).toNat + 1 by omega]
      exact lap_zero (by omega) (eds_in hG3 _)
    refine ⟨rfl, ?_⟩
    rw [dec_int, decide_eq_true e0]
    exact k _
end
end My
namespace My
open PySem L2
theorem law_binds {K : PySem.W.Frag} {f : Addr} {fd : FuncData} (F : Fun K "law" "law" s_law f fd) (s : Shared) (u : Value) : BindsTo s fd ⟨[u], []⟩ [("script", u)] := by
  obtain ⟨oc, od, kV, doc, pm, an, cdv, ct, osl, rfl, lk, hcd⟩ := F.ex
  exact .of_eq rfl
end My
open PySem PySem.W PyProof.Rows
set_option maxRecDepth 100000 in
set_option maxHeartbeats 0 in
theorem PySem.Challenge.cw_spanrow_k21_counts_far_holds : PySem.Challenge.rw_spanrow_k21_counts_far.Holds := by
  w_on; o_law; k_head; (case hw => w_witness2)
  k_fill
  refine L2.walk_ofK (l := PySem.Challenge.rw_spanrow_k21_counts_far) (n := 63) (k := 6) (x := "script") (CX := L2.CX0) (sp := My.sp_law) rfl (by decide) rfl ⟨rfl, by decide, by decide⟩ (fun w h Y => PySem.W.kIn_of Y) ?F (fun _ H a ns hl _ hS => ⟨a, ns, rfl, hS, hl, fun _ => rfl⟩) (fun _ _ _ _ z => z)
  case F =>
    intro w mg fa h KX G hmg
    have h_refuse_not_square : My.FX (L2.KOf KX) mg "refuse_not_square" "refuse_not_square" My.s_refuse_not_square := by
      dsimp only [L2.KOf]
      refine' My.fx_mk KX G ?a ?l ?c ?k
      (case a => k_is); (case l => k_is); (case c => k_is); (case k => k_is)
    have h_row_taken_off : My.FX (L2.KOf KX) mg "row_taken_off" "row_taken_off" My.s_row_taken_off := by
      dsimp only [L2.KOf]
      refine' My.fx_mk KX G ?a ?l ?c ?k
      (case a => k_is); (case l => k_is); (case c => k_is); (case k => k_is)
    have h_first_with_some : My.FX (L2.KOf KX) mg "first_with_some" "first_with_some" My.s_first_with_some := by
      dsimp only [L2.KOf]
      refine' My.fx_mk KX G ?a ?l ?c ?k
      (case a => k_is); (case l => k_is); (case c => k_is); (case k => k_is)
    have h_determinant : My.FX (L2.KOf KX) mg "determinant" "determinant" My.s_determinant := by
      dsimp only [L2.KOf]
      refine' My.fx_mk KX G ?a ?l ?c ?k
      (case a => k_is); (case l => k_is); (case c => k_is); (case k => k_is)
    have h_row_without : My.FX (L2.KOf KX) mg "row_without" "row_without" My.s_row_without := by
      dsimp only [L2.KOf]
      refine' My.fx_mk KX G ?a ?l ?c ?k
      (case a => k_is); (case l => k_is); (case c => k_is); (case k => k_is)
    have h_table_without : My.FX (L2.KOf KX) mg "table_without" "table_without" My.s_table_without := by
      dsimp only [L2.KOf]
      refine' My.fx_mk KX G ?a ?l ?c ?k
      (case a => k_is); (case l => k_is); (case c => k_is); (case k => k_is)
    have h_refuse_bad_web : My.FX (L2.KOf KX) mg "refuse_bad_web" "refuse_bad_web" My.s_refuse_bad_web := by
      dsimp only [L2.KOf]
      refine' My.fx_mk KX G ?a ?l ?c ?k
      (case a => k_is); (case l => k_is); (case c => k_is); (case k => k_is)
    have h_is_tie : My.FX (L2.KOf KX) mg "is_tie" "is_tie" My.s_is_tie := by
      dsimp only [L2.KOf]
      refine' My.fx_mk KX G ?a ?l ?c ?k
      (case a => k_is); (case l => k_is); (case c => k_is); (case k => k_is)
    have h_have_common : My.FX (L2.KOf KX) mg "have_common" "have_common" My.s_have_common := by
      dsimp only [L2.KOf]
      refine' My.fx_mk KX G ?a ?l ?c ?k
      (case a => k_is); (case l => k_is); (case c => k_is); (case k => k_is)
    have h_is_set : My.FX (L2.KOf KX) mg "is_set" "is_set" My.s_is_set := by
      dsimp only [L2.KOf]
      refine' My.fx_mk KX G ?a ?l ?c ?k
      (case a => k_is); (case l => k_is); (case c => k_is); (case k => k_is)
    have h_made_set : My.FX (L2.KOf KX) mg "made_set" "made_set" My.s_made_set := by
      dsimp only [L2.KOf]
      refine' My.fx_mk KX G ?a ?l ?c ?k
      (case a => k_is); (case l => k_is); (case c => k_is); (case k => k_is)
    have h_merged_marks : My.FX (L2.KOf KX) mg "merged_marks" "merged_marks" My.s_merged_marks := by
      dsimp only [L2.KOf]
      refine' My.fx_mk KX G ?a ?l ?c ?k
      (case a => k_is); (case l => k_is); (case c => k_is); (case k => k_is)
    have h_piece_marks : My.FX (L2.KOf KX) mg "piece_marks" "piece_marks" My.s_piece_marks := by
      dsimp only [L2.KOf]
      refine' My.fx_mk KX G ?a ?l ?c ?k
      (case a => k_is); (case l => k_is); (case c => k_is); (case k => k_is)
    have h_weighted_table : My.FX (L2.KOf KX) mg "weighted_table" "weighted_table" My.s_weighted_table := by
      dsimp only [L2.KOf]
      refine' My.fx_mk KX G ?a ?l ?c ?k
      (case a => k_is); (case l => k_is); (case c => k_is); (case k => k_is)
    have h_pull_table : My.FX (L2.KOf KX) mg "pull_table" "pull_table" My.s_pull_table := by
      dsimp only [L2.KOf]
      refine' My.fx_mk KX G ?a ?l ?c ?k
      (case a => k_is); (case l => k_is); (case c => k_is); (case k => k_is)
    have h_tree_count : My.FX (L2.KOf KX) mg "tree_count" "tree_count" My.s_tree_count := by
      dsimp only [L2.KOf]
      refine' My.fx_mk KX G ?a ?l ?c ?k
      (case a => k_is); (case l => k_is); (case c => k_is); (case k => k_is)
    have h_part_count : My.FX (L2.KOf KX) mg "part_count" "part_count" My.s_part_count := by
      dsimp only [L2.KOf]
      refine' My.fx_mk KX G ?a ?l ?c ?k
      (case a => k_is); (case l => k_is); (case c => k_is); (case k => k_is)
    have h_count_with : My.FX (L2.KOf KX) mg "count_with" "count_with" My.s_count_with := by
      dsimp only [L2.KOf]
      refine' My.fx_mk KX G ?a ?l ?c ?k
      (case a => k_is); (case l => k_is); (case c => k_is); (case k => k_is)
    have h_law_at : My.FX (L2.KOf KX) mg "_law_at" "_law_at" My.s_law_at := by
      dsimp only [L2.KOf]
      refine' My.fx_mk KX G ?a ?l ?c ?k
      (case a => k_is); (case l => k_is); (case c => k_is); (case k => k_is)
    have h_law_mixed : My.FX (L2.KOf KX) mg "_law_mixed" "_law_mixed" My.s_law_mixed := by
      dsimp only [L2.KOf]
      refine' My.fx_mk KX G ?a ?l ?c ?k
      (case a => k_is); (case l => k_is); (case c => k_is); (case k => k_is)
    have h_law_whole : My.FX (L2.KOf KX) mg "_law_whole" "_law_whole" My.s_law_whole := by
      dsimp only [L2.KOf]
      refine' My.fx_mk KX G ?a ?l ?c ?k
      (case a => k_is); (case l => k_is); (case c => k_is); (case k => k_is)
    have h_law_rings : My.FX (L2.KOf KX) mg "_law_rings" "_law_rings" My.s_law_rings := by
      dsimp only [L2.KOf]
      refine' My.fx_mk KX G ?a ?l ?c ?k
      (case a => k_is); (case l => k_is); (case c => k_is); (case k => k_is)
    have h_law_ring_count : My.FX (L2.KOf KX) mg "_law_ring_count" "_law_ring_count" My.s_law_ring_count := by
      dsimp only [L2.KOf]
      refine' My.fx_mk KX G ?a ?l ?c ?k
      (case a => k_is); (case l => k_is); (case c => k_is); (case k => k_is)
    have h_law_made : My.FX (L2.KOf KX) mg "_law_made" "_law_made" My.s_law_made := by
      dsimp only [L2.KOf]
      refine' My.fx_mk KX G ?a ?l ?c ?k
      (case a => k_is); (case l => k_is); (case c => k_is); (case k => k_is)
    have h_law_stirred : My.FX (L2.KOf KX) mg "_law_stirred" "_law_stirred" My.s_law_stirred := by
      dsimp only [L2.KOf]
      refine' My.fx_mk KX G ?a ?l ?c ?k
      (case a => k_is); (case l => k_is); (case c => k_is); (case k => k_is)
    have h_law : My.FX (L2.KOf KX) mg "law" "law" My.s_law := by
      dsimp only [L2.KOf]
      refine' My.fx_mk KX G ?a ?l ?c ?k
      (case a => k_is); (case l => k_is); (case c => k_is); (case k => k_is)
    have h_Web : My.CXF (L2.KOf KX) mg "Web" "Web.__init__" My.s_Web___init ["places", "ties"] := by
      dsimp only [L2.KOf]
      refine' My.cx_mk KX G ?aC ?a ?i ?l ?c ?k ?pg ?hd ?po ?sa ?mk ?kc ?na
      (case aC => k_is); (case a => k_is); (case i => k_is); (case l => k_is); (case c => k_is); (case k => k_is)
      (case pg => k_is); (case hd => k_is); (case po => k_is); (case sa => k_is); (case mk => k_is); (case kc => k_is)
      (case na => (intro f hf; simp only [List.mem_cons, List.not_mem_nil, or_false] at hf; rcases hf with rfl | rfl <;> k_is))
    have hX : ∃ A_WebError A_BadWeb A_BadSet A_NotSquare : Addr, mg "WebError" = some (.ref A_WebError) ∧ mg "BadWeb" = some (.ref A_BadWeb) ∧ mg "BadSet" = some (.ref A_BadSet) ∧ mg "NotSquare" = some (.ref A_NotSquare) ∧ L2.XCls (L2.KOf KX) (A_BadSet) ∧ L2.XCls (L2.KOf KX) (A_NotSquare) ∧ PySem.W.exmOne (L2.KOf KX) (.ref (A_BadSet)) (.ref (A_WebError)) = some true ∧ PySem.W.exmOne (L2.KOf KX) (.ref (A_NotSquare)) (.ref (A_WebError)) = some true := by
      dsimp only [L2.KOf]
      refine' My.xI (My.xI (My.xI (My.xI (⟨PySem.W.mg_of KX G ?m_WebError, PySem.W.mg_of KX G ?m_BadWeb, PySem.W.mg_of KX G ?m_BadSet, PySem.W.mg_of KX G ?m_NotSquare, ⟨?x_BadSet_ex, ?x_BadSet_ga, ?x_BadSet_gh, ?x_BadSet_cl, ?x_BadSet_ob, ?x_BadSet_bx⟩, ⟨?x_NotSquare_ex, ?x_NotSquare_ga, ?x_NotSquare_gh, ?x_NotSquare_cl, ?x_NotSquare_ob, ?x_NotSquare_bx⟩, ?em_BadSet, ?em_NotSquare⟩))))
      (case m_WebError => k_is)
      (case m_BadWeb => k_is)
      (case m_BadSet => k_is)
      (case m_NotSquare => k_is)
      (case x_BadSet_ex => k_exc); (case x_BadSet_ga => k_is); (case x_BadSet_gh => k_is); (case x_BadSet_cl => k_is); (case x_BadSet_ob => k_is); (case x_BadSet_bx => k_is)
      (case x_NotSquare_ex => k_exc); (case x_NotSquare_ga => k_is); (case x_NotSquare_gh => k_is); (case x_NotSquare_cl => k_is); (case x_NotSquare_ob => k_is); (case x_NotSquare_bx => k_is)
      (case em_BadSet => kts_exm)
      (case em_NotSquare => kts_exm)
    have h_MOST_PLACES : ∃ tk, mg "MOST_PLACES" = some (.int 14 tk) := by
      refine' My.const_mk KX G ?a ?b
      (case a => k_is); (case b => exact ⟨_, rfl⟩)
    have h_MOST_TIES : ∃ tk, mg "MOST_TIES" = some (.int 30 tk) := by
      refine' My.const_mk KX G ?a ?b
      (case a => k_is); (case b => exact ⟨_, rfl⟩)
    have h_any : mg "any" = none := by
      refine' PySem.W.mg_none_of KX G ?a
      (case a => k_is)
    have h_bool : mg "bool" = none := by
      refine' PySem.W.mg_none_of KX G ?a
      (case a => k_is)
    have h_enumerate : mg "enumerate" = none := by
      refine' PySem.W.mg_none_of KX G ?a
      (case a => k_is)
    have h_int : mg "int" = none := by
      refine' PySem.W.mg_none_of KX G ?a
      (case a => k_is)
    have h_isinstance : mg "isinstance" = none := by
      refine' PySem.W.mg_none_of KX G ?a
      (case a => k_is)
    have h_len : mg "len" = none := by
      refine' PySem.W.mg_none_of KX G ?a
      (case a => k_is)
    have h_list : mg "list" = none := by
      refine' PySem.W.mg_none_of KX G ?a
      (case a => k_is)
    have h_max : mg "max" = none := by
      refine' PySem.W.mg_none_of KX G ?a
      (case a => k_is)
    have h_min : mg "min" = none := by
      refine' PySem.W.mg_none_of KX G ?a
      (case a => k_is)
    have h_range : mg "range" = none := by
      refine' PySem.W.mg_none_of KX G ?a
      (case a => k_is)
    have h_set : mg "set" = none := by
      refine' PySem.W.mg_none_of KX G ?a
      (case a => k_is)
    have h_sorted : mg "sorted" = none := by
      refine' PySem.W.mg_none_of KX G ?a
      (case a => k_is)
    have h_sum : mg "sum" = none := by
      refine' PySem.W.mg_none_of KX G ?a
      (case a => k_is)
    have h_tuple : mg "tuple" = none := by
      refine' PySem.W.mg_none_of KX G ?a
      (case a => k_is)
    have h_zip : mg "zip" = none := by
      refine' PySem.W.mg_none_of KX G ?a
      (case a => k_is)
    obtain ⟨a_refuse_not_square, d_refuse_not_square, m_refuse_not_square, f_refuse_not_square⟩ := h_refuse_not_square
    obtain ⟨a_row_taken_off, d_row_taken_off, m_row_taken_off, f_row_taken_off⟩ := h_row_taken_off
    obtain ⟨a_first_with_some, d_first_with_some, m_first_with_some, f_first_with_some⟩ := h_first_with_some
    obtain ⟨a_determinant, d_determinant, m_determinant, f_determinant⟩ := h_determinant
    obtain ⟨a_row_without, d_row_without, m_row_without, f_row_without⟩ := h_row_without
    obtain ⟨a_table_without, d_table_without, m_table_without, f_table_without⟩ := h_table_without
    obtain ⟨a_refuse_bad_web, d_refuse_bad_web, m_refuse_bad_web, f_refuse_bad_web⟩ := h_refuse_bad_web
    obtain ⟨a_is_tie, d_is_tie, m_is_tie, f_is_tie⟩ := h_is_tie
    obtain ⟨a_have_common, d_have_common, m_have_common, f_have_common⟩ := h_have_common
    obtain ⟨a_is_set, d_is_set, m_is_set, f_is_set⟩ := h_is_set
    obtain ⟨a_made_set, d_made_set, m_made_set, f_made_set⟩ := h_made_set
    obtain ⟨a_merged_marks, d_merged_marks, m_merged_marks, f_merged_marks⟩ := h_merged_marks
    obtain ⟨a_piece_marks, d_piece_marks, m_piece_marks, f_piece_marks⟩ := h_piece_marks
    obtain ⟨a_weighted_table, d_weighted_table, m_weighted_table, f_weighted_table⟩ := h_weighted_table
    obtain ⟨a_pull_table, d_pull_table, m_pull_table, f_pull_table⟩ := h_pull_table
    obtain ⟨a_tree_count, d_tree_count, m_tree_count, f_tree_count⟩ := h_tree_count
    obtain ⟨a_part_count, d_part_count, m_part_count, f_part_count⟩ := h_part_count
    obtain ⟨a_count_with, d_count_with, m_count_with, f_count_with⟩ := h_count_with
    obtain ⟨a_law_at, d_law_at, m_law_at, f_law_at⟩ := h_law_at
    obtain ⟨a_law_mixed, d_law_mixed, m_law_mixed, f_law_mixed⟩ := h_law_mixed
    obtain ⟨a_law_whole, d_law_whole, m_law_whole, f_law_whole⟩ := h_law_whole
    obtain ⟨a_law_rings, d_law_rings, m_law_rings, f_law_rings⟩ := h_law_rings
    obtain ⟨a_law_ring_count, d_law_ring_count, m_law_ring_count, f_law_ring_count⟩ := h_law_ring_count
    obtain ⟨a_law_made, d_law_made, m_law_made, f_law_made⟩ := h_law_made
    obtain ⟨a_law_stirred, d_law_stirred, m_law_stirred, f_law_stirred⟩ := h_law_stirred
    obtain ⟨a_law, d_law, m_law, f_law⟩ := h_law
    obtain ⟨A_Web, a_Web___init, d_Web___init, c_Web, f_Web___init, cl_Web, k_Web, na_Web⟩ := h_Web
    obtain ⟨A_WebError, A_BadWeb, A_BadSet, A_NotSquare, c_WebError, c_BadWeb, c_BadSet, c_NotSquare, x_BadSet, x_NotSquare, em_BadSet, em_NotSquare⟩ := hX
    have T : My.Txt (L2.KOf KX) mg ⟨a_refuse_not_square, d_refuse_not_square, a_row_taken_off, d_row_taken_off, a_first_with_some, d_first_with_some, a_determinant, d_determinant, a_row_without, d_row_without, a_table_without, d_table_without, a_refuse_bad_web, d_refuse_bad_web, a_Web___init, d_Web___init, a_is_tie, d_is_tie, a_have_common, d_have_common, a_is_set, d_is_set, a_made_set, d_made_set, a_merged_marks, d_merged_marks, a_piece_marks, d_piece_marks, a_weighted_table, d_weighted_table, a_pull_table, d_pull_table, a_tree_count, d_tree_count, a_part_count, d_part_count, a_count_with, d_count_with, a_law_at, d_law_at, a_law_mixed, d_law_mixed, a_law_whole, d_law_whole, a_law_rings, d_law_rings, a_law_ring_count, d_law_ring_count, a_law_made, d_law_made, a_law_stirred, d_law_stirred, a_law, d_law, A_Web, A_WebError, A_BadWeb, A_BadSet, A_NotSquare⟩ := ⟨f_refuse_not_square, f_refuse_not_square.binds (fun _ _ _ _ _ _ us hl => by obtain ⟨_, rfl⟩ := My.len1 hl; rfl), m_refuse_not_square, f_row_taken_off, f_row_taken_off.binds (fun _ _ _ _ _ _ us hl => by obtain ⟨_, _, _, rfl⟩ := My.len3 hl; rfl), m_row_taken_off, f_first_with_some, f_first_with_some.binds (fun _ _ _ _ _ _ us hl => by obtain ⟨_, rfl⟩ := My.len1 hl; rfl), m_first_with_some, f_determinant, f_determinant.binds (fun _ _ _ _ _ _ us hl => by obtain ⟨_, rfl⟩ := My.len1 hl; rfl), m_determinant, f_row_without, f_row_without.binds (fun _ _ _ _ _ _ us hl => by obtain ⟨_, _, rfl⟩ := My.len2 hl; rfl), m_row_without, f_table_without, f_table_without.binds (fun _ _ _ _ _ _ us hl => by obtain ⟨_, _, rfl⟩ := My.len2 hl; rfl), m_table_without, f_refuse_bad_web, f_refuse_bad_web.binds (fun _ _ _ _ _ _ us hl => by obtain ⟨_, _, rfl⟩ := My.len2 hl; rfl), m_refuse_bad_web, f_Web___init, f_Web___init.binds (fun _ _ _ _ _ _ us hl => by obtain ⟨_, _, _, rfl⟩ := My.len3 hl; rfl), f_is_tie, f_is_tie.binds (fun _ _ _ _ _ _ us hl => by obtain ⟨_, _, rfl⟩ := My.len2 hl; rfl), m_is_tie, f_have_common, f_have_common.binds (fun _ _ _ _ _ _ us hl => by obtain ⟨_, _, rfl⟩ := My.len2 hl; rfl), m_have_common, f_is_set, f_is_set.binds (fun _ _ _ _ _ _ us hl => by obtain ⟨_, _, rfl⟩ := My.len2 hl; rfl), m_is_set, f_made_set, f_made_set.binds (fun _ _ _ _ _ _ us hl => by obtain ⟨_, _, rfl⟩ := My.len2 hl; rfl), m_made_set, f_merged_marks, f_merged_marks.binds (fun _ _ _ _ _ _ us hl => by obtain ⟨_, _, _, rfl⟩ := My.len3 hl; rfl), m_merged_marks, f_piece_marks, f_piece_marks.binds (fun _ _ _ _ _ _ us hl => by obtain ⟨_, _, rfl⟩ := My.len2 hl; rfl), m_piece_marks, f_weighted_table, f_weighted_table.binds (fun _ _ _ _ _ _ us hl => by obtain ⟨_, _, rfl⟩ := My.len2 hl; rfl), m_weighted_table, f_pull_table, f_pull_table.binds (fun _ _ _ _ _ _ us hl => by obtain ⟨_, rfl⟩ := My.len1 hl; rfl), m_pull_table, f_tree_count, f_tree_count.binds (fun _ _ _ _ _ _ us hl => by obtain ⟨_, rfl⟩ := My.len1 hl; rfl), m_tree_count, f_part_count, f_part_count.binds (fun _ _ _ _ _ _ us hl => by obtain ⟨_, _, _, rfl⟩ := My.len3 hl; rfl), m_part_count, f_count_with, f_count_with.binds (fun _ _ _ _ _ _ us hl => by obtain ⟨_, _, _, rfl⟩ := My.len3 hl; rfl), m_count_with, f_law_at, f_law_at.binds (fun _ _ _ _ _ _ us hl => by obtain ⟨_, _, rfl⟩ := My.len2 hl; rfl), m_law_at, f_law_mixed, f_law_mixed.binds (fun _ _ _ _ _ _ us hl => by obtain ⟨_, _, rfl⟩ := My.len2 hl; rfl), m_law_mixed, f_law_whole, f_law_whole.binds (fun _ _ _ _ _ _ us hl => by obtain ⟨_, rfl⟩ := My.len1 hl; rfl), m_law_whole, f_law_rings, f_law_rings.binds (fun _ _ _ _ _ _ us hl => by obtain ⟨_, rfl⟩ := My.len1 hl; rfl), m_law_rings, f_law_ring_count, f_law_ring_count.binds (fun _ _ _ _ _ _ us hl => by obtain ⟨_, rfl⟩ := My.len1 hl; rfl), m_law_ring_count, f_law_made, f_law_made.binds (fun _ _ _ _ _ _ us hl => by obtain ⟨_, rfl⟩ := My.len1 hl; rfl), m_law_made, f_law_stirred, f_law_stirred.binds (fun _ _ _ _ _ _ us hl => by obtain ⟨_, _, rfl⟩ := My.len2 hl; rfl), m_law_stirred, f_law, f_law.binds (fun _ _ _ _ _ _ us hl => by obtain ⟨_, rfl⟩ := My.len1 hl; rfl), m_law, c_Web, cl_Web, k_Web, na_Web _ (by simp), na_Web _ (by simp), c_WebError, c_BadWeb, c_BadSet, c_NotSquare, x_BadSet, x_NotSquare, em_BadSet, em_NotSquare, h_MOST_PLACES, h_MOST_TIES, h_any, h_bool, h_enumerate, h_int, h_isinstance, h_len, h_list, h_max, h_min, h_range, h_set, h_sorted, h_sum, h_tuple, h_zip⟩
    have e0 := hmg.symm.trans m_law
    cases e0
    exact ⟨d_law, fun s u => My.law_binds f_law s u, fun base _ _ => My.ok_law T⟩
#print axioms PySem.Challenge.cw_spanrow_k21_counts_far_holds
