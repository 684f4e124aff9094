import PyProof.Rows.All
import Wide.All
import OpenK.AllK
import Wide.FinOn
import Lean
import PyProof.EqAt
import PyProof.EqKinds
import PyProof.TupleCall
import PySem.Challenge.RW_spanrow_k61_cheapest_by_trial
set_option Elab.async false
set_option linter.all false
set_option maxRecDepth 100000
namespace PySem.W.Fast
def tw7300585490803688364:=0
def tw12159769876069995790:=0
def tw14235255214148332113:=0
def tw698744783838514968:=0
def tw12122515778411639458:=0
def tw12996975599709501095:=0
def tw13877546504971293311:=0
def tw1681565529050410397:=0
def tw4256238463568193017:=0
def tw15511598626185940438:=0
def tw6797986103857533866:=0
def tw12970538299844239678:=0
def tw15039989542981019737:=0
def tw8661012963025063617:=0
def tw6308602907816919860:=0
def tw6480370094611195712:=0
def tw16644225780385574220:=0
def tw5732603046905562238:=0
def tw18139158985048548845:=0
def tw3146605028299691464:=0
def tw15248161867965720621:=0
def tw17634324521446378804:=0
def tw2239789562964525567:=0
def tw15839973069357229107:=0
def tw15489412467426038445:=0
def tw9479109723756968801:=0
def tw5153325958341523361:=0
def tw15528159118935812169:=0
def tw1397498368938128016:=0
def tw316235726400095791:=0
def tw18376264584529028689:=0
def tw5669241079534264231:=0
def tw6449486078591984194:=0
def tw6857477344263268596:=0
def tw17836361638777455021:=0
def tw16776053453764579896:=0
def tw5952815990941736546:=0
def tw17836859328234580795:=0
def tw15658119495192113570:=0
def tw7622074546473475334:=0
def tw634870905163195251:=0
def tw1450433560459548589:=0
def tw10903067304545285954:=0
def tw3575485447001128217:=0
def tw2702889448156376455:=0
def tw4182374272925504188:=0
def tw6444587465280316432:=0
def tw15213389005184660487:=0
def tw9419774055462551782:=0
def tw12422045372123065165:=0
def tw17621190872805701665:=0
def tw11203431736933763208:=0
def tw16585468435296970637:=0
def tw15113589184870298134:=0
def tw17849402240151954546:=0
def tw12888716051268282726:=0
def tw16947479807354945340:=0
def tw13553263290168057887:=0
def tw11439565404467899098:=0
def tw6055963306862399543:=0
def tw14826703930066713019:=0
def tw5325573193863943886:=0
def tw9990064274462082686:=0
def tw2820159194571205783:=0
def tw6624752510662303332:=0
def tw13025413541231665586:=0
def tw9180351748304372798:=0
def tw10230055776650416299:=0
def tw18170125710559310414:=0
def tw15653469380051964533:=0
def tw5701250172067245659:=0
def tw7423595785221254960:=0
def tw15193209692733267744:=0
def tw125432080715865257:=0
def tw15110740643959837006:=0
def tw6215003290354442890:=0
def tw3439358163757638105:=0
def tw1893704195436991448:=0
def tw16317066121004697448:=0
def tw15494552074043030084:=0
def tw6250354980692169802:=0
def tw9309887427210496521:=0
def tw9932540280498341244:=0
def tw7356893246556016208:=0
def tw14798215204669282719:=0
def tw2261801642230273264:=0
def tw2023537110618330951:=0
def tw1139899413390994055:=0
def tw10251797150177223728:=0
def tw7765625576174050552:=0
def tw17787526201409238370:=0
def tw9951373141652966341:=0
def tw14470860948006686901:=0
def tw8599084600539414236:=0
def tw574267592160228080:=0
def tw50839908898776225:=0
def tw2681381372490261489:=0
def tw10419809740974491293:=0
def tw7912911351935966679:=0
def tw12169999799559950746:=0
def tw6426042639281541352:=0
def tw12468818536199384557:=0
def tw6540146983995252619:=0
def tw869879858878636641:=0
def tw2239351417133797509:=0
def tw9037626613748810593:=0
def tw11978155149993326827:=0
def tw15748308414676218931:=0
def tw9497514922953908771:=0
def tw11145425265378944336:=0
def tw10425655277380743840:=0
def tw7351453233541386276:=0
def tw14571629832072422491:=0
def tw1458280051123731738:=0
def tw3378276472942407009:=0
def tw11758099544235660538:=0
def tw6574259778595513666:=0
def tw13688134397977286396:=0
def tw10070253670543678179:=0
def tw16894419790612641474:=0
def tw6877972187547721389:=0
def tw5061329842217664856:=0
def tw11037749797660068759:=0
def tw16082331110648464839:=0
def tw14353080797651090687:=0
def tw5932157264161643845:=0
def tw7788746129965461186:=0
def tw12759639395284917587:=0
def tw14917418625046747475:=0
def tw16729266486148956003:=0
def tw16660615377093678202:=0
def tw2385015785682434708:=0
def tw2212055843368713280:=0
def tw9274479883557480233:=0
def tw8384621907742872464:=0
def tw4736073125559057255:=0
def tw14055154534806816995:=0
def tw1782252427586998329:=0
def tw10139591088552779380:=0
def tw14695469520414207407:=0
def tw16509567301005417013:=0
def tw11014574771671636301:=0
def tw6751421004902403836:=0
def tw2726502669987127323:=0
def tw9605308504936100931:=0
def tw16631387570375895024:=0
def tw14296557762353701054:=0
def tw11221809505130783430:=0
def tw10384519568629644782:=0
def tw4578168702235845356:=0
def tw4375792223382653956:=0
def tw9099138142092482244:=0
def tw8770714160421940481:=0
def tw7504652773209044828:=0
def tw5447612335467894766:=0
def tw3982197740385865609:=0
def tw13192716797149212191:=0
def tw12896683209910078186:=0
def tw4928523671187611245:=0
def tw14453042698157843641:=0
def tw10787542037828779383:=0
def tw18175449379874654636:=0
def tw2218120913323718774:=0
def tw3909571912019578101:=0
def tw2013655237991305071:=0
def tw14079723929175794594:=0
def tw7376388854695680466:=0
def tw578779354398648689:=0
def tw4041688128398442104:=0
def tw2577660619277963865:=0
def tw12693246575864440154:=0
def tw12605221892129751896:=0
def tw3954004268437120570:=0
def tw9956653903730637345:=0
def tw6787797722120316051:=0
def tw62726009542203256:=0
def tw3323480502488347436:=0
def tw13248977751400768311:=0
def tw11212663826170977222:=0
def tw207005805834370660:=0
def tw292901604412036600:=0
def tw17644739858911679607:=0
def tw1019186945456241673:=0
def tw10187099201869281967:=0
def tw8498045141496377042:=0
def tw3432452567707235392:=0
def tw3306239929920060393:=0
def tw3262525434927133262:=0
def tw16842059302049989410:=0
def tw15801430981912628411:=0
def tw8652804017399008780:=0
def tw8642701394020377235:=0
def tw8601800038657867791:=0
def tw8056520037503482857:=0
def tw7680331091944989314:=0
def tw7308831209149420345:=0
def tw696432483484096176:=0
def tw6747705889161006732:=0
def tw6648732286822974625:=0
def tw6224326029457655002:=0
def tw6210376505664162206:=0
def tw5793363860262596639:=0
def tw56004896232046401:=0
def tw5470774446895396089:=0
def tw4983305683035477640:=0
def tw4845829214662055350:=0
def tw4743109866693273656:=0
def tw4294567190700419330:=0
def tw4175984750558775697:=0
def tw4151246632881664907:=0
def tw3797635358254423437:=0
def tw3761136717087980039:=0
def tw3748137674841760606:=0
def tw3590858214483540162:=0
def tw3455180746149767047:=0
def tw2750704571144705780:=0
def tw2706007713011241948:=0
def tw2436550456966412256:=0
def tw18308050161054968959:=0
def tw18271163274307446828:=0
def tw17554727104129361245:=0
def tw17231160315513817335:=0
def tw17134609462072230977:=0
def tw17073595260368634432:=0
def tw16982303484852046620:=0
def tw1653784590446121885:=0
def tw16265917688628415250:=0
def tw15982595746403533498:=0
def tw1594638026505617760:=0
def tw15842911266844973606:=0
def tw15753350432140992828:=0
def tw15233569122427193489:=0
def tw15146278134169041015:=0
def tw15056744136055937607:=0
def tw14846319169957119552:=0
def tw14427848712255895232:=0
def tw1428662144146812468:=0
def tw14187466898995986558:=0
def tw14146032746506376009:=0
def tw12913677945604416105:=0
def tw12237989577187849798:=0
def tw11686713155452201907:=0
def tw10540618145616652094:=0
def tw10511459554814604556:=0
def tw10375099993621095143:=0
def tw10252966776073341891:=0
def tw10129311476876799475:=0
def tw10085832954267758908:=0
end PySem.W.Fast
/-! THE HAND LAYER, for ints, bools, texts, own classes, LISTS and tuples (index, slices, in, append, pop ..), calls, loops. Paste it whole ahead of your own text; what your proof does not reach may be deleted. -/
namespace L2
open PySem PySem.Spec PyProof.Rows

/-- a key: an int or a str -/
abbrev Key := Sum Int Str
def keyIs : Key → Value → Bool
  | .inl k, v => Value.isInt k v
  | .inr x, v => Value.isStrOf x v
def keyH (w : World) : Key → Int
  | .inl k => hashInt k
  | .inr x => hashStr w x
theorem keyIs_shape : ∀ {k : Key} {v : Value}, keyIs k v = true → (∃ i t, k = Sum.inl i ∧ v = Value.int i t) ∨ (∃ x t, k = Sum.inr x ∧ v = Value.str x t)
  | .inl i, v, h => by
    obtain ⟨t, e⟩ := Value.isInt_shape (k := i) (v := v) h
    exact .inl ⟨i, t, rfl, e⟩
  | .inr x, v, h => by
    obtain ⟨t, e⟩ := Value.isStrOf_shape (x := x) (v := v) h
    exact .inr ⟨x, t, rfl, e⟩
theorem keyIs_int (i : Int) (t : Tok) : keyIs (.inl i) (.int i t) = true := by simp [keyIs, Value.isInt]
theorem keyIs_str (x : Str) (t : Tok) : keyIs (.inr x) (.str x t) = true := by simp [keyIs, Value.isStrOf]
theorem key_ll (a b : Int) : decide ((Sum.inl a : Key) = Sum.inl b) = (a == b) := by
  by_cases e : a = b
  · subst e; simp
  · have h : ¬ (Sum.inl a : Key) = Sum.inl b := fun q => e (Sum.inl.inj q)
    rw [decide_eq_false h]
    exact (beq_eq_false_iff_ne.mpr e).symm
theorem key_rr (a b : Str) : decide ((Sum.inr a : Key) = Sum.inr b) = decide (a = b) := by
  by_cases e : a = b
  · subst e; simp
  · have h : ¬ (Sum.inr a : Key) = Sum.inr b := fun q => e (Sum.inr.inj q)
    rw [decide_eq_false h, decide_eq_false e]
theorem key_lr (a : Int) (b : Str) : decide ((Sum.inl a : Key) = Sum.inr b) = false := decide_eq_false (fun q => nomatch q)
theorem key_rl (a : Str) (b : Int) : decide ((Sum.inr a : Key) = Sum.inl b) = false := decide_eq_false (fun q => nomatch q)

def mixKind (prog : Program) (w : World) : PySem.KeyKind prog w Key where
  is := keyIs
  hash := keyH w
  inj := fun v a b ha hb => by
    rcases keyIs_shape ha with ⟨i, t, rfl, rfl⟩ | ⟨x, t, rfl, rfl⟩
    · rcases keyIs_shape hb with ⟨j, u, rfl, e⟩ | ⟨y, u, rfl, e⟩
      · injection e with e1 _; rw [e1]
      · exact nomatch e
    · rcases keyIs_shape hb with ⟨j, u, rfl, e⟩ | ⟨y, u, rfl, e⟩
      · exact nomatch e
      · injection e with e1 _; rw [e1]
  byValue := fun k v h => by
    rcases keyIs_shape h with ⟨i, t, rfl, rfl⟩ | ⟨x, t, rfl, rfl⟩ <;> rfl
  pyHash := fun hv h => by
    rcases keyIs_shape hv with ⟨i, t, rfl, rfl⟩ | ⟨x, t, rfl, rfl⟩
    · exact wpAny_pyHash_int h
    · exact wpAny_pyHash_str h
  eqBool := fun hu hv h => by
    rcases keyIs_shape hu with ⟨i, t, rfl, rfl⟩ | ⟨x, t, rfl, rfl⟩
    · rcases keyIs_shape hv with ⟨j, u, rfl, rfl⟩ | ⟨y, u, rfl, rfl⟩
      · rw [key_ll] at h; exact wpAny_eqBool_int h
      · rw [key_lr] at h; exact SeqAt.EqAt.int_str i t y u _ _ _ _ h
    · rcases keyIs_shape hv with ⟨j, u, rfl, rfl⟩ | ⟨y, u, rfl, rfl⟩
      · rw [key_rl] at h; exact SeqAt.EqAt.str_int x t j u _ _ _ _ h
      · rw [key_rr] at h; exact wpAny_eqBool_str h
  «strs» := fun k x t v h => by
    rcases keyIs_shape h with ⟨i, u, rfl, e⟩ | ⟨y, u, rfl, e⟩
    · exact nomatch e
    · injection e with e1 _
      subst e1
      cases v <;> rfl

theorem mixKind_int (prog : Program) (w : World) (i : Int) (t : Tok) : (mixKind prog w).is (.inl i) (.int i t) = true := keyIs_int i t
theorem mixKind_str (prog : Program) (w : World) (x : Str) (t : Tok) : (mixKind prog w).is (.inr x) (.str x t) = true := keyIs_str x t
end L2

namespace L2
open PySem PySem.Spec PyProof.Rows

/-- a value, without the heap -/
inductive V where
  | non | bl (b : Bool) | int (i : Int) | str (x : Str) | byt (b : Array UInt8) | flt (b : UInt64) | ref (a : Addr) | ty (n : String)
  deriving DecidableEq

def RelV : V → Value → Prop
  | .non, u => u = Value.none
  | .bl b, u => u = Value.bool b
  | .int i, u => ∃ t, u = Value.int i t
  | .str x, u => ∃ t, u = Value.str x t
  | .byt b, u => ∃ t, u = Value.bytes b t
  | .flt b, u => ∃ t, u = Value.float b t
  | .ref a, u => u = Value.ref a
  | .ty n, u => u = Value.type n

abbrev Vals : List V → List Value → Prop := Paired RelV
theorem Vals.length {xs : List V} {us : List Value} (r : Vals xs us) : xs.length = us.length := Paired.length r
theorem Vals.get : ∀ {xs : List V} {us : List Value} {i : Nat} {x : V}, Vals xs us → xs[i]? = some x → ∃ u, us[i]? = some u ∧ RelV x u
  | _, _, _, _, .nil, e => by simp at e
  | _, _, 0, _, .cons r _, e => by simp at e; subst e; exact ⟨_, rfl, r⟩
  | _, _, i + 1, x, .cons _ t, e => by
    obtain ⟨u, h1, h2⟩ := Vals.get (i := i) (x := x) t (by simpa using e)
    exact ⟨u, by simpa using h1, h2⟩
theorem Vals.set {x : V} {u : Value} (r : RelV x u) : ∀ {xs : List V} {us : List Value} (i : Nat), Vals xs us → Vals (xs.set i x) (us.set i u)
  | _, _, _, .nil => .nil
  | _, _, 0, .cons _ t => .cons r t
  | _, _, i + 1, .cons q t => .cons q (Vals.set r i t)
theorem Vals.append : ∀ {xs ys : List V} {us ws : List Value}, Vals xs us → Vals ys ws → Vals (xs ++ ys) (us ++ ws)
  | _, _, _, _, .nil, s => s
  | _, _, _, _, .cons r t, s => .cons r (Vals.append t s)
theorem Vals.take : ∀ {xs : List V} {us : List Value} (n : Nat), Vals xs us → Vals (xs.take n) (us.take n)
  | _, _, 0, _ => .nil
  | _, _, _ + 1, .nil => .nil
  | _, _, n + 1, .cons r t => .cons r (Vals.take n t)
theorem Vals.drop : ∀ {xs : List V} {us : List Value} (n : Nat), Vals xs us → Vals (xs.drop n) (us.drop n)
  | _, _, 0, r => r
  | _, _, _ + 1, .nil => .nil
  | _, _, n + 1, .cons _ t => Vals.drop n t
def RelO : Option V → Option Value → Prop
  | some v, some u => RelV v u
  | none, none => True
  | _, _ => False
def KV {κ : Type} : List (κ × V) → List (κ × Value) → Prop := Paired fun (p : κ × V) (q : κ × Value) => p.1 = q.1 ∧ RelV p.2 q.2

/-- a key of a dict (00_mix): an int or a text -/
def kV : Key → V
  | .inl i => .int i
  | .inr x => .str x

/-- what stands at a tracked address -/
inductive HO where
  /-- a list -/
  | lst (xs : List V)
  /-- a tuple (never changes) -/
  | tup (xs : List V)
  /-- a dict whose keys are ints and texts; one whose keys are tuples of ints and texts (the empty one is both) -/
  | dK (kvs : List (Key × V)) | dT (kvs : List (List Key × V))
  /-- a set of ints: its members, its size -/
  | set (S : Int → Bool) (n : Nat)
  /-- an instance of the class at C, its dict at dx, its attributes -/
  | ins (C dx : Addr) (fs : List (Str × V))
  /-- the dict of the instance at x -/
  | own (x : Addr)
  /-- the dict of an exception -/
  | xd (fs : List (Str × V))
  /-- a bound method, f of x -/
  | met (f x : Addr)
  /-- a range object lo, lo + 1, .. below hi -/
  | rng (lo hi : Int)
  /-- a thing that is known to the object (the script; a dict while a loop walks it): read, never written while it is so -/
  | frz (o : Obj) (u : HO)
  /-- a code object's table -/
  | tbl (ps : Array Value)
  /-- any other thing, by what is true of its one object (a def of one's own: SetO a S n := HO.ext fun h => ..) -/
  | ext (φ : Heap → Prop)

abbrev Hp := Addr → Option HO
def upd (H : Hp) (a : Addr) (o : HO) : Hp := fun b => if b = a then some o else H b
theorem upd_same {H : Hp} {a : Addr} {o : HO} : upd H a o a = some o := by unfold upd; rw [if_pos rfl]
theorem upd_ne {H : Hp} {a b : Addr} {o : HO} (h : b ≠ a) : upd H a o b = H b := by unfold upd; rw [if_neg h]
/-- two objects of different content stand apart -/
theorem ne_of {H : Hp} {a b : Addr} {o u : HO} (h : H a = some o) (h' : H b = some u) (d : o ≠ u) : a ≠ b := by
  intro e; subst e; rw [h] at h'; exact d (Option.some.inj h')
theorem ne_of_none {H : Hp} {a b : Addr} {o : HO} (h : H a = some o) (h' : H b = none) : a ≠ b := by
  intro e; subst e; rw [h] at h'; cases h'

section
variable (P : Program) (w : World)
def ObjOk (H : Hp) (h : Heap) (a : Addr) : HO → Prop
  | .lst xs => xs.length ≤ sizeLine ∧ ∃ (its : List Value) (n : Nat), Vals xs its ∧ h.get? a = some { cls := .type "list", data := .seq its.toArray n }
  | .tup xs => xs.length ≤ sizeLine ∧ ∃ its : List Value, Vals xs its ∧ IsTup h a its.toArray
  | .dK kvs => kvs.length ≤ sizeLine ∧ (a == sysModules) = false ∧ ∃ vs, KV kvs vs ∧ h.DictOf (mixKind P w) a vs
  | .dT kvs => kvs.length ≤ sizeLine ∧ (a == sysModules) = false ∧ ∃ xs : List (List Key × Addr × Value),
      Paired (fun (p : List Key × V) (q : List Key × Addr × Value) => p.1 = q.1 ∧ H q.2.1 = some (.tup (p.1.map kV)) ∧ RelV p.2 q.2.2) kvs xs ∧
      ∃ o es ep, h.get? a = some o ∧ o.ExactDict ∧ o.data = .dict es ep ∧ es.toList = xs.map (entryOfKey (tupleKind (mixKind P w))) ∧ (xs.map (·.1)).Nodup
  | .set S n => h.SetOf (intKind P w) a S n
  | .ins C dx fs => H dx = some (.own a) ∧ fs.length ≤ 1000 ∧ dx ≠ a ∧ h.get? a = some (PySem.W.instObj C dx) ∧
      ∃ mA, h.Ns1 dx mA ∧ (∀ f, RelO (fs.lookup f) (mA f)) ∧ PySem.Within mA (fs.map (·.1))
  | .own _ => ∃ o, h.get? a = some o
  | .xd fs => ∃ mA, h.Ns1 a mA ∧ ∀ f, RelO (fs.lookup f) (mA f)
  | .rng lo hi => ∃ t u v, h.get? a = some { cls := .type "range", data := .fields #[.int lo t, .int hi u, .int 1 v] }
  | .frz o u => h.get? a = some o ∧ ObjOk H h a u
  | .tbl ps => h.get? a = some { cls := .none, data := .fields ps }
  | .met f x => h.get? a = some (PySem.W.methodObj (.ref f) (.ref x))
  | .ext φ => φ h ∧ (∃ o, h.get? a = some o) ∧ ∀ h1 h2 : Heap, φ h1 → (∀ o, h1.get? a = some o → h2.get? a = some o) → φ h2
/-- the abstract heap is held -/
def HOk (H : Hp) (h : Heap) : Prop := ∀ a o, H a = some o → ObjOk P w H h a o
end

section
variable {P : Program} {w : World} {H H' : Hp} {h h' : Heap} {a : Addr} {o : HO}
theorem ObjOk.lt (x : ObjOk P w H h a o) : a < h.objs.size := by
  cases o with
  | lst xs => obtain ⟨_, _, _, _, e⟩ := x; exact Heap.lt_size e
  | tup xs => obtain ⟨_, _, _, p⟩ := x; exact p.lt
  | dK kvs => obtain ⟨_, _, _, _, o, _, _, e, _⟩ := x; exact Heap.lt_size e
  | dT kvs => obtain ⟨_, _, _, _, o, _, _, e, _⟩ := x; exact Heap.lt_size e
  | set S n => obtain ⟨o, _, _, _, e, _⟩ := x; exact Heap.lt_size e
  | ins C dx fs => obtain ⟨_, _, _, e, _⟩ := x; exact Heap.lt_size e
  | own y => obtain ⟨_, e⟩ := x; exact Heap.lt_size e
  | xd fs => obtain ⟨_, ⟨_, _, _, e, _⟩, _⟩ := x; exact Heap.lt_size e
  | rng lo hi => obtain ⟨_, _, _, e⟩ := x; exact Heap.lt_size e
  | frz ob u => obtain ⟨e, _⟩ := x; exact Heap.lt_size e
  | tbl ps => exact Heap.lt_size (show h.get? a = some _ from x)
  | met f y => exact Heap.lt_size (show h.get? a = some _ from x)
  | ext φ => obtain ⟨_, ⟨_, e⟩, _⟩ := x; exact Heap.lt_size e
theorem Paired.mapP {α β : Type} {F G : α → β → Prop} : ∀ {l₁ : List α} {l₂ : List β}, Paired F l₁ l₂ → (∀ a b, F a b → G a b) → Paired G l₁ l₂
  | _, _, .nil, _ => .nil
  | _, _, .cons r t, f => .cons (f _ _ r) (Paired.mapP t f)
/-- what an object's description leans on: its own object, its own dict, the tuples -/
theorem ObjOk.stay (x : ObjOk P w H h a o) (k : ∀ b u, (b = a ∨ H b = some (.own a)) → h.get? b = some u → h'.get? b = some u)
    (ho : ∀ b, H b = some (.own a) → H' b = some (.own a)) (ht : ∀ b xs, H b = some (.tup xs) → H' b = some (.tup xs)) : ObjOk P w H' h' a o := by
  induction o with
  | lst xs => obtain ⟨z, its, n, r, e⟩ := x; exact ⟨z, its, n, r, k _ _ (.inl rfl) e⟩
  | tup xs => obtain ⟨z, its, r, ob, e, c⟩ := x; exact ⟨z, its, r, ob, k _ _ (.inl rfl) e, c⟩
  | dK kvs => obtain ⟨z, y, vs, r, ob, es, ep, e, c⟩ := x; exact ⟨z, y, vs, r, ob, es, ep, k _ _ (.inl rfl) e, c⟩
  | dT kvs =>
    obtain ⟨z, y, xs, r, ob, es, ep, e, c⟩ := x
    exact ⟨z, y, xs, Paired.mapP r fun p q z => ⟨z.1, ht _ _ z.2.1, z.2.2⟩, ob, es, ep, k _ _ (.inl rfl) e, c⟩
  | set S n => obtain ⟨ob, es, ep, t, e, c⟩ := x; exact ⟨ob, es, ep, t, k _ _ (.inl rfl) e, c⟩
  | ins C dx fs =>
    obtain ⟨d, z, ne, e, mA, ⟨od, es, ep, e2, c⟩, r⟩ := x
    exact ⟨ho _ d, z, ne, k _ _ (.inl rfl) e, mA, ⟨od, es, ep, k _ _ (.inr d) e2, c⟩, r⟩
  | own y => obtain ⟨ob, e⟩ := x; exact ⟨ob, k _ _ (.inl rfl) e⟩
  | xd fs => obtain ⟨mA, ⟨od, es, ep, e, c⟩, r⟩ := x; exact ⟨mA, ⟨od, es, ep, k _ _ (.inl rfl) e, c⟩, r⟩
  | rng lo hi => obtain ⟨t, u, v, e⟩ := x; exact ⟨t, u, v, k _ _ (.inl rfl) e⟩
  | frz ob u ih => obtain ⟨e, q⟩ := x; exact ⟨k _ _ (.inl rfl) e, ih q⟩
  | tbl ps =>
    have e : h.get? a = some { cls := .none, data := .fields ps } := x
    show h'.get? a = some { cls := .none, data := .fields ps }
    exact k a _ (.inl rfl) e
  | met f y =>
    have e : h.get? a = some (PySem.W.methodObj (.ref f) (.ref y)) := x
    show h'.get? a = some (PySem.W.methodObj (.ref f) (.ref y))
    exact k a _ (.inl rfl) e
  | ext φ => obtain ⟨p, ⟨o, e⟩, st⟩ := x; exact ⟨st _ _ p fun o q => k _ _ (.inl rfl) q, ⟨o, k _ _ (.inl rfl) e⟩, st⟩
theorem HOk.lt (x : HOk P w H h) (e : H a = some o) : a < h.objs.size := (x a o e).lt
theorem HOk.fresh (x : HOk P w H h) (e : h.objs.size ≤ a) : H a = none := by
  cases q : H a with
  | none => rfl
  | some u => exact absurd (Nat.lt_of_lt_of_le (x.lt q) e) (Nat.lt_irrefl _)
/-- every object of the heap is kept -/
theorem HOk.kept (x : HOk P w H h) (k : ∀ b u, h.get? b = some u → h'.get? b = some u) : HOk P w H h' := fun a o e =>
  (x a o e).stay (fun b u _ q => k b u q) (fun _ q => q) fun _ _ q => q
/-- a new object is laid and tracked -/
theorem HOk.laid (x : HOk P w H h) (k : ∀ b u, h.get? b = some u → h'.get? b = some u) (hp : h.objs.size ≤ a) (new : ObjOk P w (upd H a o) h' a o) : HOk P w (upd H a o) h' := fun b u e => by
  have hn := x.fresh hp
  by_cases hb : b = a
  · subst hb; rw [upd_same] at e; cases e; exact new
  · rw [upd_ne hb] at e
    exact (x b u e).stay (fun c v _ q => k c v q) (fun c q => by rw [upd_ne (ne_of_none q hn)]; exact q) fun c xs q => by rw [upd_ne (ne_of_none q hn)]; exact q
end

/-- what may be read as u: it is u, or a known u -/
def Rd (H : Hp) (a : Addr) (u : HO) : Prop := H a = some u ∨ ∃ o, H a = some (.frz o u)
theorem Rd.ok {P : Program} {w : World} {H : Hp} {h : Heap} {a : Addr} {u : HO} (r : Rd H a u) (x : HOk P w H h) : ObjOk P w H h a u := by
  rcases r with r | ⟨o, r⟩
  · exact x a u r
  · obtain ⟨_, q⟩ := x a _ r
    exact q
/-- what may be written -/
def Mut : Option HO → Prop
  | some (.lst _) => True
  | some (.dK _) => True
  | some (.dT _) => True
  | some (.set _ _) => True
  | some (.ins _ _ _) => True
  | some (.ext _) => True
  | _ => False
section
variable {P : Program} {w : World} {H : Hp} {h h' : Heap} {x e : Addr} {o' : HO}
/-- the object at e is changed: x itself, or the dict of the instance x -/
theorem HOk.write (ok : HOk P w H h) (mu : Mut (H x)) (he : e = x ∨ H e = some (.own x)) (k : ∀ b u, b ≠ e → h.get? b = some u → h'.get? b = some u) (heo : ∃ u, h'.get? e = some u)
    (new : ObjOk P w (upd H x o') h' x o') : HOk P w (upd H x o') h' := fun b u q => by
  have nown : ∀ c y, H c = some (.own y) → c ≠ x := fun c y r z => by subst z; rw [r] at mu; exact mu
  have ntup : ∀ c xs, H c = some (.tup xs) → c ≠ x := fun c xs r z => by subst z; rw [r] at mu; exact mu
  by_cases hb : b = x
  · subst hb; rw [upd_same] at q; cases q; exact new
  · rw [upd_ne hb] at q
    by_cases hbe : b = e
    · have q' : H b = some (.own x) := by
        rcases he with z | z
        · exact absurd (hbe.trans z) hb
        · rw [hbe]; exact z
      rw [q] at q'; cases q'
      obtain ⟨v, hv⟩ := heo
      exact ⟨v, by rw [hbe]; exact hv⟩
    · refine (ok b u q).stay (fun c v hc r => k c v ?_ r) (fun c r => by rw [upd_ne (nown c b r)]; exact r) fun c xs r => by rw [upd_ne (ntup c xs r)]; exact r
      rcases hc with rfl | hc
      · exact hbe
      · rintro rfl
        rcases he with z | z
        · exact nown c b hc z
        · rw [hc] at z; cases z; exact hb rfl
end

/-! ### kept unless tracked; of the frames at fs (the callers') the slots may change (an exception that passes writes there); of the records at ex (iterators) nothing is said -/
structure Un (fs ex : List Addr) (H H' : Hp) (h h' : Heap) : Prop where
  keep : ∀ b o, h.get? b = some o → H b = none → b ∉ fs → b ∉ ex → h'.get? b = some o
  slot : ∀ b o, h.get? b = some o → H b = none → b ∈ fs → b ∉ ex → ∃ sl, h'.get? b = some { o with slots := sl }
  free : ∀ b o, h.get? b = some o → H b = none → b ∉ ex → H' b = none
  there : ∀ b o, h.get? b = some o → b ∉ ex → ∃ o', h'.get? b = some o'
  tups : ∀ b xs, H b = some (.tup xs) → H' b = some (.tup xs)
  frzs : ∀ b o u, H b = some (.frz o u) → H' b = some (.frz o u)
  tbls : ∀ b ps, H b = some (.tbl ps) → ∃ more, H' b = some (.tbl (ps ++ more))
section
variable {fs fs' ex ex' : List Addr} {H H1 H2 : Hp} {h h1 h2 h' : Heap} {a x e : Addr} {o : HO}
theorem Un.any (u : Un fs ex H H1 h h1) {b : Addr} {ob : Obj} (q : h.get? b = some ob) (n : H b = none) (hx : b ∉ ex) : ∃ sl, h1.get? b = some { ob with slots := sl } := by
  by_cases hb : b ∈ fs
  · exact u.slot b ob q n hb hx
  · exact ⟨ob.slots, u.keep b ob q n hb hx⟩
theorem Un.trans (a : Un fs ex H H1 h h1) (b : Un fs ex H1 H2 h1 h2) : Un fs ex H H2 h h2 where
  keep := fun c ob q n hc hx => b.keep c ob (a.keep c ob q n hc hx) (a.free c ob q n hx) hc hx
  slot := fun c ob q n hc hx => by
    obtain ⟨sl, e1⟩ := a.slot c ob q n hc hx
    obtain ⟨sl', e2⟩ := b.slot c _ e1 (a.free c ob q n hx) hc hx
    exact ⟨sl', e2⟩
  free := fun c ob q n hx => by
    obtain ⟨o', e1⟩ := a.there c ob q hx
    exact b.free c o' e1 (a.free c ob q n hx) hx
  there := fun c ob q hx => by
    obtain ⟨o', e1⟩ := a.there c ob q hx
    exact b.there c o' e1 hx
  tups := fun c xs q => b.tups c xs (a.tups c xs q)
  frzs := fun c ob xs q => b.frzs c ob xs (a.frzs c ob xs q)
  tbls := fun c ps q => by
    obtain ⟨m1, e1⟩ := a.tbls c ps q
    obtain ⟨m2, e2⟩ := b.tbls c _ e1
    exact ⟨m1 ++ m2, by rw [e2, Array.append_assoc]⟩
theorem Un.kept (k : ∀ b u, h.get? b = some u → h'.get? b = some u) : Un fs ex H H h h' :=
  ⟨fun b ob q _ _ _ => k b ob q, fun b ob q _ _ _ => ⟨ob.slots, k b ob q⟩, fun _ _ _ n _ => n, fun b ob q _ => ⟨ob, k b ob q⟩, fun _ _ q => q, fun _ _ _ q => q, fun _ ps q => ⟨#[], by rw [q]; simp⟩⟩
theorem Un.refl : Un fs ex H H h h := Un.kept fun _ _ q => q
theorem Un.laid (k : ∀ b u, h.get? b = some u → h'.get? b = some u) (hp : h.objs.size ≤ a) (hn : H a = none) : Un fs ex H (upd H a o) h h' where
  keep := fun b u q _ _ _ => k b u q
  slot := fun b u q _ _ _ => ⟨u.slots, k b u q⟩
  free := fun b u q n _ => by rw [upd_ne (Nat.ne_of_lt (Nat.lt_of_lt_of_le (Heap.lt_size q) hp))]; exact n
  there := fun b u q _ => ⟨u, k b u q⟩
  tups := fun b xs q => by rw [upd_ne (ne_of_none q hn)]; exact q
  frzs := fun b u xs q => by rw [upd_ne (ne_of_none q hn)]; exact q
  tbls := fun b ps q => ⟨#[], by rw [upd_ne (ne_of_none q hn), q]; simp⟩
theorem Un.write (mu : Mut (H x)) (he : e = x ∨ H e = some (.own x)) (k : ∀ b u, b ≠ e → h.get? b = some u → h'.get? b = some u) (heo : ∃ u, h'.get? e = some u) : Un fs ex H (upd H x o) h h' := by
  have hx : ∀ b, H b = none → b ≠ x := fun b n z => by subst z; rw [n] at mu; exact mu
  have hb : ∀ b, H b = none → b ≠ e := fun b n z => by
    subst z
    rcases he with r | r
    · exact hx b n r
    · rw [n] at r; cases r
  have hm : ∀ b u, H b = some u → ¬ Mut (some u) → b ≠ x := fun b u q nm z => by subst z; rw [q] at mu; exact nm mu
  refine ⟨fun b u q n _ _ => k b u (hb b n) q, fun b u q n _ _ => ⟨u.slots, k b u (hb b n) q⟩, fun b u q n _ => by rw [upd_ne (hx b n)]; exact n, fun b u q _ => ?_,
    fun b xs q => by rw [upd_ne (hm b _ q fun z => z)]; exact q, fun b u xs q => by rw [upd_ne (hm b _ q fun z => z)]; exact q, fun b ps q => ⟨#[], by rw [upd_ne (hm b _ q fun z => z), q]; simp⟩⟩
  by_cases hbe : b = e
  · subst hbe; exact heo
  · exact ⟨u, k b u hbe q⟩
end

/-! ### the heap without what is tracked -/
def trk (h : Heap) (H : Hp) : List Addr := (List.range h.objs.size).filter fun a => (H a).isSome
def hidT (h : Heap) (H : Hp) : Heap := PySem.W.hideAll h (trk h H)
theorem hidT_size (h : Heap) (H : Hp) : (hidT h H).objs.size = h.objs.size := PySem.W.hideAll_size _ _
theorem hidT_get {h : Heap} {H : Hp} {b : Addr} {o : Obj} (e : h.get? b = some o) (n : H b = none) : (hidT h H).get? b = some o :=
  PySem.W.hideAll_get _ e fun hm => by
    have q : (H b).isSome = true := (List.mem_filter.mp hm).2
    rw [n] at q; simp at q
theorem of_hidT {h : Heap} {H : Hp} {b : Addr} {o : Obj} (e : (hidT h H).get? b = some o) : h.get? b = some o ∧ H b = none := by
  have e' : h.get? b = some o := PySem.W.of_hideAll (trk h H) e
  refine ⟨e', ?_⟩
  cases q : H b with
  | none => rfl
  | some x =>
    have hm : b ∈ trk h H := List.mem_filter.mpr ⟨List.mem_range.mpr (Heap.lt_size e'), by simp [q]⟩
    have z : (hidT h H).get? b = none := PySem.W.hideAll_none (trk h H) hm
    rw [z] at e; cases e

/-! ### OpenK's ledger, filled with every new object but one -/
def allNews (g h : Heap) (L : Addr) : List (Addr × Obj) := (List.range h.objs.size).filterMap fun a => if a = L ∨ (g.get? a).isSome = true then none else (h.get? a).map fun o => (a, o)
def rest (g h : Heap) (L d : Addr) : List (Addr × Obj) := (allNews g h L).filter fun p => decide (p.1 ≠ d)
end L2

namespace L2
open PySem PySem.Spec PyProof.Rows

/-- the module's facts, over the base: the heap at the law's entry without what is tracked there -/
structure Mod (K : PySem.W.Frag) (mg : Str → Option Value) (base : Heap) : Prop where
  kin : K.In base
  glob : base.Ns mainGlobals mg
  blt : ∃ mb, base.Ns builtinsNs mb ∧ ∀ x : Str, x ≠ "__name__" → mb x = bootBuiltins x
  nolimit : base.NoLimit

/-- the context: a def's body (or a comprehension's block) running. base: fixed through the whole law; s₀, H₀: the entry; outer: the frames whose slots others may change (a def's callers); stack: all frames that run;
   ex: iterators that were made ahead of the entry and are walked here (a comprehension's); fn: the names whose cells were made at the entry (a def: all; a comprehension's block: its own); calm: not within an except suite; pn: pins that every state bears; xe: what is wanted of an exception that leaves the code -/
structure Cx where
  prog : Program
  w : World
  K : PySem.W.Frag
  mg : Str → Option Value
  base : Heap
  A : Around
  N : List Str
  s₀ : Shared
  H₀ : Hp
  env : Env
  outer : List Env
  stack : List Env
  ex : List Addr
  fn : Str → Bool
  calm : Bool
  pn : List (Addr × Obj)
  xe : Value → Shared → Prop
/-- the callers' frames -/
def frs (l : List Env) : List Addr := l.filterMap (·.frame)
abbrev Cx.fs (X : Cx) : List Addr := frs X.outer

def Vis (sc : Scope) (x : Str) : Prop := sc.names.lookup x = some .local ∨ sc.names.lookup x = some .cell ∨ sc.names.lookup x = some .free
def Loc (sc : Scope) (x : Str) : Prop := sc.names.lookup x = some .local ∨ sc.names.lookup x = some .cell
def Look (env : Env) (h : Heap) (m : Str → Option Value) (x : Str) (u : Value) : Prop :=
  (env.kindOf x = some .local ∧ m x = some u) ∨ ((env.kindOf x = some .cell ∨ env.kindOf x = some .free) ∧ ∃ c, env.cells.lookup x = some c ∧ h.IsCell c (some u))

structure Cx.Ok (X : Cx) : Prop where
  mod : Mod X.K X.mg X.base
  kind : X.env.scope.kind = .function
  glob : X.env.globals = mainGlobals
  blt : X.env.builtins = builtinsNs
  above : X.s₀.heap.objs.size ≤ X.env.locals
  inj : ∀ x y c, X.env.cells.lookup x = some c → X.env.cells.lookup y = some c → x = y
  has : ∀ x, (X.env.kindOf x = some .cell ∨ X.env.kindOf x = some .free) → ∃ c, X.env.cells.lookup x = some c
  cab : ∀ x c, X.fn x = true → X.env.cells.lookup x = some c → X.s₀.heap.objs.size ≤ c
  hd : X.calm = true → X.A.handled = none
  frames : X.A.frames = some X.stack
  stk : X.stack = X.outer ∨ (X.stack = X.env :: X.outer ∧ X.env.frame = some X.env.locals)
  exf : ∀ b ∈ X.ex, b ≠ X.env.locals ∧ ∀ x c, X.env.cells.lookup x = some c → c ≠ b
  bs : ∀ b o, X.base.get? b = some o → X.s₀.heap.get? b = some o ∧ X.H₀ b = none
  bsz : X.base.objs.size ≤ X.s₀.heap.objs.size
  noex : ∀ b o, X.base.get? b = some o → b ∉ X.ex
  exfs : ∀ b ∈ X.ex, b ∉ X.fs
  funs : X.s₀.heap.FunFrames X.base X.outer
  frf : ∀ b ∈ X.fs, X.H₀ b = none

structure Inv (X : Cx) (pins : List (Addr × Obj)) (σ : List (Option V)) (H : Hp) (s : Shared) : Prop where
  ok : X.Ok
  os : s.os = X.s₀.os
  bare : AllBare s.gens
  base : Un X.fs X.ex X.H₀ H X.s₀.heap s.heap
  loc : ∃ m, s.heap.Ns X.env.locals m ∧ ∀ (i : Nat) (x : Str) (v : V), X.N[i]? = some x → σ[i]? = some (some v) → Vis X.env.scope x → ∃ u, RelV v u ∧ Look X.env s.heap m x u
  cell : ∀ x c, X.env.cells.lookup x = some c → ∃ v, s.heap.IsCell c v
  free : H X.env.locals = none
  freeC : ∀ x c, X.env.cells.lookup x = some c → H c = none
  pin : ∀ p ∈ X.pn ++ pins, s.heap.get? p.1 = some p.2 ∧ H p.1 = none ∧ p.1 ≠ X.env.locals ∧ p.1 ∉ X.fs ∧ ∀ v, p.2.data ≠ .cell v
  hok : HOk X.prog X.w H s.heap
  len : σ.length = X.N.length

section
variable {X : Cx} {pins : List (Addr × Obj)} {σ : List (Option V)} {H H' : Hp} {s : Shared} {h' : Heap}

theorem Cx.Ok.nofr (ok : X.Ok) {b : Addr} {o : Obj} (e : X.base.get? b = some o) : b ∉ X.fs := fun hb => by
  have := (ok.funs.mem hb).1
  rw [e] at this; cases this
theorem Inv.bs (I : Inv X pins σ H s) : ∀ b o, X.base.get? b = some o → s.heap.get? b = some o ∧ H b = none := fun b o e =>
  ⟨I.base.keep b o (I.ok.bs b o e).1 (I.ok.bs b o e).2 (I.ok.nofr e) (I.ok.noex b o e), I.base.free b o (I.ok.bs b o e).1 (I.ok.bs b o e).2 (I.ok.noex b o e)⟩
theorem Inv.bk (I : Inv X pins σ H s) : ∀ b o, X.base.get? b = some o → s.heap.get? b = some o := fun b o e => (I.bs b o e).1
theorem Inv.mod (I : Inv X pins σ H s) : Mod X.K X.mg X.base := I.ok.mod
theorem Inv.kIn (I : Inv X pins σ H s) : X.K.In s.heap := I.ok.mod.kin.keeps I.bk
theorem Inv.lt (I : Inv X pins σ H s) : X.env.locals < s.heap.objs.size := let ⟨_, hn, _⟩ := I.loc; hn.lt
theorem Inv.sz (I : Inv X pins σ H s) : X.s₀.heap.objs.size ≤ s.heap.objs.size := Nat.le_trans I.ok.above (Nat.le_of_lt I.lt)
theorem Inv.nofs (I : Inv X pins σ H s) {a : Addr} (h : s.heap.objs.size ≤ a) : a ∉ X.fs := fun hb => by
  obtain ⟨_, o, ho, _⟩ := I.ok.funs.mem hb
  exact absurd (Nat.lt_of_lt_of_le (Heap.lt_size ho) (Nat.le_trans I.sz h)) (Nat.lt_irrefl _)
theorem Inv.cne (I : Inv X pins σ H s) : ∀ x c, X.env.cells.lookup x = some c → c ≠ X.env.locals := fun x c e z => by
  obtain ⟨v, o, ho, hd⟩ := I.cell x c e
  obtain ⟨m, ⟨o', es, ep, ho', hd', _⟩, _⟩ := I.loc
  rw [z, ho'] at ho; cases ho; rw [hd'] at hd; cases hd
theorem Inv.funs (I : Inv X pins σ H s) : s.heap.FunFrames X.base X.outer := by
  have all : ∀ (l : List Env), (∀ b ∈ frs l, b ∈ X.fs) → X.s₀.heap.FunFrames X.base l → s.heap.FunFrames X.base l := by
    intro l
    induction l with
    | nil => intro _ _; trivial
    | cons env r ih =>
      intro hs hl
      obtain ⟨hk, ⟨L, o, hf, hn, ho, hd⟩, hr⟩ := hl
      have hL : L ∈ X.fs := hs L (by unfold frs; rw [List.filterMap_cons, hf]; exact List.mem_cons_self)
      obtain ⟨sl, e⟩ := I.base.slot L o ho (I.ok.frf L hL) hL fun z => I.ok.exfs L z hL
      exact ⟨hk, ⟨L, _, hf, hn, e, hd⟩, ih (fun b hb => hs b (by unfold frs; rw [List.filterMap_cons, hf]; exact List.mem_cons_of_mem _ hb)) hr⟩
  exact all X.outer (fun _ hb => hb) I.ok.funs

/-- the frames that run, for a call -/
theorem Inv.stack (I : Inv X pins σ H s) : s.heap.FunFrames X.base X.stack := by
  rcases I.ok.stk with e | ⟨e, hf⟩
  · rw [e]; exact I.funs
  · rw [e]
    obtain ⟨m, hn, _⟩ := I.loc
    refine .cons (by rw [I.ok.kind]; decide) hf hn ?_ I.funs
    exact Heap.get?_none_of_le (Nat.le_trans I.ok.bsz I.ok.above)
theorem Inv.stkSub (I : Inv X pins σ H s) : ∀ b ∈ frs X.stack, b ∈ X.env.locals :: X.fs := fun b hb => by
  rcases I.ok.stk with e | ⟨e, hf⟩
  · rw [e] at hb; exact List.mem_cons_of_mem _ hb
  · rw [e] at hb
    unfold frs at hb
    rw [List.filterMap_cons, hf] at hb
    exact hb
theorem Inv.stkFree (I : Inv X pins σ H s) : ∀ b ∈ frs X.stack, H b = none := fun b hb => by
  rcases List.mem_cons.mp (I.stkSub b hb) with e | hb
  · rw [e]; exact I.free
  · obtain ⟨_, o, ho, _⟩ := I.ok.funs.mem hb
    exact I.base.free b o ho (I.ok.frf b hb) fun z => I.ok.exfs b z hb

/-- THE STEP: the untracked objects but the frame and the records at ch are kept (the callers' frames up to slots), the frame's map is kept, the new abstract heap is held -/
theorem Inv.step {g' : Array GenState} {t' : Nat} {d' : Drawn} {ch : List Addr} (I : Inv X pins σ H s)
    (hch : ∀ b ∈ ch, (b ∈ X.ex ∨ X.s₀.heap.objs.size ≤ b) ∧ b ≠ X.env.locals ∧ (∀ x c, X.env.cells.lookup x = some c → c ≠ b) ∧ ∀ p ∈ X.pn ++ pins, p.1 ≠ b)
    (keep : ∀ b o, b ≠ X.env.locals → b ∉ X.fs → b ∉ ch → s.heap.get? b = some o → H b = none → h'.get? b = some o)
    (slot : ∀ b o, b ≠ X.env.locals → b ∈ X.fs → b ∉ ch → s.heap.get? b = some o → H b = none → ∃ sl, h'.get? b = some { o with slots := sl }) (free : ∀ b o, b ∉ ch → s.heap.get? b = some o → H b = none → H' b = none)
    (there : ∀ b o, b ∉ ch → s.heap.get? b = some o → ∃ o', h'.get? b = some o')
    (tups : ∀ b xs, H b = some (.tup xs) → H' b = some (.tup xs)) (frzs : ∀ b o u, H b = some (.frz o u) → H' b = some (.frz o u)) (tbls : ∀ b ps, H b = some (.tbl ps) → ∃ more, H' b = some (.tbl (ps ++ more)))
    (ns : ∀ m, s.heap.Ns X.env.locals m → h'.Ns X.env.locals m) (hok : HOk X.prog X.w H' h') (hg : AllBare g') :
    Inv X pins σ H' { s with heap := h', gens := g', drawn := d', toks := t' } := by
  have neL : ∀ b o, X.s₀.heap.get? b = some o → b ≠ X.env.locals := fun b o e => Nat.ne_of_lt (Nat.lt_of_lt_of_le (Heap.lt_size e) I.ok.above)
  have neC : ∀ b o, X.s₀.heap.get? b = some o → b ∉ X.ex → b ∉ ch := fun b o e hx hb => by
    rcases (hch b hb).1 with z | z
    · exact hx z
    · exact absurd (Nat.lt_of_lt_of_le (Heap.lt_size e) z) (Nat.lt_irrefl _)
  have cellK : ∀ x c, X.env.cells.lookup x = some c → ∀ v, s.heap.IsCell c v → h'.IsCell c v := fun x c e v ⟨o, ho, hd⟩ => by
    have nch : c ∉ ch := fun z => (hch c z).2.2.1 x c e rfl
    by_cases hc : c ∈ X.fs
    · obtain ⟨sl, q⟩ := slot c o (I.cne x c e) hc nch ho (I.freeC x c e)
      exact ⟨_, q, hd⟩
    · exact ⟨o, keep c o (I.cne x c e) hc nch ho (I.freeC x c e), hd⟩
  refine ⟨I.ok, I.os, hg, ⟨fun b o e n hb hx => ?_, fun b o e n hb hx => ?_, fun b o e n hx => ?_, fun b o e hx => ?_, fun b xs e => tups b xs (I.base.tups b xs e), fun b o xs e => frzs b o xs (I.base.frzs b o xs e), fun b ps e => ?_⟩, ?_, fun x c e => ?_, ?_, fun x c e => ?_, fun p hp => ?_, hok, I.len⟩
  · exact keep b o (neL b o e) hb (neC b o e hx) (I.base.keep b o e n hb hx) (I.base.free b o e n hx)
  · obtain ⟨sl, e1⟩ := I.base.slot b o e n hb hx
    obtain ⟨sl', e2⟩ := slot b _ (neL b o e) hb (neC b o e hx) e1 (I.base.free b o e n hx)
    exact ⟨sl', e2⟩
  · obtain ⟨o', e1⟩ := I.base.there b o e hx
    exact free b o' (neC b o e hx) e1 (I.base.free b o e n hx)
  · obtain ⟨o', e1⟩ := I.base.there b o e hx
    exact there b o' (neC b o e hx) e1
  · obtain ⟨m1, e1⟩ := I.base.tbls b ps e
    obtain ⟨m2, e2⟩ := tbls b _ e1
    exact ⟨m1 ++ m2, by rw [e2, Array.append_assoc]⟩
  · obtain ⟨m, hn, hl⟩ := I.loc
    refine ⟨m, ns m hn, fun i x v e1 e2 e3 => ?_⟩
    obtain ⟨u, r, l⟩ := hl i x v e1 e2 e3
    refine ⟨u, r, ?_⟩
    rcases l with l | ⟨k, c, e, z⟩
    · exact .inl l
    · exact .inr ⟨k, c, e, cellK x c e _ z⟩
  · obtain ⟨v, z⟩ := I.cell x c e
    exact ⟨v, cellK x c e v z⟩
  · obtain ⟨m, ⟨o, _, _, ho, _⟩, _⟩ := I.loc
    exact free _ o (fun z => (hch _ z).2.1 rfl) ho I.free
  · obtain ⟨v, o, ho, hd⟩ := I.cell x c e
    exact free c o (fun z => (hch c z).2.2.1 x c e rfl) ho (I.freeC x c e)
  · obtain ⟨e, n, ne, nf, d⟩ := I.pin p hp
    have nch : p.1 ∉ ch := fun z => (hch p.1 z).2.2.2 p hp rfl
    exact ⟨keep p.1 p.2 ne nf nch e n, free p.1 p.2 nch e n, ne, nf, d⟩
/-- .. where the frame's own object is kept too -/
theorem Inv.un {t' : Nat} (I : Inv X pins σ H s) (u : Un X.fs [] H H' s.heap h') (hok : HOk X.prog X.w H' h') : Inv X pins σ H' { s with heap := h', toks := t' } := by
  obtain ⟨m, ⟨o, es, ep, ho, r⟩, _⟩ := id I.loc
  obtain ⟨sl, hL⟩ := u.any ho I.free (by simp)
  exact I.step (g' := s.gens) (d' := s.drawn) (ch := []) (fun _ z => nomatch z) (fun b o _ hb _ e n => u.keep b o e n hb (by simp)) (fun b o _ hb _ e n => u.slot b o e n hb (by simp)) (fun b o _ e n => u.free b o e n (by simp)) (fun b o _ e => u.there b o e (by simp)) u.tups u.frzs u.tbls (fun m' hm => by
    obtain ⟨o', es', ep', ho', r'⟩ := hm
    rw [ho] at ho'; cases ho'
    exact ⟨_, es', ep', hL, r'⟩) hok I.bare
/-- behind a call (or a comprehension's block): the slots of this frame may have changed too, the records at ch may have turned -/
theorem Inv.call {g' : Array GenState} {t' : Nat} {d' : Drawn} {ch : List Addr} (I : Inv X pins σ H s) (u : Un (frs X.stack) ch H H' s.heap h') (hok : HOk X.prog X.w H' h') (hg : AllBare g')
    (hch : ∀ b ∈ ch, (b ∈ X.ex ∨ X.s₀.heap.objs.size ≤ b) ∧ b ≠ X.env.locals ∧ (∀ x c, X.env.cells.lookup x = some c → c ≠ b) ∧ ∀ p ∈ X.pn ++ pins, p.1 ≠ b) :
    Inv X pins σ H' { s with heap := h', gens := g', drawn := d', toks := t' } := by
  obtain ⟨m, ⟨o, es, ep, ho, r⟩, _⟩ := id I.loc
  obtain ⟨sl, hL⟩ := u.any ho I.free fun z => (hch _ z).2.1 rfl
  exact I.step (ch := ch) hch (fun b o hL hb hc e n => u.keep b o e n (fun z => (List.mem_cons.mp (I.stkSub b z)).elim hL hb) hc) (fun b o _ _ hc e n => u.any e n hc) (fun b o hc e n => u.free b o e n hc) (fun b o hc e => u.there b o e hc) u.tups u.frzs u.tbls (fun m' hm => by
    obtain ⟨o', es', ep', ho', r'⟩ := hm
    rw [ho] at ho'; cases ho'
    exact ⟨_, es', ep', hL, r'⟩) hok hg
/-- an untracked record of ours (an iterator) has turned -/
theorem Inv.turned {t' : Nat} {it : Addr} (I : Inv X pins σ H s) (k : ∀ b o, b ≠ it → s.heap.get? b = some o → h'.get? b = some o) (hn : H it = none) (hL : it ≠ X.env.locals)
    (h1 : it ∈ X.ex ∨ X.s₀.heap.objs.size ≤ it) (h2 : ∀ x c, X.env.cells.lookup x = some c → c ≠ it) (h3 : ∀ p ∈ X.pn ++ pins, p.1 ≠ it) : Inv X pins σ H { s with heap := h', toks := t' } := by
  have nit : ∀ b u, H b = some u → b ≠ it := fun b u e z => by rw [z, hn] at e; cases e
  refine I.step (g' := s.gens) (d' := s.drawn) (ch := [it]) (fun b hb => ?_) (fun b o _ _ hc e _ => k b o (fun z => hc (by simp [z])) e) (fun b o _ _ hc e _ => ⟨o.slots, k b o (fun z => hc (by simp [z])) e⟩) (fun _ _ _ _ n => n)
    (fun b o hc e => ⟨o, k b o (fun z => hc (by simp [z])) e⟩) (fun _ _ e => e) (fun _ _ _ e => e) (fun b ps e => ⟨#[], by rw [e]; simp⟩) (fun m hm => ?_) (fun b u e => ?_) I.bare
  · have e : b = it := by simpa using hb
    subst e
    exact ⟨h1, hL, h2, h3⟩
  · obtain ⟨o, es, ep, ho, r⟩ := hm
    exact ⟨o, es, ep, k _ o (Ne.symm hL) ho, r⟩
  · refine (I.hok b u e).stay (fun c v hc q => k c v ?_ q) (fun _ q => q) fun _ _ q => q
    rcases hc with z | z
    · rw [z]; exact nit b u e
    · exact nit c _ z
theorem Inv.tok (I : Inv X pins σ H s) (t : Nat) : Inv X pins σ H { s with toks := t } := I.un (h' := s.heap) (t' := t) Un.refl I.hok
/-- all objects kept -/
theorem Inv.kept {t' : Nat} (I : Inv X pins σ H s) (k : ∀ b u, s.heap.get? b = some u → h'.get? b = some u) : Inv X pins σ H { s with heap := h', toks := t' } := I.un (Un.kept k) (I.hok.kept k)
/-- a new object laid and tracked -/
theorem Inv.laid {a : Addr} {o : HO} {t' : Nat} (I : Inv X pins σ H s) (k : ∀ b u, s.heap.get? b = some u → h'.get? b = some u) (hp : s.heap.objs.size ≤ a) (new : ObjOk X.prog X.w (upd H a o) h' a o) :
    Inv X pins σ (upd H a o) { s with heap := h', toks := t' } := I.un (Un.laid k hp (I.hok.fresh hp)) (I.hok.laid k hp new)
/-- an object written -/
theorem Inv.write {x e : Addr} {o : HO} {t' : Nat} (I : Inv X pins σ H s) (mu : Mut (H x)) (he : e = x ∨ H e = some (.own x)) (k : ∀ b u, b ≠ e → s.heap.get? b = some u → h'.get? b = some u) (heo : ∃ u, h'.get? e = some u)
    (new : ObjOk X.prog X.w (upd H x o) h' x o) : Inv X pins σ (upd H x o) { s with heap := h', toks := t' } := I.un (Un.write mu he k heo) (I.hok.write mu he k heo new)
/-- forgetting slots, pins -/
theorem Inv.weak {σ' : List (Option V)} (I : Inv X pins σ H s) (hl : σ'.length = σ.length) (w : ∀ (i : Nat) v, σ'[i]? = some (some v) → σ[i]? = some (some v)) : Inv X pins σ' H s :=
  ⟨I.ok, I.os, I.bare, I.base, let ⟨m, hn, hl'⟩ := I.loc; ⟨m, hn, fun i x v e1 e2 e3 => hl' i x v e1 (w i v e2) e3⟩, I.cell, I.free, I.freeC, I.pin, I.hok, hl.trans I.len⟩
theorem Inv.pins_of {pins' : List (Addr × Obj)} (I : Inv X pins σ H s) (h : ∀ p ∈ pins', s.heap.get? p.1 = some p.2 ∧ H p.1 = none ∧ p.1 ≠ X.env.locals ∧ p.1 ∉ X.fs ∧ ∀ v, p.2.data ≠ .cell v) : Inv X pins' σ H s :=
  ⟨I.ok, I.os, I.bare, I.base, I.loc, I.cell, I.free, I.freeC, fun p hp => (List.mem_append.mp hp).elim (fun z => I.pin p (List.mem_append_left _ z)) (h p), I.hok, I.len⟩

theorem nodup_ix {N : List Str} (hN : N.Nodup) {i j : Nat} {x : Str} (a : N[i]? = some x) (b : N[j]? = some x) : i = j := by
  obtain ⟨h1, e1⟩ := List.getElem?_eq_some_iff.mp a
  obtain ⟨h2, e2⟩ := List.getElem?_eq_some_iff.mp b
  exact (List.getElem_inj hN).mp (e1.trans e2.symm)

/-- a name is stored; what changed -/
theorem store_ok2 {M : Model} {A : Around} {E : Value → Shared → Prop} {i : Nat} {x : Str} {v : V} {u : Value} {Q : Unit → Shared → Prop} (I : Inv X pins σ H s) (hN : X.N.Nodup) (hi : X.N[i]? = some x) (hx : Loc X.env.scope x) (r : RelV v u)
    (h : ∀ s', Inv X pins (σ.set i (some v)) H s' → (∃ a, Heap.SameBut a s.heap s'.heap ∧ (a = X.env.locals ∨ X.env.cells.lookup x = some a)) → Q () s') (hf : X.fn x = true ∨ X.env.scope.names.lookup x = some .local := by first | exact .inl rfl | exact .inr rfl | assumption) : wpAny M A (storeName X.env x u) Q E s := by
  obtain ⟨m, hn, hl⟩ := id I.loc
  have hcls : (X.env.scope.kind == .class || (X.env.scope.kind == .module && X.env.locals != X.env.globals)) = false := by rw [I.ok.kind]; rfl
  have hiσ : i < σ.length := by rw [I.len]; exact (List.getElem?_eq_some_iff.mp hi).1
  have cne := I.cne
  have tracked : ∀ {a : Addr} {h' : Heap}, (∃ o, s.heap.get? a = some o ∧ H a = none) → Heap.SameBut a s.heap h' → HOk X.prog X.w H h' := fun {a h'} ha hs b ob e => by
    obtain ⟨_, _, hfree⟩ := ha
    refine (I.hok b ob e).stay (fun c w' hc q => (hs.2 c ?_).trans q) (fun _ q => q) fun _ _ q => q
    rintro rfl
    rcases hc with rfl | hc
    · rw [hfree] at e; cases e
    · rw [hfree] at hc; cases hc
  rcases hx with hk | hk
  · refine wpAny_storeName_local hk hn (fun h' hn' hs => ?_) hcls
    obtain ⟨oL, _, _, hoL, _⟩ := id hn
    refine h _ ⟨I.ok, I.os, I.bare, ⟨fun b o e n hb hx => ?_, fun b o e n hb hx => ?_, I.base.free, fun b o e hx => ?_, I.base.tups, I.base.frzs, I.base.tbls⟩, ⟨_, hn', fun j y v' e1 e2 e3 => ?_⟩, fun y c e => ?_, I.free, I.freeC, fun p hp => ?_, tracked ⟨oL, hoL, I.free⟩ hs, by simpa using I.len⟩ ⟨_, hs, .inl rfl⟩
    · exact (hs.2 b (Nat.ne_of_lt (Nat.lt_of_lt_of_le (Heap.lt_size e) I.ok.above))).trans (I.base.keep b o e n hb hx)
    · obtain ⟨sl, e1⟩ := I.base.slot b o e n hb hx
      exact ⟨sl, (hs.2 b (Nat.ne_of_lt (Nat.lt_of_lt_of_le (Heap.lt_size e) I.ok.above))).trans e1⟩
    · obtain ⟨o', e1⟩ := I.base.there b o e hx
      exact ⟨o', (hs.2 b (Nat.ne_of_lt (Nat.lt_of_lt_of_le (Heap.lt_size e) I.ok.above))).trans e1⟩
    · by_cases hj : j = i
      · subst hj
        rw [hi] at e1; cases e1
        rw [List.getElem?_set_self hiσ] at e2
        cases e2
        exact ⟨u, r, .inl ⟨hk, by simp⟩⟩
      · rw [List.getElem?_set_ne (Ne.symm hj)] at e2
        obtain ⟨u', r', q⟩ := hl j y v' e1 e2 e3
        refine ⟨u', r', ?_⟩
        rcases q with ⟨k, e⟩ | ⟨k, c, e, z⟩
        · refine .inl ⟨k, ?_⟩
          have : y ≠ x := fun e => hj (nodup_ix hN e1 (e ▸ hi))
          simp [this, e]
        · exact .inr ⟨k, c, e, z.sameBut hs (cne y c e)⟩
    · obtain ⟨w', z⟩ := I.cell y c e
      exact ⟨w', z.sameBut hs (cne y c e)⟩
    · obtain ⟨e, n, ne, nf, d⟩ := I.pin p hp
      exact ⟨(hs.2 p.1 ne).trans e, n, ne, nf, d⟩
  · have hfn : X.fn x = true := by
      rcases hf with z | z
      · exact z
      · rw [z] at hk; cases hk
    obtain ⟨c, hc⟩ := I.ok.has x (.inl hk)
    obtain ⟨w', z⟩ := I.cell x c hc
    refine wpAny_storeName_cell I.ok.kind hk hc z (fun h' hc' hs => ?_)
    obtain ⟨oc, hoc, hocd⟩ := id z
    refine h { s with heap := h' } ⟨I.ok, I.os, I.bare, ⟨fun b o e n hb hx => ?_, fun b o e n hb hx => ?_, I.base.free, fun b o e hx => ?_, I.base.tups, I.base.frzs, I.base.tbls⟩, ⟨m, hn.sameBut hs (Ne.symm (cne x c hc)), fun j y v' e1 e2 e3 => ?_⟩, fun y c' e => ?_, I.free, I.freeC, fun p hp => ?_, tracked ⟨oc, hoc, I.freeC x c hc⟩ hs, by simpa using I.len⟩ ⟨c, hs, .inr hc⟩
    · exact (hs.2 b (Nat.ne_of_lt (Nat.lt_of_lt_of_le (Heap.lt_size e) (I.ok.cab x c hfn hc)))).trans (I.base.keep b o e n hb hx)
    · obtain ⟨sl, e1⟩ := I.base.slot b o e n hb hx
      exact ⟨sl, (hs.2 b (Nat.ne_of_lt (Nat.lt_of_lt_of_le (Heap.lt_size e) (I.ok.cab x c hfn hc)))).trans e1⟩
    · obtain ⟨o', e1⟩ := I.base.there b o e hx
      exact ⟨o', (hs.2 b (Nat.ne_of_lt (Nat.lt_of_lt_of_le (Heap.lt_size e) (I.ok.cab x c hfn hc)))).trans e1⟩
    · by_cases hj : j = i
      · subst hj
        rw [hi] at e1; cases e1
        rw [List.getElem?_set_self hiσ] at e2
        cases e2
        exact ⟨u, r, .inr ⟨.inl hk, c, hc, hc'⟩⟩
      · rw [List.getElem?_set_ne (Ne.symm hj)] at e2
        obtain ⟨u', r', q⟩ := hl j y v' e1 e2 e3
        refine ⟨u', r', ?_⟩
        rcases q with q | ⟨k, c', e, z'⟩
        · exact .inl q
        · refine .inr ⟨k, c', e, z'.sameBut hs ?_⟩
          rintro rfl
          exact hj (nodup_ix hN e1 (I.ok.inj _ _ _ e hc ▸ hi))
    · by_cases hcc : c' = c
      · subst hcc; exact ⟨_, hc'⟩
      · obtain ⟨w2, z2⟩ := I.cell y c' e
        exact ⟨w2, z2.sameBut hs hcc⟩
    · obtain ⟨e, n, ne, nf, d⟩ := I.pin p hp
      refine ⟨(hs.2 p.1 ?_).trans e, n, ne, nf, d⟩
      intro q
      rw [q, hoc] at e
      have q' : oc = p.2 := Option.some.inj e
      exact d w' (by rw [← q']; exact hocd)
theorem store_ok {M : Model} {A : Around} {E : Value → Shared → Prop} {i : Nat} {x : Str} {v : V} {u : Value} {Q : Unit → Shared → Prop} (I : Inv X pins σ H s) (hN : X.N.Nodup) (hi : X.N[i]? = some x) (hx : Loc X.env.scope x) (r : RelV v u)
    (h : ∀ s', Inv X pins (σ.set i (some v)) H s' → Q () s') (hf : X.fn x = true ∨ X.env.scope.names.lookup x = some .local := by first | exact .inl rfl | exact .inr rfl | assumption) : wpAny M A (storeName X.env x u) Q E s :=
  store_ok2 I hN hi hx r (fun s' I' _ => h s' I') hf
/-- behind a call or a block, the state as it is -/
theorem Inv.call' {s' : Shared} {ch : List Addr} (I : Inv X pins σ H s) (ho : s'.os = s.os) (u : Un (frs X.stack) ch H H' s.heap s'.heap) (hok : HOk X.prog X.w H' s'.heap) (hg : AllBare s'.gens)
    (hch : ∀ b ∈ ch, (b ∈ X.ex ∨ X.s₀.heap.objs.size ≤ b) ∧ b ≠ X.env.locals ∧ (∀ x c, X.env.cells.lookup x = some c → c ≠ b) ∧ ∀ p ∈ X.pn ++ pins, p.1 ≠ b) : Inv X pins σ H' s' := by
  obtain ⟨h', g', d', t', o'⟩ := s'
  have e : o' = s.os := ho
  subst e
  exact I.call (g' := g') (t' := t') (d' := d') u hok hg hch
end

/-! ### the judgements -/
/-- an exception: its class, its own dict's address (where it has one), the abstract heap behind it -/
abbrev XK := Value → Option Addr → Hp → Prop
abbrev St := List (Option V)
abbrev VK := V → Hp → Prop
/-- an expression's reading; a test's; an argument list's -/
abbrev TE := St → Hp → VK → Prop
abbrev TT := St → Hp → (Bool → Hp → Prop) → Prop
abbrev TA := St → Hp → (List V → Hp → Prop) → Prop
/-- what is wanted behind a statement -/
structure Ends where
  nx : St → Hp → Prop
  rt : VK
  bk : St → Hp → Prop := fun _ _ => False
  ct : St → Hp → Prop := fun _ _ => False
abbrev TS := Ends → St → Hp → Prop

def EP (X : Cx) (pins : List (Addr × Obj)) (σ : St) (Q : VK) (u : Value) (s' : Shared) : Prop := ∃ v H', Inv X pins σ H' s' ∧ RelV v u ∧ Q v H'
def TP (X : Cx) (pins : List (Addr × Obj)) (σ : St) (Q : Bool → Hp → Prop) (b : Bool) (s' : Shared) : Prop := ∃ H', Inv X pins σ H' s' ∧ Q b H'
def AP (X : Cx) (pins : List (Addr × Obj)) (σ : St) (Q : List V → Hp → Prop) (us : List Value) (s' : Shared) : Prop := ∃ vs H', Inv X pins σ H' s' ∧ Vals vs us ∧ Q vs H'
def SP (X : Cx) (pins : List (Addr × Obj)) (D : Ends) (f : Flow) (s' : Shared) : Prop :=
  match f with
  | .next => ∃ σ' H', Inv X pins σ' H' s' ∧ D.nx σ' H'
  | .brk => ∃ σ' H', Inv X pins σ' H' s' ∧ D.bk σ' H'
  | .cont => ∃ σ' H', Inv X pins σ' H' s' ∧ D.ct σ' H'
  | .ret u => ∃ v σ' H', Inv X pins σ' H' s' ∧ RelV v u ∧ D.rt v H'

def PE (X : Cx) (e : Expr) (t : TE) : Prop :=
  ∀ (pins : List (Addr × Obj)) (s : Shared) (σ : St) (H : Hp) (Q : VK), Inv X pins σ H s → t σ H Q → wpAny (model X.prog X.w) X.A (eval e X.env) (EP X pins σ Q) X.xe s
def PT (X : Cx) (e : Expr) (t : TT) : Prop :=
  ∀ (pins : List (Addr × Obj)) (s : Shared) (σ : St) (H : Hp) (Q : Bool → Hp → Prop), Inv X pins σ H s → t σ H Q → wpAny (model X.prog X.w) X.A (isTrue e X.env (eval e X.env)) (TP X pins σ Q) X.xe s
/-- a test whatever its 'whole' is (and, or) -/
def PW (X : Cx) (e : Expr) (t : TT) : Prop :=
  ∀ (whole : Sem Value) (pins : List (Addr × Obj)) (s : Shared) (σ : St) (H : Hp) (Q : Bool → Hp → Prop), Inv X pins σ H s → t σ H Q → wpAny (model X.prog X.w) X.A (isTrue e X.env whole) (TP X pins σ Q) X.xe s
theorem PW.pt {X : Cx} {e : Expr} {t : TT} (h : PW X e t) : PT X e t := h _
/-- an argument list (no star), from the left -/
def PA (X : Cx) (es : List Expr) (t : TA) : Prop :=
  ∀ (pos : Pos) (pins : List (Addr × Obj)) (s : Shared) (σ : St) (H : Hp) (Q : List V → Hp → Prop), Inv X pins σ H s → t σ H Q → wpAny (model X.prog X.w) X.A (spliced (backTo pos (starEach es X.env))) (AP X pins σ Q) X.xe s
def PS (X : Cx) (st : Stmt) (t : TS) : Prop :=
  ∀ (pins : List (Addr × Obj)) (s : Shared) (σ : St) (H : Hp) (D : Ends), Inv X pins σ H s → t D σ H → wpAny (model X.prog X.w) X.A (exec st X.env) (SP X pins D) X.xe s
def PSs (X : Cx) (st : List Stmt) (t : TS) : Prop :=
  ∀ (pins : List (Addr × Obj)) (s : Shared) (σ : St) (H : Hp) (D : Ends), Inv X pins σ H s → t D σ H → wpAny (model X.prog X.w) X.A (execs st X.env) (SP X pins D) X.xe s
/-- weaken the end -/
theorem thn {α : Type} {t : Sem α} {Q Q' : α → Shared → Prop} {M : Model} {A : Around} {E : Value → Shared → Prop} {s : Shared} (h : wpAny M A t Q E s) (hQ : ∀ a s, Q a s → Q' a s) : wpAny M A t Q' E s := wpAny_mono h hQ fun _ _ x => x
end L2

namespace L2
open PySem PySem.Spec PyProof.Rows
section
variable {X : Cx}

/-! ### names and constants -/
def tVar (i : Nat) : TE := fun σ H Q => ∃ v, σ[i]? = some (some v) ∧ Q v H
def tC (v : V) : TE := fun _ H Q => Q v H
theorem pe_var {i : Nat} {x : Str} {pos : Pos} (hN : X.N[i]? = some x) (hv : Vis X.env.scope x) (hd : (x == ("__debug__" : Str)) = false := by decide) (hcd : (x == ("__classdict__" : Str)) = false := by decide) : PE X (.Name x pos) (tVar i) := by
  intro pins s σ H Q I h
  obtain ⟨v, e, h⟩ := h
  obtain ⟨m, hn, hl⟩ := I.loc
  obtain ⟨u, r, l⟩ := hl i x v hN e hv
  have fin : EP X pins σ Q u s := ⟨v, H, I, r, h⟩
  rcases l with ⟨hk, hm⟩ | ⟨hk, c, hc, hcell⟩
  · exact wpAny_Name (wpAny_loadName_local I.ok.kind hk hn hm fin) hd
  · rcases hk with hk | hk
    · exact wpAny_Name (wpAny_loadName_cell I.ok.kind hk hc hcell fin) hd
    · exact wpAny_Name (wpAny_loadName_free I.ok.kind hk hc hcell fin hcd) hd
theorem pe_int {i j pos} : PE X (.Constant (.int i) j pos) (tC (.int i)) := fun _ _ _ H _ I h => wpAny_Constant_int ⟨.int i, H, I.tok _, ⟨_, rfl⟩, h⟩
theorem pe_bl {b j pos} : PE X (.Constant (.bool b) j pos) (tC (.bl b)) := fun _ _ _ H _ I h => Constant_bool ⟨.bl b, H, I, rfl, h⟩
theorem pe_non {j pos} : PE X (.Constant .none j pos) (tC .non) := fun _ _ _ H _ I h => Constant_none ⟨.non, H, I, rfl, h⟩
theorem pe_str {x j pos} : PE X (.Constant (.str x) j pos) (tC (.str x)) := fun _ _ _ H _ I h => Calls.Constant_str ⟨.str x, H, I.tok _, ⟨_, rfl⟩, h⟩

/-- a global name of the def -/
def Gl (X : Cx) (x : Str) : Prop := X.env.kindOf x = some .globalImplicit
theorem ld_glob {E : Value → Shared → Prop} {pins : List (Addr × Obj)} {s : Shared} {σ : St} {H : Hp} {x : Str} {u : Value} {pos : Pos} {Q : Value → Shared → Prop} (I : Inv X pins σ H s) (hg : Gl X x) (hm : X.mg x = some u) (h : Q u s)
    (hd : (x == ("__debug__" : Str)) = false := by decide) : wpAny (model X.prog X.w) X.A (eval (.Name x pos) X.env) Q E s :=
  Calls.Name_function_global I.ok.kind hg (Calls.loadGlobal_global (by rw [I.ok.glob]; exact I.mod.glob.keeps I.bk) hm h) hd
theorem ld_blt {E : Value → Shared → Prop} {pins : List (Addr × Obj)} {s : Shared} {σ : St} {H : Hp} {x : Str} {u : Value} {pos : Pos} {Q : Value → Shared → Prop} (I : Inv X pins σ H s) (hg : Gl X x) (hm : X.mg x = none) (hv : bootBuiltins x = some u) (h : Q u s)
    (hn : x ≠ "__name__" := by decide) (hd : (x == ("__debug__" : Str)) = false := by decide) : wpAny (model X.prog X.w) X.A (eval (.Name x pos) X.env) Q E s := by
  obtain ⟨mb, h1, h2⟩ := I.mod.blt
  exact Calls.Name_function_global I.ok.kind hg (Calls.loadGlobal_builtin (by rw [I.ok.glob]; exact I.mod.glob.keeps I.bk) hm (by rw [I.ok.blt]; exact h1.keeps I.bk) ((h2 x hn).trans hv) h) hd
/-- a module's constant, a class, a function, as a value -/
theorem pe_glob {x : Str} {v : V} {u : Value} {pos : Pos} (hg : Gl X x) (hm : X.mg x = some u) (r : RelV v u) (hd : (x == ("__debug__" : Str)) = false := by decide) : PE X (.Name x pos) (tC v) :=
  fun _ _ _ H _ I h => ld_glob I hg hm ⟨v, H, I, r, h⟩ hd
theorem pe_bltn {x : Str} {v : V} {u : Value} {pos : Pos} (hg : Gl X x) (hm : X.mg x = none) (hv : bootBuiltins x = some u) (r : RelV v u) (hn : x ≠ "__name__" := by decide) (hd : (x == ("__debug__" : Str)) = false := by decide) : PE X (.Name x pos) (tC v) :=
  fun _ _ _ H _ I h => ld_blt I hg hm hv ⟨v, H, I, r, h⟩ hn hd

/-! ### arithmetic -/
variable {a b : Expr} {ta tb : TE} {pos : Pos}
/-! ### comparisons -/
/-- a comparison as a value, as a test -/
def tB (t : TE) : TT := fun σ H Q => t σ H fun x H1 => ∃ c, x = .bl c ∧ Q c H1
/-- an expression whose value is a bool, as a test -/
theorem pt_val {e : Expr} {t : TE} (h : PE X e t) (he : ∀ whole, isTrue e X.env whole = (do let v ← whole; standAt e.pos; holding [v] (truthy v)) := by intro _; rfl) : PT X e (tB t) := by
  intro pins s σ H Q I hw
  refine isTrue_plain (thn (h pins s σ H _ I hw) fun v s1 ⟨x, H1, I1, r1, q1⟩ => ?_) (he _)
  obtain ⟨d, rfl, q⟩ := q1
  cases r1
  exact wpAny_truthy_bool ⟨H1, I1, q⟩

/-! ### and, or, not -/
variable {tA tB' : TT} {rest : List Expr}
def tAnd (t u : TT) : TT := fun σ H Q => t σ H fun c H1 => if c = true then u σ H1 Q else Q false H1
def tOr (t u : TT) : TT := fun σ H Q => t σ H fun c H1 => if c = true then Q true H1 else u σ H1 Q
def tNot (t : TT) : TT := fun σ H Q => t σ H fun c H1 => Q (!c) H1
theorem pw_and1 (ha : PT X a tA) : PW X (.BoolOp .And [a] pos) tA := by
  intro wh pins s σ H Q I h
  refine isTrue_and (thn (ha pins s σ H Q I h) fun c s1 e => ?_)
  cases c with
  | true => exact isTrue_and_nil e
  | false => exact e
theorem pw_or1 (ha : PT X a tA) : PW X (.BoolOp .Or [a] pos) tA := by
  intro wh pins s σ H Q I h
  refine isTrue_or (thn (ha pins s σ H Q I h) fun c s1 e => ?_)
  cases c with
  | false => exact isTrue_or_nil e
  | true => exact e
theorem pw_and (ha : PT X a tA) (hb : PW X (.BoolOp .And (b :: rest) pos) tB') : PW X (.BoolOp .And (a :: b :: rest) pos) (tAnd tA tB') := by
  intro wh pins s σ H Q I h
  refine isTrue_and (thn (ha pins s σ H _ I h) fun c s1 ⟨H1, I1, q1⟩ => ?_)
  cases c with
  | true => exact hb wh pins s1 σ H1 Q I1 q1
  | false => exact ⟨H1, I1, q1⟩
theorem pw_or (ha : PT X a tA) (hb : PW X (.BoolOp .Or (b :: rest) pos) tB') : PW X (.BoolOp .Or (a :: b :: rest) pos) (tOr tA tB') := by
  intro wh pins s σ H Q I h
  refine isTrue_or (thn (ha pins s σ H _ I h) fun c s1 ⟨H1, I1, q1⟩ => ?_)
  cases c with
  | true => exact ⟨H1, I1, q1⟩
  | false => exact hb wh pins s1 σ H1 Q I1 q1
theorem pt_not (ha : PT X a tA) : PT X (.UnaryOp .Not a pos) (tNot tA) := by
  intro pins s σ H Q I h
  exact isTrue_not (ha pins s σ H (fun c H1 => Q (!c) H1) I h)
/-- .. as values (bools) -/
def tAndV (ta tb : TE) : TE := fun σ H Q => ta σ H fun x H1 => ∃ c, x = .bl c ∧ if c = true then tb σ H1 Q else Q (.bl false) H1
def tNotV (ta : TE) : TE := fun σ H Q => ta σ H fun x H1 => ∃ c, x = .bl c ∧ Q (.bl (!c)) H1
theorem pe_one {op} {t : TE} (h : PE X a t) : PE X (.BoolOp op [a] pos) t := fun pins s σ H Q I hw => BoolOp_one (h pins s σ H Q I hw)
theorem pe_and (ha : PE X a ta) (hb : PE X (.BoolOp .And (b :: rest) pos) tb) : PE X (.BoolOp .And (a :: b :: rest) pos) (tAndV ta tb) := by
  intro pins s σ H Q I h
  refine BoolOp_and (thn (ha pins s σ H _ I h) fun v s1 ⟨x, H1, I1, r1, q1⟩ => ?_)
  obtain ⟨c, rfl, q1⟩ := q1
  cases r1
  refine wpAny_truthy_bool ?_
  cases c with
  | true => exact hb pins s1 σ H1 Q I1 q1
  | false => exact ⟨.bl false, H1, I1, rfl, q1⟩
theorem pe_not (ha : PE X a ta) : PE X (.UnaryOp .Not a pos) (tNotV ta) := by
  intro pins s σ H Q I h
  refine UnaryOp_ (thn (ha pins s σ H _ I h) fun v s1 ⟨x, H1, I1, r1, q1⟩ => ?_)
  obtain ⟨c, rfl, q1⟩ := q1
  cases r1
  exact not_of (wpAny_truthy_bool ⟨.bl (!c), H1, I1, rfl, q1⟩)
/-- a if t else b -/
def tIf (t : TT) (ta tb : TE) : TE := fun σ H Q => t σ H fun c H1 => if c = true then ta σ H1 Q else tb σ H1 Q
theorem pe_ifExp {c : Expr} (hc : PT X c tA) (ha : PE X a ta) (hb : PE X b tb) : PE X (.IfExp c a b pos) (tIf tA ta tb) := by
  intro pins s σ H Q I h
  refine wpAny_IfExp (thn (hc pins s σ H _ I h) fun d s1 ⟨H1, I1, q1⟩ => ?_)
  cases d with
  | true => exact ha pins s1 σ H1 Q I1 q1
  | false => exact hb pins s1 σ H1 Q I1 q1
end
end L2

namespace L2
open PySem PySem.Spec PyProof.Rows

/-! ### a list, a tuple that is read: tracked, frozen, or an object of the module -/
def SqL (K : PySem.W.Frag) (H : Hp) (a : Addr) (xs : List V) : Prop :=
  Rd H a (.lst xs) ∨
    ∃ (o : Obj) (its : Array Value) (n : Nat), K.lookup a = some o ∧ o.cls = .type "list" ∧ o.dict = none ∧ o.data = .seq its n ∧ its.size ≤ sizeLine ∧ Vals xs its.toList
def SqT (K : PySem.W.Frag) (H : Hp) (a : Addr) (xs : List V) : Prop :=
  Rd H a (.tup xs) ∨
    ∃ (o : Obj) (its : Array Value) (n : Nat), K.lookup a = some o ∧ o.cls = .type "tuple" ∧ o.data = .seq its n ∧ its.size ≤ sizeLine ∧ Vals xs its.toList
def absV : Value → Option V
  | .none => some .non
  | .bool b => some (.bl b)
  | .int i _ => some (.int i)
  | .str x _ => some (.str x)
  | .bytes b _ => some (.byt b)
  | .float b _ => some (.flt b)
  | .ref a => some (.ref a)
  | .type n => some (.ty n)
  | _ => none
theorem RelV.abs {x : V} {u : Value} (r : RelV x u) : absV u = some x := by
  cases x with
  | non => cases r; rfl
  | bl _ => cases r; rfl
  | int _ => obtain ⟨t, rfl⟩ := r; rfl
  | str _ => obtain ⟨t, rfl⟩ := r; rfl
  | byt _ => obtain ⟨t, rfl⟩ := r; rfl
  | flt _ => obtain ⟨t, rfl⟩ := r; rfl
  | ref _ => cases r; rfl
  | ty _ => cases r; rfl
theorem RelV.inj {x y : V} {u : Value} (r : RelV x u) (q : RelV y u) : x = y := Option.some.inj (r.abs.symm.trans q.abs)
theorem Vals.inj : ∀ {xs ys : List V} {us : List Value}, Vals xs us → Vals ys us → xs = ys
  | _, _, _, .nil, .nil => rfl
  | _, _, _, .cons r t, .cons r' t' => by rw [r.inj r', Vals.inj t t']
section
variable {X : Cx} {pins : List (Addr × Obj)} {σ : St} {H : Hp} {s : Shared} {a : Addr} {xs ys : List V}
theorem SqL.of {K : PySem.W.Frag} (h : H a = some (.lst xs)) : SqL K H a xs := .inl (.inl h)
theorem SqT.of {K : PySem.W.Frag} (h : H a = some (.tup xs)) : SqT K H a xs := .inl (.inl h)
theorem Inv.list (I : Inv X pins σ H s) (h : SqL X.K H a xs) : ∃ its : List Value, Vals xs its ∧ PlainL s.heap a its.toArray ∧ xs.length ≤ sizeLine := by
  rcases h with h | ⟨o, its, n, hk, hc, hd, hs, hz, r⟩
  · obtain ⟨z, its, n, r, e⟩ := h.ok I.hok
    exact ⟨its, r, ⟨_, n, e, rfl, rfl, rfl⟩, z⟩
  · refine ⟨its.toList, r, ⟨o, n, I.kIn a o hk, hc, hd, by simpa using hs⟩, ?_⟩
    have e := r.length
    simp only [Array.length_toList] at e
    omega
theorem Inv.tuple (I : Inv X pins σ H s) (h : SqT X.K H a xs) : ∃ its : List Value, Vals xs its ∧ IsTup s.heap a its.toArray ∧ xs.length ≤ sizeLine := by
  rcases h with h | ⟨o, its, n, hk, hc, hs, hz, r⟩
  · obtain ⟨z, its, r, p⟩ := h.ok I.hok
    exact ⟨its, r, p, z⟩
  · refine ⟨its.toList, r, ⟨o, I.kIn a o hk, hc, n, by simpa using hs⟩, ?_⟩
    have e := r.length
    simp only [Array.length_toList] at e
    omega
theorem Inv.list_inj (I : Inv X pins σ H s) (h : SqL X.K H a xs) (h' : SqL X.K H a ys) : xs = ys := by
  obtain ⟨its, r, ⟨o, n, e, _, _, d⟩, _⟩ := I.list h
  obtain ⟨its', r', ⟨o', n', e', _, _, d'⟩, _⟩ := I.list h'
  rw [e] at e'; cases e'
  rw [d] at d'
  injection d' with d1 _
  have : its = its' := by simpa using congrArg Array.toList d1
  subst this
  exact r.inj r'
theorem Inv.tuple_inj (I : Inv X pins σ H s) (h : SqT X.K H a xs) (h' : SqT X.K H a ys) : xs = ys := by
  obtain ⟨its, r, ⟨o, e, _, n, d⟩, _⟩ := I.tuple h
  obtain ⟨its', r', ⟨o', e', _, n', d'⟩, _⟩ := I.tuple h'
  rw [e] at e'; cases e'
  rw [d] at d'
  injection d' with d1 _
  have : its = its' := by simpa using congrArg Array.toList d1
  subst this
  exact r.inj r'
end

/-! ### another wish about exceptions -/
abbrev Cx.wish (X : Cx) (E : Value → Shared → Prop) : Cx := { X with xe := E }
/-- no exception leaves -/
abbrev Cx.nox (X : Cx) : Cx := X.wish fun _ _ => False
theorem Cx.Ok.wish {X : Cx} (ok : X.Ok) (E : Value → Shared → Prop) : (X.wish E).Ok :=
  ⟨ok.mod, ok.kind, ok.glob, ok.blt, ok.above, ok.inj, ok.has, ok.cab, ok.hd, ok.frames, ok.stk, ok.exf, ok.bs, ok.bsz, ok.noex, ok.exfs, ok.funs, ok.frf⟩
theorem Cx.Ok.unwish {X : Cx} {E : Value → Shared → Prop} (ok : (X.wish E).Ok) : X.Ok :=
  ⟨ok.mod, ok.kind, ok.glob, ok.blt, ok.above, ok.inj, ok.has, ok.cab, ok.hd, ok.frames, ok.stk, ok.exf, ok.bs, ok.bsz, ok.noex, ok.exfs, ok.funs, ok.frf⟩
section
variable {X : Cx} {pins : List (Addr × Obj)} {σ : St} {H : Hp} {s : Shared} {E : Value → Shared → Prop}
theorem Inv.wish (I : Inv X pins σ H s) (E : Value → Shared → Prop) : Inv (X.wish E) pins σ H s := ⟨I.ok.wish E, I.os, I.bare, I.base, I.loc, I.cell, I.free, I.freeC, I.pin, I.hok, I.len⟩
theorem Inv.unwish (I : Inv (X.wish E) pins σ H s) : Inv X pins σ H s := ⟨I.ok.unwish, I.os, I.bare, I.base, I.loc, I.cell, I.free, I.freeC, I.pin, I.hok, I.len⟩
theorem SP.unwish {D : Ends} {f : Flow} {s' : Shared} (h : SP (X.wish E) pins D f s') : SP X pins D f s' := by
  cases f with
  | next => obtain ⟨σ', H', I, q⟩ := h; exact ⟨σ', H', I.unwish, q⟩
  | brk => obtain ⟨σ', H', I, q⟩ := h; exact ⟨σ', H', I.unwish, q⟩
  | cont => obtain ⟨σ', H', I, q⟩ := h; exact ⟨σ', H', I.unwish, q⟩
  | ret u => obtain ⟨v, σ', H', I, r, q⟩ := h; exact ⟨v, σ', H', I.unwish, r, q⟩
theorem PSs.nox {st : List Stmt} {t : TS} (h : PSs X.nox st t) : PSs X st t := fun pins s σ H D I hw =>
  wpAny_mono (h pins s σ H D (I.wish _) hw) (fun _ _ q => q.unwish) fun _ _ z => False.elim z
end

/-! ### blocks and small statements -/
section
variable {X : Cx} {st : Stmt} {rest : List Stmt} {t u : TS} {e : Expr} {te : TE} {pos : Pos}
def tNext : TS := fun D σ H => D.nx σ H
def tSeq (t u : TS) : TS := fun D σ H => t { D with nx := u D } σ H
theorem pss_nil : PSs X [] tNext := fun _ _ σ H _ I h => wpAny_execs_nil ⟨σ, H, I, h⟩
theorem pss_cons (h1 : PS X st t) (h2 : PSs X rest u) : PSs X (st :: rest) (tSeq t u) := by
  intro pins s σ H D I h
  refine wpAny_execs_cons (thn (h1 pins s σ H { D with nx := u D } I h) fun f s1 q => ?_)
  cases f with
  | next =>
    obtain ⟨σ', H', I', q⟩ := q
    exact h2 pins s1 σ' H' D I' q
  | ret v => exact q
  | brk => exact q
  | cont => exact q
theorem pss_one (h1 : PS X st t) : PSs X [st] t := by
  intro pins s σ H D I h
  refine wpAny_execs_cons (thn (h1 pins s σ H D I h) fun f s1 q => ?_)
  cases f with
  | next => exact wpAny_execs_nil q
  | ret v => exact q
  | brk => exact q
  | cont => exact q
/-- in a def's body nothing is shown -/
theorem Inv.quiet {pins : List (Addr × Obj)} {σ : St} {H : Hp} {s : Shared} (I : Inv X pins σ H s) : interactive X.env = false := by simp [interactive, I.ok.kind]
/-- an expression whose value is dropped -/
def tDrop (te : TE) : TS := fun D σ H => te σ H fun _ H1 => D.nx σ H1
theorem ps_expr (he : PE X e te) (hs : swapsWith e none pos.line X.env = pure false := by rfl) : PS X (.Expr e pos) (tDrop te) := by
  intro pins s σ H D I h
  exact wpAny_Expr_any (thn (he pins s σ H _ I h) fun v s1 ⟨x, H1, I1, r1, q1⟩ => ⟨σ, H1, I1, q1⟩) I.quiet hs
def tRet (te : TE) : TS := fun D σ H => te σ H D.rt
theorem ps_ret (he : PE X e te) : PS X (.Return (some e) pos) (tRet te) := by
  intro pins s σ H D I h
  exact wpAny_Return_some (thn (he pins s σ H _ I h) fun v s1 ⟨x, H1, I1, r1, q1⟩ => ⟨x, σ, H1, I1, r1, q1⟩)
def tIfS (c : TT) (t u : TS) : TS := fun D σ H => c σ H fun b H1 => if b = true then t D σ H1 else u D σ H1
theorem ps_if {c : Expr} {a b : List Stmt} {tc : TT} (hc : PT X c tc) (ha : PSs X a t) (hb : PSs X b u) : PS X (.If c a b pos) (tIfS tc t u) := by
  intro pins s σ H D I h
  refine wpAny_If (thn (hc pins s σ H _ I h) fun d s1 ⟨H1, I1, q1⟩ => ?_)
  cases d with
  | true => exact ha pins s1 σ H1 D I1 q1
  | false => exact hb pins s1 σ H1 D I1 q1
/-- code that the proof never comes to -/
def tNever : TS := fun _ _ _ => False
theorem ps_never : PS X st tNever := fun _ _ _ _ _ _ h => h.elim
end

/-! ### targets -/
abbrev TG := V → St → Hp → (St → Hp → Prop) → Prop
abbrev TGs := List V → St → Hp → (St → Hp → Prop) → Prop
def PG (X : Cx) (target : Expr) (t : TG) : Prop :=
  ∀ (pins : List (Addr × Obj)) (s : Shared) (σ : St) (H : Hp) (v : V) (u : Value) (Q : St → Hp → Prop), Inv X pins σ H s → RelV v u → t v σ H Q →
    wpAny (model X.prog X.w) X.A (assign target X.env u) (fun _ s' => ∃ σ' H', Inv X pins σ' H' s' ∧ Q σ' H') X.xe s
/-- several targets, one after another -/
def PGs (X : Cx) (ts : List Expr) (t : TGs) : Prop :=
  ∀ (pins : List (Addr × Obj)) (s : Shared) (σ : St) (H : Hp) (vs : List V) (us : List Value) (Q : St → Hp → Prop), Inv X pins σ H s → Vals vs us → t vs σ H Q →
    wpAny (model X.prog X.w) X.A (assignInOrder ((assignEach ts X.env).map (·.2)) us) (fun _ s' => ∃ σ' H', Inv X pins σ' H' s' ∧ Q σ' H') X.xe s
/-- o[i] = v, by values -/
abbrev TSet := V → V → V → Hp → (Hp → Prop) → Prop
def PSet (X : Cx) (t : TSet) : Prop :=
  ∀ (pins : List (Addr × Obj)) (s : Shared) (σ : St) (H : Hp) (o i v : V) (ov iv u : Value) (Q : Hp → Prop), Inv X pins σ H s → RelV o ov → RelV i iv → RelV v u → t o i v H Q →
    wpAny (model X.prog X.w) X.A (setItem ov iv u) (fun _ s' => ∃ H', Inv X pins σ H' s' ∧ Q H') X.xe s
section
variable {X : Cx} {pos : Pos}
def gName (i : Nat) : TG := fun v σ H Q => Q (σ.set i (some v)) H
theorem pg_name {i : Nat} {x : Str} (hN : X.N.Nodup) (hi : X.N[i]? = some x) (hx : Loc X.env.scope x) (hf : X.fn x = true ∨ X.env.scope.names.lookup x = some .local := by first | exact .inl rfl | exact .inr rfl | assumption) : PG X (.Name x pos) (gName i) := by
  intro pins s σ H v u Q I r h
  exact wpAny_assign_Name (store_ok I hN hi hx r (fun s' I' => ⟨_, H, I', h⟩) hf)
def gNil : TGs := fun vs σ H Q => vs = [] ∧ Q σ H
def gCons (t : TG) (u : TGs) : TGs := fun vs σ H Q => ∃ v r, vs = v :: r ∧ t v σ H fun σ' H' => u r σ' H' Q
theorem pgs_nil : PGs X [] gNil := by
  intro pins s σ H vs us Q I r h
  obtain ⟨e, h⟩ := h
  subst e
  cases r
  exact assignInOrder_nil ⟨σ, H, I, h⟩
theorem pgs_cons {e : Expr} {es : List Expr} {t : TG} {u : TGs} (h1 : PG X e t) (h2 : PGs X es u)
    (hs : (assignEach (e :: es) X.env).map (·.2) = assign e X.env :: (assignEach es X.env).map (·.2) := by rfl) : PGs X (e :: es) (gCons t u) := by
  intro pins s σ H vs us Q I r h
  obtain ⟨v, vr, e1, h⟩ := h
  subst e1
  cases r with
  | cons r rr =>
    rw [hs]
    refine assignInOrder_cons (thn (h1 pins s σ H _ _ _ I r h) fun _ s1 ⟨σ1, H1, I1, q1⟩ => ?_)
    exact h2 pins s1 σ1 H1 _ _ Q I1 rr q1
/-- (a, b, ..) = a tuple of that length -/
def gTup (K : PySem.W.Frag) (n : Nat) (t : TGs) : TG := fun v σ H Q => ∃ a xs, v = .ref a ∧ SqT K H a xs ∧ xs.length = n ∧ t xs σ H Q
theorem pg_tup {es : List Expr} {k : Nat} {t : TGs} {n : Nat} (hc : X.calm = true) (h : PGs X es t)
    (hn : (assignEach es X.env).length = n := by rfl) (hst : (assignEach es X.env).findIdx? (·.1) = none := by rfl) : PG X (.Tuple es k pos) (gTup X.K n t) := by
  intro pins s σ H v u Q I r hw
  obtain ⟨a, xs, e1, hq, hl, hw⟩ := hw
  subst e1
  cases r
  obtain ⟨its, rv, ht, hz⟩ := I.tuple hq
  refine assign_Tuple_tuple (I.ok.hd hc) ht (by simp [hn, ← hl, rv.length]) hst fun h' hx => ?_
  have I1 : Inv X pins σ H { s with heap := h' } := I.kept (t' := s.toks) fun b o e => hx b o (Nat.ne_of_lt (Heap.lt_size e)) e
  exact h pins _ σ H xs _ Q I1 (by simpa using rv) hw
/-- o[i] = .. -/
def gSub (to ti : TE) (t : TSet) : TG := fun v σ H Q => to σ H fun o H1 => ti σ H1 fun i H2 => t o i v H2 fun H3 => Q σ H3
theorem pg_sub {o i : Expr} {to ti : TE} {t : TSet} (ho : PE X o to) (hi : PE X i ti) (hs : PSet X t)
    (ha : ∀ v, assign (.Subscript o i pos) X.env v = (do
      let ov ← holding [v] (eval o X.env)
      let iv ← holding [v, ov] (eval i X.env)
      standAt pos
      holding [v, ov, iv] (setItem ov iv v)
      release [v, ov, iv] []) := by intro _; rfl) : PG X (.Subscript o i pos) (gSub to ti t) := by
  intro pins s σ H v u Q I r h
  rw [ha]
  refine wpAny_bind (wpAny_holding (thn (ho pins s σ H _ I h) fun ov s1 ⟨x, H1, I1, r1, q1⟩ => ?_))
  refine wpAny_bind (wpAny_holding (thn (hi pins s1 σ H1 _ I1 q1) fun iv s2 ⟨y, H2, I2, r2, q2⟩ => ?_))
  refine wpAny_bind (wpAny_standAt (wpAny_bind (wpAny_holding (thn (hs pins s2 σ H2 x y v ov iv u _ I2 r1 r2 r q2) fun _ s3 ⟨H3, I3, q3⟩ => ?_))))
  exact wpAny_release ⟨σ, H3, I3, q3⟩
/-- target = value -/
def tAsg (te : TE) (g : TG) : TS := fun D σ H => te σ H fun x H1 => g x σ H1 D.nx
theorem ps_asg {tg e : Expr} {te : TE} {g : TG} (he : PE X e te) (hg : PG X tg g) (hs : swapsWithSole [tg] e pos.line X.env = pure false := by rfl) (hw : swappedStores [tg] e X.env = pure none := by rfl)
    (h1 : (assignEach [tg] X.env).map (·.2) = [assign tg X.env] := by rfl) : PS X (.Assign [tg] e pos) (tAsg te g) := by
  intro pins s σ H D I h
  refine wpAny_Assign_stores (thn (he pins s σ H _ I h) fun v s1 ⟨x, H1, I1, r1, q1⟩ => ?_) hs hw
  rw [h1]
  exact thn (hg pins s1 σ H1 x v _ I1 r1 q1) fun _ s2 q => q
/-- name = value -/
theorem ps_set {i : Nat} {x : Str} {e : Expr} {te : TE} {pos' : Pos} (hN : X.N.Nodup) (hi : X.N[i]? = some x) (hx : Loc X.env.scope x) (he : PE X e te) (hs : swapsWith e (some (.Name x pos')) pos.line X.env = pure false := by rfl) (hf : X.fn x = true ∨ X.env.scope.names.lookup x = some .local := by first | exact .inl rfl | exact .inr rfl | assumption) :
    PS X (.Assign [.Name x pos'] e pos) (tAsg te (gName i)) := by
  intro pins s σ H D I h
  refine wpAny_Assign_Name (thn (he pins s σ H _ I h) fun v s1 ⟨y, H1, I1, r1, q1⟩ => ?_) hs
  exact store_ok I1 hN hi hx r1 (fun s2 I2 => ⟨_, H1, I2, q1⟩) hf
end

/-! ### while -/
section
variable {X : Cx} {pos : Pos}
end

/-! ### what a loop or a comprehension walks -/
/-- at turn i: it yields x (the heap may grow), or it stops -/
structure It where
  go : Nat → Hp → Prop
  yld : Nat → Hp → V → Hp → Prop
  stop : Nat → Hp → Prop
/-- the iterator's own objects may turn: they are not the frame's, not pinned, younger than the entry (or a comprehension's own) -/
def FpOk (X : Cx) (pins : List (Addr × Obj)) (H : Hp) (b : Addr) : Prop :=
  H b = none ∧ b ≠ X.env.locals ∧ b ∉ X.fs ∧ (b ∈ X.ex ∨ X.s₀.heap.objs.size ≤ b) ∧ (∀ x c, X.env.cells.lookup x = some c → c ≠ b) ∧ ∀ p ∈ X.pn ++ pins, p.1 ≠ b
theorem Inv.fpOk {X : Cx} {pins : List (Addr × Obj)} {σ : St} {H H' : Hp} {s : Shared} {b : Addr} (I : Inv X pins σ H s) (hb : s.heap.objs.size ≤ b) (hn : H' b = none) : FpOk X pins H' b := by
  refine ⟨hn, Nat.ne_of_gt (Nat.lt_of_lt_of_le I.lt hb), I.nofs hb, .inr (Nat.le_trans I.sz hb), fun x c e z => ?_, fun p hp z => ?_⟩
  · obtain ⟨v, q⟩ := I.cell x c e
    exact absurd (Nat.lt_of_lt_of_le q.lt (by rw [z]; exact hb)) (Nat.lt_irrefl _)
  · exact absurd (Nat.lt_of_lt_of_le (Heap.lt_size (I.pin p hp).1) (by rw [z]; exact hb)) (Nat.lt_irrefl _)
structure Turn (P : Program) (w : World) (K : PySem.W.Frag) (tg : Expr) (J : It) (fp : List Addr) (it : Addr) (tn : Nat → Heap → Prop) : Prop where
  mem : it ∈ fp
  obj : ∀ i h, tn i h → ∀ b ∈ fp, ∃ o, h.get? b = some o ∧ ∀ v, o.data ≠ .cell v
  keep : ∀ i h h', tn i h → (∀ b ∈ fp, ∀ o, h.get? b = some o → h'.get? b = some o) → tn i h'
  item : ∀ (X : Cx), X.prog = P → X.w = w → X.K = K → X.calm = true → ∀ (i : Nat) (pins : List (Addr × Obj)) (s : Shared) (σ : St) (H : Hp) (E : Value → Shared → Prop), Inv X pins σ H s → (∀ b ∈ fp, FpOk X pins H b) → tn i s.heap → J.go i H →
    wpAny (model P w) X.A (pyNext (.ref it)) (fun r s1 => ∃ u, r = some u ∧
      wpAny (model P w) X.A (letOwnedTupleGo tg (.ref it) u) (fun _ s2 => ∃ x H', Inv X pins σ H' s2 ∧ RelV x u ∧ J.yld i H x H' ∧ tn (i + 1) s2.heap ∧ ∀ b ∈ fp, H' b = none) E s1) E s
  done : ∀ (X : Cx), X.prog = P → X.w = w → X.K = K → X.calm = true → ∀ (i : Nat) (pins : List (Addr × Obj)) (s : Shared) (σ : St) (H : Hp) (E : Value → Shared → Prop), Inv X pins σ H s → (∀ b ∈ fp, FpOk X pins H b) → tn i s.heap → J.stop i H →
    wpAny (model P w) X.A (pyNext (.ref it)) (fun r s1 => r = none ∧ Inv X pins σ H s1) E s
  self : ∀ (A : Around) (i : Nat) (s : Shared) (Q : Value → Shared → Prop) (E : Value → Shared → Prop), tn i s.heap → Q (.ref it) s → wpAny (model P w) A (pyIter (.ref it)) Q E s
abbrev TI := St → Hp → (It → Hp → Prop) → Prop
/-- an iterator has come -/
def PIE (X : Cx) (pins : List (Addr × Obj)) (σ : St) (tg : Expr) (R : It → Hp → Prop) (itv : Value) (s2 : Shared) : Prop :=
  ∃ (it : Addr) (fp : List Addr) (tn : Nat → Heap → Prop) (J : It) (H' : Hp), itv = .ref it ∧ Inv X pins σ H' s2 ∧ Turn X.prog X.w X.K tg J fp it tn ∧ tn 0 s2.heap ∧ (∀ b ∈ fp, FpOk X pins H' b) ∧ R J H'
def PI (X : Cx) (tg iter : Expr) (wi : TI) : Prop :=
  ∀ (pins : List (Addr × Obj)) (s : Shared) (σ : St) (H : Hp) (R : It → Hp → Prop), Inv X pins σ H s → wi σ H R →
    wpAny (model X.prog X.w) X.A (eval iter X.env) (fun v s1 => wpAny (model X.prog X.w) X.A (pyIter v) (PIE X pins σ tg R) X.xe s1) X.xe s

/-- the step ahead of the store is nothing for an iterator that keeps no tuple -/
theorem go_of {M : Model} {A : Around} {E : Value → Shared → Prop} {s : Shared} {tg : Expr} {it : Addr} {u : Value} {o : Obj} {n : String} {vs : Array Value} {Q : Unit → Shared → Prop} (ho : s.heap.get? it = some o) (hc : o.cls = .type n) (hd : o.data = .fields vs)
    (hn : ["enumerate", "zip", "dict_itemiterator", "dict_reverseitemiterator", "odict_iterator", "itertools.zip_longest", "itertools.pairwise"].contains n = false) (hQ : Q () s) : wpAny M A (letOwnedTupleGo tg (.ref it) u) Q E s := by
  unfold letOwnedTupleGo
  cases tg <;> first
    | exact wpAny_pure hQ
    | (cases u <;> first
        | exact wpAny_pure hQ
        | (refine wpAny_bind (wpAny_load ho ?_)
           rw [hc, hd]
           show wpAny M A (if (["enumerate", "zip", "dict_itemiterator", "dict_reverseitemiterator", "odict_iterator", "itertools.zip_longest", "itertools.pairwise"].contains n && vs[0]? == some (rawInt _)) = true then _ else _) Q E s
           rw [if_neg (by intro h; rw [hn, Bool.false_and] at h; cases h)]
           exact wpAny_pure hQ))

/-- the list at a, as it stands at each turn (a loop may append to it) -/
def Itl (K : PySem.W.Frag) (a : Addr) : It :=
  ⟨fun i H => ∃ xs x, SqL K H a xs ∧ xs[i]? = some x, fun i H x H' => H' = H ∧ ∀ xs, SqL K H a xs → xs[i]? = some x, fun i H => ∃ xs, SqL K H a xs ∧ xs.length ≤ i⟩
def Itt (K : PySem.W.Frag) (a : Addr) : It :=
  ⟨fun i H => ∃ xs x, SqT K H a xs ∧ xs[i]? = some x, fun i H x H' => H' = H ∧ ∀ xs, SqT K H a xs → xs[i]? = some x, fun i H => ∃ xs, SqT K H a xs ∧ xs.length ≤ i⟩
/-- lo, lo + 1, .. (n of them) -/
def Itr (lo : Int) (n : Nat) : It := ⟨fun i _ => i < n, fun i H x H' => H' = H ∧ x = .int (lo + i), fun i _ => n ≤ i⟩
theorem turn_list {P : Program} {w : World} {K : PySem.W.Frag} {tg : Expr} (a it : Addr) : Turn P w K tg (Itl K a) [it] it (fun i h => h.IsListIter it a i) where
  mem := by simp
  obj := fun i h st b hb => by
    have e : b = it := by simpa using hb
    subst e
    obtain ⟨o, e, c, d⟩ := st
    exact ⟨o, e, fun v z => by rw [d] at z; cases z⟩
  keep := fun i h h' st k => st.at fun o e => k it (by simp) o e
  item := by
    intro X hP hw hK hc i pins s σ H E I hf st hg
    subst hP hw hK
    obtain ⟨xs, x, hq, hx⟩ := hg
    obtain ⟨its, rv, p, hz⟩ := I.list hq
    obtain ⟨u, hu, ru⟩ := rv.get hx
    obtain ⟨f0, f1, f2, f3, f4, f5⟩ := hf it (by simp)
    refine wpAny_pyNext_list_item st p.isList (x := u) (by simpa using hu) fun h' st' sb => ?_
    have I1 : Inv X pins σ H { s with heap := h' } := I.turned (t' := s.toks) (fun b o hb e => (sb.2 b hb).trans e) f0 f1 f3 f4 f5
    obtain ⟨o, e, c, d⟩ := id st'
    exact ⟨u, rfl, go_of (s := { s with heap := h' }) e c d (by decide) ⟨x, H, I1, ru, ⟨rfl, fun ys hy => by rw [I.list_inj hy hq]; exact hx⟩, st', fun b hb => (hf b hb).1⟩⟩
  done := by
    intro X hP hw hK hc i pins s σ H E I hf st hg
    subst hP hw hK
    obtain ⟨xs, hq, hx⟩ := hg
    obtain ⟨its, rv, p, hz⟩ := I.list hq
    obtain ⟨f0, f1, f2, f3, f4, f5⟩ := hf it (by simp)
    have hl := rv.length
    exact wpAny_pyNext_list_end (I.ok.hd hc) st p.isList (by simp; omega) fun h' eb => ⟨rfl, I.turned (t' := s.toks) (fun b o hb e => eb b o hb e) f0 f1 f3 f4 f5⟩
  self := fun _ _ _ _ _ st h => wpAny_pyIter_listiter st h
theorem turn_tuple {P : Program} {w : World} {K : PySem.W.Frag} {tg : Expr} (a it : Addr) : Turn P w K tg (Itt K a) [it] it (fun i h => h.IsTupleIter it a i) where
  mem := by simp
  obj := fun i h st b hb => by
    have e : b = it := by simpa using hb
    subst e
    obtain ⟨o, e, c, d⟩ := st
    exact ⟨o, e, fun v z => by rw [d] at z; cases z⟩
  keep := fun i h h' st k => st.at fun o e => k it (by simp) o e
  item := by
    intro X hP hw hK hc i pins s σ H E I hf st hg
    subst hP hw hK
    obtain ⟨xs, x, hq, hx⟩ := hg
    obtain ⟨its, rv, p, hz⟩ := I.tuple hq
    obtain ⟨u, hu, ru⟩ := rv.get hx
    obtain ⟨f0, f1, f2, f3, f4, f5⟩ := hf it (by simp)
    refine wpAny_pyNext_tuple_item st (show s.heap.IsTuple a its.toArray from p) (x := u) (by simpa using hu) fun h' st' sb => ?_
    have I1 : Inv X pins σ H { s with heap := h' } := I.turned (t' := s.toks) (fun b o hb e => (sb.2 b hb).trans e) f0 f1 f3 f4 f5
    obtain ⟨o, e, c, d⟩ := id st'
    exact ⟨u, rfl, go_of (s := { s with heap := h' }) e c d (by decide) ⟨x, H, I1, ru, ⟨rfl, fun ys hy => by rw [I.tuple_inj hy hq]; exact hx⟩, st', fun b hb => (hf b hb).1⟩⟩
  done := by
    intro X hP hw hK hc i pins s σ H E I hf st hg
    subst hP hw hK
    obtain ⟨xs, hq, hx⟩ := hg
    obtain ⟨its, rv, p, hz⟩ := I.tuple hq
    obtain ⟨f0, f1, f2, f3, f4, f5⟩ := hf it (by simp)
    have hl := rv.length
    exact wpAny_pyNext_tuple_end (I.ok.hd hc) st (show s.heap.IsTuple a its.toArray from p) (by simp; omega) fun h' eb => ⟨rfl, I.turned (t' := s.toks) (fun b o hb e => eb b o hb e) f0 f1 f3 f4 f5⟩
  self := fun _ _ _ _ _ st h => wpAny_pyIter_tupleiter st h
theorem turn_range {P : Program} {w : World} {K : PySem.W.Frag} {tg : Expr} (it : Addr) (lo : Int) (n : Nat) : Turn P w K tg (Itr lo n) [it] it (fun i h => IsRangeIter h it (lo + (i : Nat) * 1) ((n : Int) - (i : Nat)) 1) where
  mem := by simp
  obj := fun i h st b hb => by
    have e : b = it := by simpa using hb
    subst e
    exact ⟨_, st, fun v z => by
      have z' : Data.fields _ = Data.cell v := z
      cases z'⟩
  keep := fun i h h' st k => k it (by simp) _ st
  item := by
    intro X hP hw hK hc i pins s σ H E I hf st hg
    subst hP hw hK
    obtain ⟨f0, f1, f2, f3, f4, f5⟩ := hf it (by simp)
    have W := Walks.range (prog := X.prog) (w := X.w) (I.ok.hd hc) it lo 1 n
    refine W.item i s _ _ hg st fun v h' tk hv st' kk => ?_
    obtain ⟨t, rfl⟩ := hv
    have I1 : Inv X pins σ H { s with heap := h', toks := tk } := I.turned (fun b o hb e => kk b o (by simpa using hb) e) f0 f1 f3 f4 f5
    refine ⟨_, rfl, go_of (s := { s with heap := h', toks := tk }) (n := "range_iterator") st' rfl rfl (by decide) ⟨.int (lo + i), H, I1, ⟨t, ?_⟩, ⟨rfl, rfl⟩, st', fun b hb => (hf b hb).1⟩⟩
    rw [Int.mul_one]
  done := by
    intro X hP hw hK hc i pins s σ H E I hf st hg
    subst hP hw hK
    obtain ⟨f0, f1, f2, f3, f4, f5⟩ := hf it (by simp)
    exact wpAny_pyNext_range_end (I.ok.hd hc) st (by have : n ≤ i := hg; omega) fun h' eb => ⟨rfl, I.turned (t' := s.toks) (fun b o hb e => eb b o hb e) f0 f1 f3 f4 f5⟩
  self := fun _ _ _ _ _ st h => wpAny_pyIter_rangeiter st h
end L2

namespace L2
open PySem PySem.Spec PyProof.Rows
section
variable {X : Cx} {tg : Expr}
def iList (K : PySem.W.Frag) (tl : TE) : TI := fun σ H R => tl σ H fun x H1 => ∃ a, x = .ref a ∧ (∃ xs, SqL K H1 a xs) ∧ R (Itl K a) H1
def iTup (K : PySem.W.Frag) (tl : TE) : TI := fun σ H R => tl σ H fun x H1 => ∃ a, x = .ref a ∧ (∃ xs, SqT K H1 a xs) ∧ R (Itt K a) H1
theorem pi_list {l : Expr} {tl : TE} (hl : PE X l tl) : PI X tg l (iList X.K tl) := by
  intro pins s σ H R I h
  refine thn (hl pins s σ H _ I h) fun v s1 ⟨x, H1, I1, r1, q1⟩ => ?_
  obtain ⟨a, e, ⟨xs, hq⟩, q⟩ := q1
  subst e
  cases r1
  obtain ⟨its, rv, p, hz⟩ := I1.list hq
  refine wpAny_pyIter_list p.isList ?_
  refine ⟨s1.heap.objs.size, [s1.heap.objs.size], _, _, H1, rfl, I1.kept (t' := s1.toks) fun b o e => Heap.get?_push_of_some _ e, turn_list a _, ⟨_, Heap.get?_push_size _ rfl, rfl, rfl⟩, fun b hb => ?_, q⟩
  have e : b = s1.heap.objs.size := by simpa using hb
  subst e
  exact I1.fpOk (Nat.le_refl _) (I1.hok.fresh (Nat.le_refl _))
theorem pi_tup {l : Expr} {tl : TE} (hl : PE X l tl) : PI X tg l (iTup X.K tl) := by
  intro pins s σ H R I h
  refine thn (hl pins s σ H _ I h) fun v s1 ⟨x, H1, I1, r1, q1⟩ => ?_
  obtain ⟨a, e, ⟨xs, hq⟩, q⟩ := q1
  subst e
  cases r1
  obtain ⟨its, rv, p, hz⟩ := I1.tuple hq
  refine wpAny_pyIter_tuple (show s1.heap.IsTuple a its.toArray from p) ?_
  refine ⟨s1.heap.objs.size, [s1.heap.objs.size], _, _, H1, rfl, I1.kept (t' := s1.toks) fun b o e => Heap.get?_push_of_some _ e, turn_tuple a _, ⟨_, Heap.get?_push_size _ rfl, rfl, rfl⟩, fun b hb => ?_, q⟩
  have e : b = s1.heap.objs.size := by simpa using hb
  subst e
  exact I1.fpOk (Nat.le_refl _) (I1.hok.fresh (Nat.le_refl _))
/-- a range object just made, walked -/
theorem range_it {pins : List (Addr × Obj)} {σ : St} {H : Hp} {s : Shared} {R : It → Hp → Prop} {E : Value → Shared → Prop} {lo hi : Int} {t u v : Tok} {tk : Nat} (I : Inv X pins σ H s) (h1 : -(2 ^ 62) ≤ lo) (h2 : lo < 2 ^ 62) (h3 : -(2 ^ 62) ≤ hi) (h4 : hi < 2 ^ 62)
    (q : R (Itr lo (hi - lo).toNat) H) : wpAny (model X.prog X.w) X.A (pyIter (.ref s.heap.objs.size)) (PIE X pins σ tg R) E { s with heap := s.heap.push { cls := .type "range", data := .fields #[.int lo t, .int hi u, .int 1 v] }, toks := tk } := by
  refine wpAny_pyIter_range (IsRange.new ..) (small_one h1 h2 h3 h4) ?_
  have I1 : Inv X pins σ H { s with heap := s.heap.push { cls := .type "range", data := .fields #[.int lo t, .int hi u, .int 1 v] }, toks := tk } := I.kept fun b o e => Heap.get?_push_of_some _ e
  refine ⟨(s.heap.push { cls := .type "range", data := .fields #[.int lo t, .int hi u, .int 1 v] }).objs.size, [(s.heap.push { cls := .type "range", data := .fields #[.int lo t, .int hi u, .int 1 v] }).objs.size], _, _, H, rfl,
    I1.kept (t' := tk) fun b o e => Heap.get?_push_of_some _ e, turn_range _ lo (hi - lo).toNat, ?_, fun b hb => ?_, q⟩
  · have e1 : lo + ((0 : Nat) : Int) * 1 = lo := by simp
    have e2 : (((hi - lo).toNat : Nat) : Int) - ((0 : Nat) : Int) = Builtin.Range.rangeSize lo hi 1 := by rw [rangeSize_one]; split <;> omega
    show IsRangeIter _ _ (lo + ((0 : Nat) : Int) * 1) ((((hi - lo).toNat : Nat) : Int) - ((0 : Nat) : Int)) 1
    rw [e1, e2]
    exact Heap.get?_push_size _ rfl
  · have e : b = (s.heap.push { cls := .type "range", data := .fields #[.int lo t, .int hi u, .int 1 v] }).objs.size := by simpa using hb
    subst e
    exact I1.fpOk (Nat.le_refl _) (I1.hok.fresh (Nat.le_refl _))
def iRng1 (ta : TA) : TI := fun σ H R => ta σ H fun vs H1 => ∃ j : Int, vs = [.int j] ∧ -(2 ^ 62) ≤ j ∧ j < 2 ^ 62 ∧ R (Itr 0 j.toNat) H1
def iRng2 (ta : TA) : TI := fun σ H R => ta σ H fun vs H1 => ∃ i j : Int, vs = [.int i, .int j] ∧ (-(2 ^ 62) ≤ i ∧ i < 2 ^ 62 ∧ -(2 ^ 62) ≤ j ∧ j < 2 ^ 62) ∧ R (Itr i (j - i).toNat) H1
theorem pi_range1 {a : Expr} {ta : TA} {p pos : Pos} (hg : Gl X "range") (hm : X.mg "range" = none) (ha : PA X [a] ta) (hs : starEach [a] X.env = [(false, eval a X.env)] := by rfl) : PI X tg (.Call (.Name "range" p) [a] [] pos) (iRng1 ta) := by
  intro pins s σ H R I h
  refine Call_ (ld_blt I hg hm boot_range (PyProof.Rows.callWith_type1 (thn (ha pos pins s σ H _ I h) fun us s1 ⟨vs, H1, I1, r1, q1⟩ => ?_) hs rfl))
  obtain ⟨j, e, q1, q2, q⟩ := q1
  subst e
  cases r1 with
  | cons r rr =>
    cases rr
    obtain ⟨t, rfl⟩ := r
    exact call_range_1 (range_it I1 (by omega) (by omega) q1 q2 (by simpa using q))
theorem pi_range2 {a b : Expr} {ta : TA} {p pos : Pos} (hg : Gl X "range") (hm : X.mg "range" = none) (ha : PA X [a, b] ta) (hs : starEach [a, b] X.env = [(false, eval a X.env), (false, eval b X.env)] := by rfl) (hs2 : starEach [b] X.env = [(false, eval b X.env)] := by rfl) :
    PI X tg (.Call (.Name "range" p) [a, b] [] pos) (iRng2 ta) := by
  intro pins s σ H R I h
  refine Call_ (ld_blt I hg hm boot_range (PyProof.Rows.callWith_type1 (thn (ha pos pins s σ H _ I h) fun us s1 ⟨vs, H1, I1, r1, q1⟩ => ?_) (by rw [hs, hs2]) (by rw [hs2]; rfl)))
  obtain ⟨i, j, e, ⟨q1, q2, q3, q4⟩, q⟩ := q1
  subst e
  cases r1 with
  | cons r rr =>
    cases rr with
    | cons r' rr =>
      cases rr
      obtain ⟨t, rfl⟩ := r
      obtain ⟨t', rfl⟩ := r'
      exact call_range_2 (range_it I1 q1 q2 q3 q4 q)

/-! ### for -/
/-- W: the invariant by the turn and a measure; N: what the body is to reach -/
def tFor (wi : TI) (g : TG) (tb : TS) : TS := fun D σ H => wi σ H fun J H1 => ∃ W : Nat → Nat → St → Hp → Prop, (∃ m, W 0 m σ H1) ∧ ∀ i m σ H, W i m σ H →
  (J.stop i H ∧ D.nx σ H) ∨ (J.go i H ∧ ∃ N : St → Hp → Prop, (∀ σ' H', N σ' H' → ∃ m', m' < m ∧ W (i + 1) m' σ' H') ∧ ∀ x H', J.yld i H x H' → g x σ H' fun σ2 H2 => tb { D with nx := N, ct := N, bk := D.nx } σ2 H2)
/-- the records at fp as they stand -/
def pinsAt (fp : List Addr) (h : Heap) : List (Addr × Obj) := fp.filterMap fun b => (h.get? b).map fun o => (b, o)
theorem mem_pinsAt {fp : List Addr} {h : Heap} {b : Addr} {o : Obj} (hb : b ∈ fp) (e : h.get? b = some o) : (b, o) ∈ pinsAt fp h := List.mem_filterMap.mpr ⟨b, hb, by rw [e]; rfl⟩
theorem of_pinsAt {fp : List Addr} {h : Heap} {p : Addr × Obj} (hp : p ∈ pinsAt fp h) : p.1 ∈ fp ∧ h.get? p.1 = some p.2 := by
  obtain ⟨b, hb, e⟩ := List.mem_filterMap.mp hp
  cases q : h.get? b with
  | none => rw [q] at e; cases e
  | some o =>
    rw [q] at e
    have e' : (b, o) = p := Option.some.inj e
    subst e'
    exact ⟨hb, q⟩
theorem Inv.pinned {pins : List (Addr × Obj)} {σ : St} {H : Hp} {s : Shared} {fp : List Addr} (I : Inv X pins σ H s) (hf : ∀ b ∈ fp, FpOk X pins H b) (ho : ∀ b ∈ fp, ∃ o, s.heap.get? b = some o ∧ ∀ v, o.data ≠ .cell v) : Inv X (pins ++ pinsAt fp s.heap) σ H s :=
  I.pins_of fun p hp => (List.mem_append.mp hp).elim (fun z => I.pin p (List.mem_append_right _ z)) fun z => by
    obtain ⟨hb, e⟩ := of_pinsAt z
    obtain ⟨f0, f1, f2, _⟩ := hf p.1 hb
    obtain ⟨o, e', d⟩ := ho p.1 hb
    rw [e] at e'; cases e'
    exact ⟨e, f0, f1, f2, d⟩
theorem Inv.unpinned {pins pl : List (Addr × Obj)} {σ : St} {H : Hp} {s : Shared} (I : Inv X (pins ++ pl) σ H s) : Inv X pins σ H s := I.pins_of fun p hp => I.pin p (List.mem_append_right _ (List.mem_append_left _ hp))
theorem ps_for {iter : Expr} {body : List Stmt} {wi : TI} {g : TG} {tb : TS} {pos : Pos} (hp : PassesOwn (model X.prog X.w) X.A X.env X.xe) (hc : X.calm = true) (hi : PI X tg iter wi) (hg : PG X tg g) (hb : PSs X body tb)
    (hs : ∀ x, foldedSetIterable iter X.env x = pure x := by intro _; rfl) : PS X (.For tg iter body [] pos) (tFor wi g tb) := by
  intro pins s σ H D I h
  refine wpAny_For (thn (hi pins s σ H _ I h) fun v s1 h1 => thn h1 fun itv s2 h2 => ?_) hs
  obtain ⟨it, fp, tn, J, H2, e, I2, T, st2, f2, W, ⟨m0, w0⟩, turn⟩ := h2
  subst e
  -- what stays true of the iterator's objects through the loop
  have stat : ∀ {H' : Hp}, (∀ b ∈ fp, H' b = none) → ∀ b ∈ fp, FpOk X pins H' b := fun hn b hb => ⟨hn b hb, (f2 b hb).2⟩
  refine codeAny_forLoop_any (fun n s' => ∃ i σ' H', Inv X pins σ' H' s' ∧ tn i s'.heap ∧ (∀ b ∈ fp, H' b = none) ∧ W i n σ' H') ?_ m0 ⟨0, σ, H2, I2, st2, fun b hb => (f2 b hb).1, w0⟩
  rintro n s3 ⟨i, σ3, H3, I3, st3, fr3, w3⟩
  rcases turn i n σ3 H3 w3 with ⟨stop, qn⟩ | ⟨go, N, hN, step⟩
  · refine wpAny_passesOwn hp (thn (T.done X rfl rfl rfl hc i pins s3 σ3 H3 X.xe I3 (stat fr3) st3 stop) fun r s4 ⟨hr, I4⟩ => ?_)
    subst hr
    exact wpAny_execs_nil ⟨σ3, H3, I4, qn⟩
  · refine wpAny_passesOwn hp (thn (T.item X rfl rfl rfl hc i pins s3 σ3 H3 X.xe I3 (stat fr3) st3 go) fun r s4 ⟨u, hr, h4⟩ => ?_)
    subst hr
    refine wpAny_passesOwn hp (thn h4 fun _ s5 ⟨x, H5, I5, r5, y5, st5, fr5⟩ => ?_)
    have I5' := I5.pinned (stat fr5) (T.obj _ _ st5)
    refine wpAny_passesOwn hp (thn (hg _ s5 σ3 H5 x u _ I5' r5 (step x H5 y5)) fun _ s6 ⟨σ6, H6, I6, q6⟩ => ?_)
    refine wpAny_passesOwn hp (thn (hb _ s6 σ6 H6 _ I6 q6) fun f s7 q7 => ?_)
    have again : ∀ {σ7 : St} {H7 : Hp}, Inv X (pins ++ pinsAt fp s5.heap) σ7 H7 s7 → N σ7 H7 → ∃ m, m < n ∧ ∃ i σ' H', Inv X pins σ' H' s7 ∧ tn i s7.heap ∧ (∀ b ∈ fp, H' b = none) ∧ W i m σ' H' := fun {σ7 H7} I7 n7 => by
      obtain ⟨m', hm, w7⟩ := hN σ7 H7 n7
      refine ⟨m', hm, i + 1, σ7, H7, I7.unpinned, T.keep _ _ _ st5 fun b hb o e => (I7.pin (b, o) (List.mem_append_right _ (List.mem_append_right _ (mem_pinsAt hb e)))).1, fun b hb => ?_, w7⟩
      obtain ⟨o, e, d⟩ := T.obj _ _ st5 b hb
      exact (I7.pin (b, o) (List.mem_append_right _ (List.mem_append_right _ (mem_pinsAt hb e)))).2.1
    cases f with
    | next => obtain ⟨σ7, H7, I7, n7⟩ := q7; exact again I7 n7
    | cont => obtain ⟨σ7, H7, I7, n7⟩ := q7; exact again I7 n7
    | brk => obtain ⟨σ7, H7, I7, q7⟩ := q7; exact ⟨σ7, H7, I7.unpinned, q7⟩
    | ret v => obtain ⟨x7, σ7, H7, I7, r7, q7⟩ := q7; exact ⟨x7, σ7, H7, I7.unpinned, r7, q7⟩
end

/-! ### the forms one uses -/
/-- over a list that the body leaves as it is -/
theorem for_list {K : PySem.W.Frag} {a : Addr} {xs : List V} {g : TG} {tb : TS} {D : Ends} {σ : St} {H : Hp} (Pv : Nat → St → Hp → Prop) (h0 : Pv 0 σ H) (hl : ∀ i σ H, i ≤ xs.length → Pv i σ H → SqL K H a xs)
    (hs : ∀ i x σ H, xs[i]? = some x → Pv i σ H → g x σ H fun σ2 H2 => tb { D with nx := Pv (i + 1), ct := Pv (i + 1), bk := D.nx } σ2 H2) (hd : ∀ σ H, Pv xs.length σ H → D.nx σ H) :
    ∃ W : Nat → Nat → St → Hp → Prop, (∃ m, W 0 m σ H) ∧ ∀ i m σ H, W i m σ H →
      ((Itl K a).stop i H ∧ D.nx σ H) ∨ ((Itl K a).go i H ∧ ∃ N : St → Hp → Prop, (∀ σ' H', N σ' H' → ∃ m', m' < m ∧ W (i + 1) m' σ' H') ∧ ∀ x H', (Itl K a).yld i H x H' → g x σ H' fun σ2 H2 => tb { D with nx := N, ct := N, bk := D.nx } σ2 H2) := by
  refine ⟨fun i m σ H => m = xs.length - i ∧ i ≤ xs.length ∧ Pv i σ H, ⟨xs.length, by simp, Nat.zero_le _, h0⟩, ?_⟩
  rintro i m σ H ⟨rfl, hi, p⟩
  have q := hl i σ H hi p
  by_cases hlt : i < xs.length
  · refine .inr ⟨⟨xs, xs[i], q, by simp [hlt]⟩, Pv (i + 1), fun σ' H' p' => ⟨xs.length - (i + 1), by omega, rfl, hlt, p'⟩, fun x H' y => ?_⟩
    obtain ⟨e, y⟩ := y
    subst e
    exact hs i x σ _ (y xs q) p
  · have e : i = xs.length := by omega
    subst e
    exact .inl ⟨⟨xs, q, Nat.le_refl _⟩, hd σ H p⟩
theorem for_tup {K : PySem.W.Frag} {a : Addr} {xs : List V} {g : TG} {tb : TS} {D : Ends} {σ : St} {H : Hp} (Pv : Nat → St → Hp → Prop) (h0 : Pv 0 σ H) (hl : ∀ i σ H, i ≤ xs.length → Pv i σ H → SqT K H a xs)
    (hs : ∀ i x σ H, xs[i]? = some x → Pv i σ H → g x σ H fun σ2 H2 => tb { D with nx := Pv (i + 1), ct := Pv (i + 1), bk := D.nx } σ2 H2) (hd : ∀ σ H, Pv xs.length σ H → D.nx σ H) :
    ∃ W : Nat → Nat → St → Hp → Prop, (∃ m, W 0 m σ H) ∧ ∀ i m σ H, W i m σ H →
      ((Itt K a).stop i H ∧ D.nx σ H) ∨ ((Itt K a).go i H ∧ ∃ N : St → Hp → Prop, (∀ σ' H', N σ' H' → ∃ m', m' < m ∧ W (i + 1) m' σ' H') ∧ ∀ x H', (Itt K a).yld i H x H' → g x σ H' fun σ2 H2 => tb { D with nx := N, ct := N, bk := D.nx } σ2 H2) := by
  refine ⟨fun i m σ H => m = xs.length - i ∧ i ≤ xs.length ∧ Pv i σ H, ⟨xs.length, by simp, Nat.zero_le _, h0⟩, ?_⟩
  rintro i m σ H ⟨rfl, hi, p⟩
  have q := hl i σ H hi p
  by_cases hlt : i < xs.length
  · refine .inr ⟨⟨xs, xs[i], q, by simp [hlt]⟩, Pv (i + 1), fun σ' H' p' => ⟨xs.length - (i + 1), by omega, rfl, hlt, p'⟩, fun x H' y => ?_⟩
    obtain ⟨e, y⟩ := y
    subst e
    exact hs i x σ _ (y xs q) p
  · have e : i = xs.length := by omega
    subst e
    exact .inl ⟨⟨xs, q, Nat.le_refl _⟩, hd σ H p⟩
theorem for_range {lo : Int} {n : Nat} {g : TG} {tb : TS} {D : Ends} {σ : St} {H : Hp} (Pv : Nat → St → Hp → Prop) (h0 : Pv 0 σ H)
    (hs : ∀ i σ H, i < n → Pv i σ H → g (.int (lo + i)) σ H fun σ2 H2 => tb { D with nx := Pv (i + 1), ct := Pv (i + 1), bk := D.nx } σ2 H2) (hd : ∀ σ H, Pv n σ H → D.nx σ H) :
    ∃ W : Nat → Nat → St → Hp → Prop, (∃ m, W 0 m σ H) ∧ ∀ i m σ H, W i m σ H →
      ((Itr lo n).stop i H ∧ D.nx σ H) ∨ ((Itr lo n).go i H ∧ ∃ N : St → Hp → Prop, (∀ σ' H', N σ' H' → ∃ m', m' < m ∧ W (i + 1) m' σ' H') ∧ ∀ x H', (Itr lo n).yld i H x H' → g x σ H' fun σ2 H2 => tb { D with nx := N, ct := N, bk := D.nx } σ2 H2) := by
  refine ⟨fun i m σ H => m = n - i ∧ i ≤ n ∧ Pv i σ H, ⟨n, by simp, Nat.zero_le _, h0⟩, ?_⟩
  rintro i m σ H ⟨rfl, hi, p⟩
  by_cases hlt : i < n
  · refine .inr ⟨hlt, Pv (i + 1), fun σ' H' p' => ⟨n - (i + 1), by omega, rfl, hlt, p'⟩, fun x H' y => ?_⟩
    obtain ⟨e, y⟩ := y
    subst e y
    exact hs i σ _ hlt p
  · have e : i = n := by omega
    subst e
    exact .inl ⟨Nat.le_refl _, hd σ H p⟩
end L2

namespace L2
open PySem PySem.Spec PyProof.Rows

abbrev R2 := V → V → Hp → VK → Prop
/-- a two-place operation on values: f is binaryOp op, inplaceOp op or compareOp op -/
def OpR (X : Cx) (f : Value → Value → Sem Value) (r : R2) : Prop :=
  ∀ (pins : List (Addr × Obj)) (s : Shared) (σ : St) (H : Hp) (x y : V) (v u : Value) (Q : VK), Inv X pins σ H s → RelV x v → RelV y u → r x y H Q →
    wpAny (model X.prog X.w) X.A (f v u) (EP X pins σ Q) X.xe s
/-- a one-place operation -/
def UnR (X : Cx) (f : Value → Sem Value) (r : V → Hp → VK → Prop) : Prop :=
  ∀ (pins : List (Addr × Obj)) (s : Shared) (σ : St) (H : Hp) (x : V) (v : Value) (Q : VK), Inv X pins σ H s → RelV x v → r x H Q →
    wpAny (model X.prog X.w) X.A (f v) (EP X pins σ Q) X.xe s
/-- a call of a value that is known (a builtin, a type) with values -/
def CallR (X : Cx) (f : Value) (r : List V → Hp → VK → Prop) : Prop :=
  ∀ (pins : List (Addr × Obj)) (s : Shared) (σ : St) (H : Hp) (xs : List V) (us : List Value) (Q : VK), Inv X pins σ H s → Vals xs us → r xs H Q →
    wpAny (model X.prog X.w) X.A (call f us) (EP X pins σ Q) X.xe s
def tOp (r : R2) (ta tb : TE) : TE := fun σ H Q => ta σ H fun x H1 => tb σ H1 fun y H2 => r x y H2 Q
def tUn (r : V → Hp → VK → Prop) (ta : TE) : TE := fun σ H Q => ta σ H fun x H1 => r x H1 Q
/-- ints in, under C, and a value out -/
def rI (C : Int → Int → Prop) (g : Int → Int → V) : R2 := fun x y H Q => ∃ i j, x = .int i ∧ y = .int j ∧ C i j ∧ Q (g i j) H
def rI0 (g : Int → Int → V) : R2 := fun x y H Q => ∃ i j, x = .int i ∧ y = .int j ∧ Q (g i j) H
def rU (g : Int → V) : V → Hp → VK → Prop := fun x H Q => ∃ i, x = .int i ∧ Q (g i) H

section
variable {X : Cx} {a b c : Expr} {ta tb tc : TE} {pos : Pos}

theorem binT (ha : PE X a ta) (hb : PE X b tb) {pins : List (Addr × Obj)} {s : Shared} {σ : St} {H : Hp} {R : V → V → Hp → Prop} (I : Inv X pins σ H s)
    (h : ta σ H fun x H1 => tb σ H1 fun y H2 => R x y H2) {Q : Value → Shared → Prop} {f : Value → Value → Sem Value}
    (hf : ∀ v u s2 x y H2, Inv X pins σ H2 s2 → RelV x v → RelV y u → R x y H2 → wpAny (model X.prog X.w) X.A (f v u) Q X.xe s2) :
    wpAny (model X.prog X.w) X.A (eval a X.env) (fun v s₁ => wpAny (model X.prog X.w) X.A (eval b X.env) (fun u s₂ => wpAny (model X.prog X.w) X.A (f v u) Q X.xe s₂) X.xe s₁) X.xe s := by
  refine thn (ha pins s σ H _ I h) fun v s1 ⟨x, H1, I1, r1, q1⟩ => ?_
  refine thn (hb pins s1 σ H1 _ I1 q1) fun u s2 ⟨y, H2, I2, r2, q2⟩ => ?_
  exact hf v u s2 x y H2 I2 r1 r2 q2

theorem pe_op {op : Operator} {r : R2} (ho : OpR X (binaryOp op) r) (ha : PE X a ta) (hb : PE X b tb) : PE X (.BinOp a op b pos) (tOp r ta tb) := by
  intro pins s σ H Q I h
  exact wpAny_BinOp (binT ha hb I h fun v u s2 x y H2 I2 rx ry q => ho pins s2 σ H2 x y v u Q I2 rx ry q)
theorem pe_un {op : UnaryOp} {r : V → Hp → VK → Prop} (ho : UnR X (unaryOp op) r) (ha : PE X a ta) : PE X (.UnaryOp op a pos) (tUn r ta) := by
  intro pins s σ H Q I h
  exact UnaryOp_ (thn (ha pins s σ H _ I h) fun v s1 ⟨x, H1, I1, r1, q1⟩ => ho pins s1 σ H1 x v Q I1 r1 q1)
/-! ### ints -/
theorem opI {f : Value → Value → Sem Value} {C : Int → Int → Prop} {g : Int → Int → Int}
    (rule : ∀ (i j : Int) (t u : Tok) (s : Shared) (Q : Value → Shared → Prop) (E : Value → Shared → Prop), C i j → Q (.int (g i j) s.toks) { s with toks := s.toks + 1 } → wpAny (model X.prog X.w) X.A (f (.int i t) (.int j u)) Q E s) :
    OpR X f (rI C fun i j => .int (g i j)) := by
  intro pins s σ H x y v u Q I rx ry h
  obtain ⟨i, j, rfl, rfl, hc, q⟩ := h
  obtain ⟨t, rfl⟩ := rx
  obtain ⟨t', rfl⟩ := ry
  exact rule i j t t' s _ _ hc ⟨.int (g i j), H, I.tok _, ⟨_, rfl⟩, q⟩
theorem opI0 {f : Value → Value → Sem Value} {g : Int → Int → Int}
    (rule : ∀ (i j : Int) (t u : Tok) (s : Shared) (Q : Value → Shared → Prop) (E : Value → Shared → Prop), Q (.int (g i j) s.toks) { s with toks := s.toks + 1 } → wpAny (model X.prog X.w) X.A (f (.int i t) (.int j u)) Q E s) :
    OpR X f (rI0 fun i j => .int (g i j)) := by
  intro pins s σ H x y v u Q I rx ry h
  obtain ⟨i, j, rfl, rfl, q⟩ := h
  obtain ⟨t, rfl⟩ := rx
  obtain ⟨t', rfl⟩ := ry
  exact rule i j t t' s _ _ ⟨.int (g i j), H, I.tok _, ⟨_, rfl⟩, q⟩
theorem opB0 {f : Value → Value → Sem Value} {g : Int → Int → Bool}
    (rule : ∀ (i j : Int) (t u : Tok) (s : Shared) (Q : Value → Shared → Prop) (E : Value → Shared → Prop), Q (.bool (g i j)) s → wpAny (model X.prog X.w) X.A (f (.int i t) (.int j u)) Q E s) :
    OpR X f (rI0 fun i j => .bl (g i j)) := by
  intro pins s σ H x y v u Q I rx ry h
  obtain ⟨i, j, rfl, rfl, q⟩ := h
  obtain ⟨t, rfl⟩ := rx
  obtain ⟨t', rfl⟩ := ry
  exact rule i j t t' s _ _ ⟨.bl (g i j), H, I, rfl, q⟩

def CDiv (i j : Int) : Prop := 0 < j ∧ j < 1073741824
def CPow (i j : Int) : Prop := 0 ≤ j ∧ j ≤ 1000000 ∧ i.natAbs < 2 ^ 64
def CMul (i j : Int) : Prop := (-(2 ^ 64) < i ∧ i < 2 ^ 64) ∨ (-(2 ^ 64) < j ∧ j < 2 ^ 64)
theorem CMul.ok {i j : Int} (h : CMul i j) : IntMulOk i j := by
  rcases h with ⟨h1, h2⟩ | ⟨h1, h2⟩
  · exact .of_left (intBits_le_64 h1 h2)
  · exact .of_right (intBits_le_64 h1 h2)
theorem op_add : OpR X (binaryOp .Add) (rI0 fun i j => .int (i + j)) := opI0 fun _ _ _ _ _ _ _ q => add_int q
theorem op_sub : OpR X (binaryOp .Sub) (rI0 fun i j => .int (i - j)) := opI0 fun _ _ _ _ _ _ _ q => sub_int q
theorem op_mul : OpR X (binaryOp .Mult) (rI CMul fun i j => .int (i * j)) := opI fun _ _ _ _ _ _ _ hc q => mul_int q hc.ok
/-- // by a positive divisor -/
theorem op_fdiv : OpR X (binaryOp .FloorDiv) (rI CDiv fun i j => .int (i / j)) := opI fun i j _ _ _ _ _ hc q => by
  have h1 : (0 : Int) < j := hc.1
  have h2 : j < 1073741824 := hc.2
  exact floordiv_int (by omega) (by rw [Int.fdiv_eq_ediv_of_nonneg i (by omega)]; exact q) (.inl (PyProof.noPylong_small (by omega)))
/-- % by a positive divisor of any size -/
theorem op_mod : OpR X (binaryOp .Mod) (rI (fun _ j => 0 < j) fun i j => .int (i % j)) := opI fun i j _ _ _ _ _ hc q => by
  have h1 : (0 : Int) < j := hc
  exact mod_int' (by omega) (by rw [Int.fmod_eq_emod_of_nonneg i (by omega)]; exact q)
theorem op_pow : OpR X (binaryOp .Pow) (rI CPow fun i j => .int (i ^ j.toNat)) := opI fun _ _ _ _ _ _ _ hc q => pow_int_small hc.1 hc.2.1 hc.2.2 q
theorem unI {f : Value → Sem Value} {g : Int → Int}
    (rule : ∀ (i : Int) (t : Tok) (s : Shared) (Q : Value → Shared → Prop) (E : Value → Shared → Prop), Q (.int (g i) s.toks) { s with toks := s.toks + 1 } → wpAny (model X.prog X.w) X.A (f (.int i t)) Q E s) :
    UnR X f (rU fun i => .int (g i)) := by
  intro pins s σ H x v Q I rx h
  obtain ⟨i, rfl, q⟩ := h
  obtain ⟨t, rfl⟩ := rx
  exact rule i t s _ _ ⟨.int (g i), H, I.tok _, ⟨_, rfl⟩, q⟩
theorem un_neg : UnR X (unaryOp .USub) (rU fun i => .int (-i)) := unI fun _ _ _ _ _ q => neg_int q
/-! ### bools among ints: n += (a < b) -/
end

/-! ### comparisons -/
/-- the scalars that == tells apart as data does -/
def scal : V → V → Bool
  | .non, .non => true | .non, .int _ => true | .int _, .non => true | .non, .bl _ => true | .bl _, .non => true | .non, .str _ => true | .str _, .non => true
  | .int _, .int _ => true | .bl _, .bl _ => true | .str _, .str _ => true | .byt _, .byt _ => true
  | .int _, .str _ => true | .str _, .int _ => true | .bl _, .str _ => true | .str _, .bl _ => true
  | _, _ => false
def rEq : R2 := fun x y H Q => scal x y = true ∧ Q (.bl (decide (x = y))) H
def rNe : R2 := fun x y H Q => scal x y = true ∧ Q (.bl (!decide (x = y))) H

theorem dec_int {i j : Int} : decide (V.int i = V.int j) = (i == j) := by
  rw [Bool.eq_iff_iff]
  simp
theorem dec_bl {i j : Bool} : decide (V.bl i = V.bl j) = (i == j) := by
  rw [Bool.eq_iff_iff]
  simp
theorem dec_str {i j : Str} : decide (V.str i = V.str j) = (i == j) := by
  rw [Bool.eq_iff_iff]
  simp
theorem dec_byt {i j : Array UInt8} : decide (V.byt i = V.byt j) = (i.toList == j.toList) := by
  rw [Bool.eq_iff_iff]
  cases i
  cases j
  simp

section
variable {X : Cx} {a b c : Expr} {ta tb tc : TE} {pos : Pos}
theorem fin_bl {pins : List (Addr × Obj)} {σ : St} {H : Hp} {s : Shared} {Q : VK} {k k' : Bool} (I : Inv X pins σ H s) (q : Q (.bl k) H) (e : k = k') : EP X pins σ Q (.bool k') s := by
  subst e
  exact ⟨.bl k, H, I, rfl, q⟩
theorem op_eq : OpR X (compareOp .Eq) rEq := by
  intro pins s σ H x y v u Q I rx ry h
  obtain ⟨hs, q⟩ := h
  cases x with
  | non =>
    cases rx
    cases y with
    | non => cases ry; exact PySem.EqNone.eq_none_none (fin_bl I q (by simp))
    | bl j => cases ry; exact PySem.EqNone.eq_none_bool (fin_bl I q (by simp))
    | int j => obtain ⟨t', rfl⟩ := ry; exact PySem.EqNone.eq_none_int (fin_bl I q (by simp))
    | str j => obtain ⟨t', rfl⟩ := ry; exact PySem.EqNone.eq_none_str (fin_bl I q (by simp))
    | _ => exact absurd (show false = true from hs) Bool.false_ne_true
  | bl i =>
    cases rx
    cases y with
    | non => cases ry; exact PySem.EqNone.eq_bool_none (fin_bl I q (by simp))
    | bl j => cases ry; exact eq_bool (fin_bl I q dec_bl)
    | str j => obtain ⟨t', rfl⟩ := ry; exact PySem.EqMixed.eq_bool_str (fin_bl I q (by simp))
    | _ => exact absurd (show false = true from hs) Bool.false_ne_true
  | int i =>
    obtain ⟨t, rfl⟩ := rx
    cases y with
    | non => cases ry; exact PySem.EqNone.eq_int_none (fin_bl I q (by simp))
    | int j => obtain ⟨t', rfl⟩ := ry; exact eq_int (fin_bl I q dec_int)
    | str j => obtain ⟨t', rfl⟩ := ry; exact PySem.EqMixed.eq_int_str (fin_bl I q (by simp))
    | _ => exact absurd (show false = true from hs) Bool.false_ne_true
  | str i =>
    obtain ⟨t, rfl⟩ := rx
    cases y with
    | non => cases ry; exact PySem.EqNone.eq_str_none (fin_bl I q (by simp))
    | bl j => cases ry; exact PySem.EqMixed.eq_str_bool (fin_bl I q (by simp))
    | int j => obtain ⟨t', rfl⟩ := ry; exact PySem.EqMixed.eq_str_int (fin_bl I q (by simp))
    | str j => obtain ⟨t', rfl⟩ := ry; exact eq_str (fin_bl I q dec_str)
    | _ => exact absurd (show false = true from hs) Bool.false_ne_true
  | byt i =>
    obtain ⟨t, rfl⟩ := rx
    cases y with
    | byt j => obtain ⟨t', rfl⟩ := ry; exact PySem.W.eq_bytes (fin_bl I q dec_byt)
    | _ => exact absurd (show false = true from hs) Bool.false_ne_true
  | _ => cases y <;> exact absurd (show false = true from hs) Bool.false_ne_true
theorem op_ne : OpR X (compareOp .NotEq) rNe := by
  intro pins s σ H x y v u Q I rx ry h
  obtain ⟨hs, q⟩ := h
  cases x with
  | non =>
    cases rx
    cases y with
    | non => cases ry; exact PySem.EqNone.ne_none_none (fin_bl I q (by simp))
    | bl j => cases ry; exact PySem.EqNone.ne_none_bool (fin_bl I q (by simp))
    | int j => obtain ⟨t', rfl⟩ := ry; exact PySem.EqNone.ne_none_int (fin_bl I q (by simp))
    | str j => obtain ⟨t', rfl⟩ := ry; exact PySem.EqNone.ne_none_str (fin_bl I q (by simp))
    | _ => exact absurd (show false = true from hs) Bool.false_ne_true
  | bl i =>
    cases rx
    cases y with
    | non => cases ry; exact PySem.EqNone.ne_bool_none (fin_bl I q (by simp))
    | bl j => cases ry; exact ne_bool (fin_bl I q (congrArg not dec_bl))
    | str j => obtain ⟨t', rfl⟩ := ry; exact PySem.EqMixed.ne_bool_str (fin_bl I q (by simp))
    | _ => exact absurd (show false = true from hs) Bool.false_ne_true
  | int i =>
    obtain ⟨t, rfl⟩ := rx
    cases y with
    | non => cases ry; exact PySem.EqNone.ne_int_none (fin_bl I q (by simp))
    | int j => obtain ⟨t', rfl⟩ := ry; exact ne_int (fin_bl I q (congrArg not dec_int))
    | str j => obtain ⟨t', rfl⟩ := ry; exact PySem.EqMixed.ne_int_str (fin_bl I q (by simp))
    | _ => exact absurd (show false = true from hs) Bool.false_ne_true
  | str i =>
    obtain ⟨t, rfl⟩ := rx
    cases y with
    | non => cases ry; exact PySem.EqNone.ne_str_none (fin_bl I q (by simp))
    | bl j => cases ry; exact PySem.EqMixed.ne_str_bool (fin_bl I q (by simp))
    | int j => obtain ⟨t', rfl⟩ := ry; exact PySem.EqMixed.ne_str_int (fin_bl I q (by simp))
    | str j => obtain ⟨t', rfl⟩ := ry; exact ne_str (fin_bl I q (congrArg not dec_str))
    | _ => exact absurd (show false = true from hs) Bool.false_ne_true
  | byt i =>
    obtain ⟨t, rfl⟩ := rx
    cases y with
    | byt j => obtain ⟨t', rfl⟩ := ry; exact PySem.W.ne_bytes (fin_bl I q (congrArg not dec_byt))
    | _ => exact absurd (show false = true from hs) Bool.false_ne_true
  | _ => cases y <;> exact absurd (show false = true from hs) Bool.false_ne_true

theorem op_lt : OpR X (compareOp .Lt) (rI0 fun i j => .bl (decide (i < j))) := opB0 fun _ _ _ _ _ _ _ q => lt_int q
theorem op_le : OpR X (compareOp .LtE) (rI0 fun i j => .bl (decide (i ≤ j))) := opB0 fun _ _ _ _ _ _ _ q => le_int q
theorem op_gt : OpR X (compareOp .Gt) (rI0 fun i j => .bl (decide (j < i))) := opB0 fun _ _ _ _ _ _ _ q => gt_int q
theorem nomark (b : Expr) {op : CmpOp} (h : op ≠ .In := by decide) (h2 : op ≠ .NotIn := by decide) : behindInMarks op b = false := by
  have e1 : (op == CmpOp.In) = false := by cases op <;> first | rfl | exact absurd rfl h
  have e2 : (op == CmpOp.NotIn) = false := by cases op <;> first | rfl | exact absurd rfl h2
  cases b <;> simp [behindInMarks, e1, e2]
/-- a comparison as a value; hm: nomark b, or (for in, not in) by with_unfolding_all rfl -/
theorem pe_cmpR {op : CmpOp} {r : R2} (ho : OpR X (compareOp op) r) (ha : PE X a ta) (hb : PE X b tb) (hm : behindInMarks op b = false) : PE X (.Compare a [op] [b] pos) (tOp r ta tb) := by
  intro pins s σ H Q I h
  exact wpAny_Compare1 (binT ha hb I h fun v u s2 x y H2 I2 rx ry q => ho pins s2 σ H2 x y v u Q I2 rx ry q) hm
/-- a reading of a value as a test -/
def tTest (t : TE) : TT := fun σ H Q => t σ H fun x H' => ∃ k, x = .bl k ∧ Q k H'
theorem pt_cmpR {op : CmpOp} {r : R2} (ho : OpR X (compareOp op) r) (ha : PE X a ta) (hb : PE X b tb) (hm : behindInMarks op b = false) : PT X (.Compare a [op] [b] pos) (tTest (tOp r ta tb)) := by
  intro pins s σ H Q I h
  refine wpAny_isTrue_Compare1 (thn (ha pins s σ H _ I h) fun v s1 ⟨x, H1, I1, r1, q1⟩ => thn (hb pins s1 σ H1 _ I1 q1) fun u s2 ⟨y, H2, I2, r2, q2⟩ =>
    thn (ho pins s2 σ H2 x y v u _ I2 r1 r2 q2) fun c s3 ⟨z, H3, I3, r3, k, e, q3⟩ => ?_) hm
  subst e
  cases r3
  exact wpAny_truthy_bool ⟨H3, I3, q3⟩
/-- a op1 b op2 c -/
def tChain (r r' : R2) (ta tb tc : TE) : TE := fun σ H Q => ta σ H fun x H1 => tb σ H1 fun y H2 => r x y H2 fun z H3 => ∃ k, z = .bl k ∧
  (if k = true then tc σ H3 fun w' H4 => r' y w' H4 Q else Q (.bl false) H3)
theorem pe_chain {op op' : CmpOp} {r r' : R2} (ho : OpR X (compareOp op) r) (ho' : OpR X (compareOp op') r') (ha : PE X a ta) (hb : PE X b tb) (hc : PE X c tc)
    (hm : lastMarks [op, op'] [b, c] = false := by with_unfolding_all rfl) : PE X (.Compare a [op, op'] [b, c] pos) (tChain r r' ta tb tc) := by
  intro pins s σ H Q I h
  refine Compare_chain (thn (ha pins s σ H _ I h) fun v s1 ⟨x, H1, I1, r1, q1⟩ => chain_link (thn (hb pins s1 σ H1 _ I1 q1) fun u s2 ⟨y, H2, I2, r2, q2⟩ =>
    thn (ho pins s2 σ H2 x y v u _ I2 r1 r2 q2) fun d s3 ⟨z, H3, I3, r3, k, e, q3⟩ => ?_)) hm
  subst e
  cases r3
  refine wpAny_truthy_bool ?_
  cases k with
  | false => exact ite_ff ⟨.bl false, H3, I3, rfl, q3⟩
  | true => exact ite_tt (chain_last (thn (hc pins s3 σ H3 _ I3 q3) fun w' s4 ⟨z', H4, I4, r4, q4⟩ => ho' pins s4 σ H4 y z' u w' Q I4 r2 r4 q4))
theorem pt_chain {op op' : CmpOp} {r r' : R2} (ho : OpR X (compareOp op) r) (ho' : OpR X (compareOp op') r') (ha : PE X a ta) (hb : PE X b tb) (hc : PE X c tc)
    (hm : lastMarks [op, op'] [b, c] = false := by with_unfolding_all rfl) : PT X (.Compare a [op, op'] [b, c] pos) (tTest (tChain r r' ta tb tc)) := by
  intro pins s σ H Q I h
  refine isTrue_chain (thn (ha pins s σ H _ I h) fun v s1 ⟨x, H1, I1, r1, q1⟩ => test_link (thn (hb pins s1 σ H1 _ I1 q1) fun u s2 ⟨y, H2, I2, r2, q2⟩ =>
    thn (ho pins s2 σ H2 x y v u _ I2 r1 r2 q2) fun d s3 ⟨z, H3, I3, r3, k, e, q3⟩ => ?_)) hm
  subst e
  cases r3
  refine wpAny_truthy_bool ?_
  cases k with
  | false =>
    obtain ⟨k', e', q'⟩ := q3
    cases e'
    exact ite_ff ⟨H3, I3, q'⟩
  | true =>
    refine ite_tt (test_last (thn (hc pins s3 σ H3 _ I3 q3) fun w' s4 ⟨z', H4, I4, r4, q4⟩ => thn (ho' pins s4 σ H4 y z' u w' _ I4 r2 r4 q4) fun d' s5 ⟨z2, H5, I5, r5, k2, e2, q5⟩ => ?_))
    subst e2
    cases r5
    exact wpAny_truthy_bool ⟨H5, I5, q5⟩

/-! ### truth -/
theorem line63 : (sizeLine : Nat) < 2 ^ 63 := by rw [sizeLine_eq]; decide
/-! ### strs and bytes -/
/-! ### scalar builtins, by CallR -/
theorem vals1 {x : V} {us : List Value} (r : Vals [x] us) : ∃ u, us = [u] ∧ RelV x u := by
  cases r with
  | cons r1 r2 => cases r2; exact ⟨_, rfl, r1⟩
theorem vals2 {x y : V} {us : List Value} (r : Vals [x, y] us) : ∃ u w', us = [u, w'] ∧ RelV x u ∧ RelV y w' := by
  cases r with
  | cons r1 r2 =>
    cases r2 with
    | cons r3 r4 => cases r4; exact ⟨_, _, rfl, r1, r3⟩
theorem call_max2 (hc : X.calm = true) : CallR X (.builtin "max") (fun xs H Q => ∃ i j, xs = [.int i, .int j] ∧ Q (.int (if j > i then j else i)) H) := by
  intro pins s σ H xs us Q I r h
  obtain ⟨i, j, rfl, q⟩ := h
  obtain ⟨u, w', rfl, ⟨t, rfl⟩, ⟨t', rfl⟩⟩ := vals2 r
  refine max_two_ints (I.ok.hd hc) fun h' tk k => ⟨_, H, I.kept k, ?_, q⟩
  by_cases hj : j > i
  · rw [if_pos hj, if_pos hj]; exact ⟨_, rfl⟩
  · rw [if_neg hj, if_neg hj]; exact ⟨_, rfl⟩
theorem call_min2 (hc : X.calm = true) : CallR X (.builtin "min") (fun xs H Q => ∃ i j, xs = [.int i, .int j] ∧ Q (.int (if j < i then j else i)) H) := by
  intro pins s σ H xs us Q I r h
  obtain ⟨i, j, rfl, q⟩ := h
  obtain ⟨u, w', rfl, ⟨t, rfl⟩, ⟨t', rfl⟩⟩ := vals2 r
  refine min_two_ints (I.ok.hd hc) fun h' tk k => ⟨_, H, I.kept k, ?_, q⟩
  by_cases hj : j < i
  · rw [if_pos hj, if_pos hj]; exact ⟨_, rfl⟩
  · rw [if_neg hj, if_neg hj]; exact ⟨_, rfl⟩
end
end L2

namespace L2
open PySem PySem.Spec PyProof.Rows

/-! ### an instance, its attributes a map -/
structure ObjM (h : Heap) (x dx C : Addr) (mA : Str → Option Value) : Prop where
  obj : h.get? x = some (PySem.W.instObj C dx)
  ns : h.Ns1 dx mA
  ne : dx ≠ x

theorem lookIn_ns {h : Heap} {dx : Addr} {mA : Str → Option Value} (n : h.Ns1 dx mA) : ∃ od, h.get? dx = some od ∧ ∀ name, PySem.W.lookIn name od = some (mA name) := by
  obtain ⟨o, es, ep, ho, hd, hk, _, hm⟩ := n
  refine ⟨o, ho, fun name => ?_⟩
  have e := hm name
  unfold nsFind findBy at e
  rw [← Array.find?_toList] at e
  unfold PySem.W.lookIn
  rw [hd]
  dsimp only
  split
  · rename_i y q
    rw [q] at e
    exact congrArg some e
  · rename_i q
    rw [q] at e
    have a : es.toList.any (·.refKey) = false := by
      rw [List.any_eq_false]
      intro y hy
      obtain ⟨z, t, hkey⟩ := hk y (Array.mem_toList_iff.mp hy)
      simp [DictEntry.refKey, hkey]
    have a' : ¬ es.toList.any (·.refKey) = true := by rw [a]; exact Bool.false_ne_true
    rw [if_neg a']
    exact congrArg some e

theorem ObjM.look {h : Heap} {x dx C : Addr} {mA : Str → Option Value} (I : ObjM h x dx C mA) : ∃ od, PySem.W.InstAt h x (PySem.W.instObj C dx) C (some od) ∧ ∀ name, PySem.W.lookIn name od = some (mA name) :=
  let ⟨od, ho, hl⟩ := lookIn_ns I.ns
  ⟨od, ⟨I.obj, rfl, rfl, ho⟩, hl⟩

section
variable {prog : Program} {w : World} {A : Around} {E : Value → Shared → Prop} {s : Shared} {K : PySem.W.Frag} {x dx C f : Addr} {mA : Str → Option Value} {name : Str} {v : Value}

theorem get_map {expr : Bool} {Q : Value → Shared → Prop} (X : K.In s.heap) (I : ObjM s.heap x dx C mA) (hg : PySem.W.plainGet K C name = true) (hh : PySem.W.hasDictIn K C = true)
    (ha : PySem.W.findIn K (.ref C) name = some none) (hv : mA name = some v) (hv' : PySem.W.handedIn v = true) (h : Q v { s with toks := s.toks + 1 }) :
    wpAny (model prog w) A (getAttr (.ref x) name expr) Q E s := by
  obtain ⟨od, J, hl⟩ := I.look
  exact PySem.W.get_value X J (PySem.W.plainGet_of hg).1 (PySem.W.findObj_own hh ha rfl (by rw [hl, hv])) hv' h

theorem set_map {ns : List Str} {Q : Unit → Shared → Prop} (X : K.In s.heap) (I : ObjM s.heap x dx C mA)
    (hs : PySem.W.findIn K (.ref C) "__setattr__" = some (some (.builtin "object.__setattr__"))) (hp : PySem.W.plainOver K C = true) (ht : PySem.W.takerIn K C name = some none) (hh : PySem.W.hasDictIn K C = true)
    (hw : PySem.Within mA ns) (hsz : ns.length ≤ sizeLine)
    (h : ∀ h', ObjM h' x dx C (fun y => if y = name then some v else mA y) → Heap.SameBut dx s.heap h' → Q () { s with heap := h', toks := s.toks + 2 }) :
    wpAny (model prog w) A (setAttr (.ref x) name v) Q E s := by
  obtain ⟨od, J, hl⟩ := I.look
  refine PySem.W.set_plain X J hs (PySem.W.osa_open (s := { s with toks := s.toks + 1 }) (r := none) X J hp ht fun b => ?_)
  obtain ⟨cd, hc, hd'⟩ := PySem.W.any_some hh
  have hx : s.heap.get? x = some ⟨.ref C, some dx, .plain, #[]⟩ := I.obj
  refine wpAny_bind (wpAny_pure (wpAny_bind (wpAny_bind (wpAny_loadPart hx (wpAny_bind (PySem.W.Looks.here (s := { s with toks := s.toks + 1 }) (PySem.W.looks_clsIn X hc) ?_))))))
  rw [hd']
  refine wpAny_pure (a := some dx) (wpAny_bind (wpAny_pure (wpAny_bind ?_)))
  refine wpAny_nsSet1 (s := { s with toks := s.toks + 1 }) I.ns fun h' hn2 hs2 => ?_
  obtain ⟨oD, esD, epD, hoD, hdD, hcD⟩ := hn2.count (PySem.Within.cons name v hw)
  refine wpAny_bind (wpAny_lookBehind hoD (by rw [hdD]; exact pastItsLine_dict (Nat.le_trans hcD (by rw [List.length_cons]; omega))) ?_)
  exact wpAny_pure (h _ ⟨(hs2.2 _ (Ne.symm I.ne)).trans I.obj, hn2, I.ne⟩ hs2)

/-- C(..): the dict at the heap's end, the instance behind it; then its __init__ -/
theorem make_map {R : Result → Shared → Prop} {vs : List Value} {kw : List (Str × Value)} (X : K.In s.heap) (hm : PySem.W.makesIn K C = true)
    (hi : PySem.W.findIn K (.ref C) "__init__" = some (some (.ref f))) (hf : PySem.W.typeIn K (.ref f) = some (.type "function"))
    (h : codeAny (model prog w) (A.under (.builtin "type.__call__" ⟨.ref C :: vs, kw⟩)) (.call (.ref f) ⟨.ref (s.heap.objs.size + 1) :: vs, kw⟩) (PySem.W.InitBack (s.heap.objs.size + 1) R)
      { s with heap := (s.heap.push PySem.W.emptyDict).push (PySem.W.instObj C s.heap.objs.size) }) :
    codeAny (model prog w) A (.call (.ref C) ⟨vs, kw⟩) R s := by
  obtain ⟨hh, g, d, t, os⟩ := s
  exact PySem.W.make_core (PySem.W.makes_of X hm) (PySem.W.looks_findIn X hi) (fun self => PySem.W.bind_fn X self hf) (.inl rfl) h
end

/-! ### the attributes as a list of pairs -/
def putF (f : Str) (v : V) : List (Str × V) → List (Str × V)
  | [] => [(f, v)]
  | (g, x) :: r => if g = f then (g, v) :: r else (g, x) :: putF f v r
theorem lookup_putF (f g : Str) (v : V) : ∀ fs : List (Str × V), (putF f v fs).lookup g = if g = f then some v else fs.lookup g
  | [] => by
    show List.lookup g [(f, v)] = _
    by_cases h : g = f
    · have hb : (g == f) = true := beq_iff_eq.mpr h
      simp only [List.lookup, hb, if_pos h]
    · have hb : (g == f) = false := beq_eq_false_iff_ne.mpr h
      simp only [List.lookup, hb, if_neg h]
  | (k, x) :: r => by
    have ih := lookup_putF f g v r
    rw [show putF f v ((k, x) :: r) = (if k = f then (k, v) :: r else (k, x) :: putF f v r) from rfl]
    by_cases hk : k = f
    · rw [if_pos hk]
      by_cases h : g = k
      · have hb : (g == k) = true := beq_iff_eq.mpr h
        simp only [List.lookup, hb, if_pos (h.trans hk)]
      · have hb : (g == k) = false := beq_eq_false_iff_ne.mpr h
        simp only [List.lookup, hb, if_neg (fun e : g = f => h (e.trans hk.symm))]
    · rw [if_neg hk]
      by_cases h : g = k
      · have hb : (g == k) = true := beq_iff_eq.mpr h
        simp only [List.lookup, hb, if_neg (fun e : g = f => hk (h.symm.trans e))]
      · have hb : (g == k) = false := beq_eq_false_iff_ne.mpr h
        simp only [List.lookup, hb]
        exact ih
theorem keys_putF (f : Str) (v : V) : ∀ fs : List (Str × V), f ∈ (putF f v fs).map (·.1) ∧ ∀ g, g ∈ fs.map (·.1) → g ∈ (putF f v fs).map (·.1)
  | [] => ⟨by simp [putF], fun g h => by simp at h⟩
  | (k, x) :: r => by
    obtain ⟨i1, i2⟩ := keys_putF f v r
    rw [show putF f v ((k, x) :: r) = (if k = f then (k, v) :: r else (k, x) :: putF f v r) from rfl]
    by_cases hk : k = f
    · rw [if_pos hk]
      subst hk
      exact ⟨by simp, fun g h => by simpa using h⟩
    · rw [if_neg hk]
      refine ⟨?_, fun g h => ?_⟩
      · rw [List.map_cons]
        exact List.mem_cons_of_mem _ i1
      · rw [List.map_cons] at h ⊢
        rcases List.mem_cons.mp h with e | e
        · exact List.mem_cons.mpr (.inl e)
        · exact List.mem_cons_of_mem _ (i2 g e)
theorem length_putF (f : Str) (v : V) : ∀ fs : List (Str × V), (putF f v fs).length ≤ fs.length + 1
  | [] => by simp [putF]
  | (k, x) :: r => by
    have ih := length_putF f v r
    rw [show putF f v ((k, x) :: r) = (if k = f then (k, v) :: r else (k, x) :: putF f v r) from rfl]
    by_cases hk : k = f
    · rw [if_pos hk, List.length_cons, List.length_cons]; omega
    · rw [if_neg hk, List.length_cons, List.length_cons]; omega

theorem RelO.some_of {v : V} {o : Option Value} (r : RelO (some v) o) : ∃ u, o = some u ∧ RelV v u := by
  cases o with
  | none => exact (show False from r).elim
  | some u => exact ⟨u, rfl, r⟩
theorem handed_of {v : V} {u : Value} (r : RelV v u) : PySem.W.handedIn u = true := by
  cases v with
  | non => cases (show u = Value.none from r); rfl
  | bl b => cases (show u = Value.bool b from r); rfl
  | int i => obtain ⟨t, e⟩ := (show ∃ t, u = Value.int i t from r); cases e; rfl
  | str x => obtain ⟨t, e⟩ := (show ∃ t, u = Value.str x t from r); cases e; rfl
  | byt b => obtain ⟨t, e⟩ := (show ∃ t, u = Value.bytes b t from r); cases e; rfl
  | flt b => obtain ⟨t, e⟩ := (show ∃ t, u = Value.float b t from r); cases e; rfl
  | ref a => cases (show u = Value.ref a from r); rfl
  | ty n => cases (show u = Value.type n from r); rfl

section
variable {P : Program} {w : World} {H H' : Hp} {h h' : Heap} {a C dx : Addr} {fs fs' : List (Str × V)}
theorem ins_get (hok : HOk P w H h) (e : H a = some (.ins C dx fs)) : ∃ mA, ObjM h a dx C mA ∧ (∀ f, RelO (fs.lookup f) (mA f)) ∧ PySem.Within mA (fs.map (·.1)) ∧ fs.length ≤ 1000 ∧ H dx = some (.own a) := by
  obtain ⟨d, z, ne, ob, mA, n, r, q⟩ := (show ObjOk P w H h a (.ins C dx fs) from hok a _ e)
  exact ⟨mA, ⟨ob, n, ne⟩, r, q, z, d⟩
end

/-! ### what of the text a class must have -/
structure Cls (K : PySem.W.Frag) (C : Addr) : Prop where
  pg : PySem.W.plainGet K C Str.empty = true
  hd : PySem.W.hasDictIn K C = true
  po : PySem.W.plainOver K C = true
  sa : PySem.W.findIn K (.ref C) "__setattr__" = some (some (.builtin "object.__setattr__"))
theorem Cls.get {K : PySem.W.Frag} {C : Addr} (c : Cls K C) (f : Str) : PySem.W.plainGet K C f = true := c.pg
/-- no class of it has the name -/
def NoAttr (K : PySem.W.Frag) (C : Addr) (f : Str) : Prop := PySem.W.findIn K (.ref C) f = some none
theorem NoAttr.taker {K : PySem.W.Frag} {C : Addr} {f : Str} (n : NoAttr K C f) : PySem.W.takerIn K C f = some none := by
  unfold PySem.W.takerIn
  rw [show PySem.W.findIn K (.ref C) f = some none from n]
  rfl
/-- a constant of the class -/
structure Con (K : PySem.W.Frag) (C : Addr) (f : Str) (v : V) (u : Value) : Prop where
  at_ : PySem.W.findIn K (.ref C) f = some (some u)
  rel : RelV v u
  get : PySem.W.specialIn K u "__get__" = some none
  cp : PySem.W.copiedNames.contains f = false
/-- a method: a plain def of the class or of one above it -/
structure Meth (K : PySem.W.Frag) (C : Addr) (m : Str) (f : Addr) : Prop where
  at_ : PySem.W.findIn K (.ref C) m = some (some (.ref f))
  fn : PySem.W.isFn K (.ref f) = true
  kp : PySem.W.keepIn K (.ref f) = true

section
variable {X : Cx} {pins : List (Addr × Obj)} {σ : St} {H : Hp} {s : Shared} {a C dx : Addr} {fs : List (Str × V)} {f : Str} {v : V} {A : Around} {E : Value → Shared → Prop}

theorem getattr_ok {b : Bool} {Q : Value → Shared → Prop} (I : Inv X pins σ H s) (e : H a = some (.ins C dx fs)) (c : Cls X.K C) (n : NoAttr X.K C f) (l : fs.lookup f = some v)
    (h : ∀ u s', Inv X pins σ H s' → RelV v u → Q u s') : wpAny (model X.prog X.w) A (getAttr (.ref a) f b) Q E s := by
  obtain ⟨mA, O, r, _, _, _⟩ := ins_get I.hok e
  obtain ⟨u, hu, ru⟩ := RelO.some_of (v := v) (o := mA f) (by rw [← l]; exact r f)
  exact get_map I.kIn O (c.get f) c.hd n hu (handed_of ru) (h u _ (I.tok _) ru)

theorem setattr_ok {y : V} {u : Value} {Q : Unit → Shared → Prop} (I : Inv X pins σ H s) (e : H a = some (.ins C dx fs)) (c : Cls X.K C) (n : NoAttr X.K C f) (hl : fs.length < 1000) (ry : RelV y u)
    (h : ∀ s', Inv X pins σ (upd H a (.ins C dx (putF f y fs))) s' → Q () s') : wpAny (model X.prog X.w) A (setAttr (.ref a) f u) Q E s := by
  obtain ⟨mA, O, r, wi, _, ho⟩ := ins_get I.hok e
  have hz : (fs.map (·.1)).length ≤ sizeLine := by rw [List.length_map, sizeLine_eq]; omega
  refine set_map I.kIn O c.sa c.po n.taker c.hd wi hz fun h' O' sb => h _ ?_
  have hd : ∃ o, h'.get? dx = some o := let ⟨o, _, _, e', _⟩ := O'.ns; ⟨o, e'⟩
  refine I.write (x := a) (e := dx) (by rw [e]; exact True.intro) (.inr ho) (fun b q hb z => (sb.2 b hb).trans z) hd ?_
  refine ⟨by rw [upd_ne O.ne]; exact ho, ?_, O.ne, O'.obj, _, O'.ns, fun g => ?_, fun g hg => ?_⟩
  · have := length_putF f y fs; omega
  · show RelO ((putF f y fs).lookup g) (if g = f then some u else mA g)
    rw [lookup_putF]
    by_cases q : g = f
    · rw [if_pos q, if_pos q]; exact ry
    · rw [if_neg q, if_neg q]; exact r g
  · by_cases q : g = f
    · rw [q]; exact (keys_putF f y fs).1
    · refine (keys_putF f y fs).2 g (wi g fun z => hg ?_)
      show (if g = f then some u else mA g) = none
      rw [if_neg q]; exact z

/-- a new instance, tracked, without attributes -/
theorem Inv.made (I : Inv X pins σ H s) : Inv X pins σ (upd (upd H s.heap.objs.size (.own (s.heap.objs.size + 1))) (s.heap.objs.size + 1) (.ins C s.heap.objs.size []))
    { s with heap := (s.heap.push PySem.W.emptyDict).push (PySem.W.instObj C s.heap.objs.size) } := by
  have e1 : (s.heap.push PySem.W.emptyDict).get? s.heap.objs.size = some PySem.W.emptyDict := Heap.get?_push_size s.heap rfl
  have e2 : ((s.heap.push PySem.W.emptyDict).push (PySem.W.instObj C s.heap.objs.size)).get? (s.heap.objs.size + 1) = some (PySem.W.instObj C s.heap.objs.size) := by
    have := Heap.get?_push_size (s.heap.push PySem.W.emptyDict) (o := PySem.W.instObj C s.heap.objs.size) rfl
    rwa [Heap.size_push] at this
  have e3 : (s.heap.push PySem.W.emptyDict).Ns s.heap.objs.size (fun _ => none) := ⟨PySem.W.emptyDict, #[], _, e1, rfl, (fun e he => absurd he (by simp)), fun _ => rfl⟩
  have I1 := I.laid (a := s.heap.objs.size) (o := .own (s.heap.objs.size + 1)) (h' := s.heap.push PySem.W.emptyDict) (t' := s.toks) (fun b u q => Heap.get?_push_of_some _ q) (Nat.le_refl _) ⟨_, e1⟩
  refine I1.laid (a := s.heap.objs.size + 1) (o := .ins C s.heap.objs.size []) (t' := s.toks) (fun b u q => Heap.get?_push_of_some _ q) (Nat.le_of_eq (Heap.size_push _ _)) ?_
  have ne : s.heap.objs.size ≠ s.heap.objs.size + 1 := Nat.ne_of_lt (Nat.lt_succ_self _)
  refine ⟨by rw [upd_ne ne, upd_same], Nat.zero_le _, ne, e2, fun _ => none, (Heap.Ns1.of_empty e3).at fun o q => Heap.get?_push_of_some _ q, fun _ => True.intro, fun y hy => absurd rfl hy⟩

/-- e.f where nothing but the object is asked: through attributeBase (super) and the last hold -/
theorem attr_of {prog : Program} {w : World} {env : Env} {e : Expr} {f : Str} {pos : Pos} {s : Shared} {Q : Value → Shared → Prop} (hb : attributeBase e f env (eval e env) = eval e env)
    (h : wpAny (model prog w) A (eval e env) (fun o s₁ => wpAny (model prog w) A (getAttr o f true) Q E s₁) E s) : wpAny (model prog w) A (eval (.Attribute e f pos) env) Q E s :=
  Attribute_any_ h (by rw [arm_eval_Attribute, hb])
end

/-! ### readings and rules -/
/-- e.f, an attribute of the instance -/
def tFld (K : PySem.W.Frag) (ta : TE) (f : Str) : TE := fun σ H Q => ta σ H fun x H1 => ∃ a C dx fs v, x = .ref a ∧ H1 a = some (.ins C dx fs) ∧ Cls K C ∧ NoAttr K C f ∧ fs.lookup f = some v ∧ Q v H1
/-- e.f = value -/
def sFld (K : PySem.W.Frag) (ta tv : TE) (f : Str) : TS := fun D σ H => tv σ H fun y H1 => ta σ H1 fun x H2 => ∃ a C dx fs, x = .ref a ∧ H2 a = some (.ins C dx fs) ∧ Cls K C ∧ NoAttr K C f ∧ fs.length < 1000 ∧
  D.nx σ (upd H2 a (.ins C dx (putF f y fs)))
section
variable {X : Cx} {o e value : Expr} {f : Str} {pos pos' tpos : Pos} {ta tv : TE}
theorem pe_fld (he : PE X e ta) (hb : attributeBase e f X.env (eval e X.env) = eval e X.env) : PE X (.Attribute e f pos) (tFld X.K ta f) := by
  intro pins s σ H Q I h
  refine attr_of hb (thn (he pins s σ H _ I h) fun u s1 ⟨x, H1, I1, rx, a, C, dx, fs, v, ex, ea, c, n, l, q⟩ => ?_)
  subst ex
  obtain rfl : u = Value.ref a := rx
  exact getattr_ok I1 ea c n l fun u' s2 I2 ru => ⟨v, H1, I2, ru, q⟩
theorem ps_fld (ha : PE X o ta) (hv : PE X value tv) (hs : swapsWith value (some (.Attribute o f pos')) pos.line X.env = pure false) : PS X (.Assign [.Attribute o f pos'] value pos) (sFld X.K ta tv f) := by
  intro pins s σ H D I h
  refine plainObj_wpAny_Assign_Attribute (thn (hv pins s σ H _ I h) fun u s1 ⟨y, H1, I1, ry, q⟩ => thn (ha pins s1 σ H1 _ I1 q) fun ov s2 ⟨x, H2, I2, rx, a, C, dx, fs, ex, ea, c, n, l, q2⟩ => ?_) hs
  subst ex
  obtain rfl : ov = Value.ref a := rx
  exact setattr_ok I2 ea c n l ry fun s3 I3 => ⟨σ, _, I3, q2⟩
end

/-! ### isinstance -/
section
variable {X : Cx} {pins : List (Addr × Obj)} {σ : St} {H : Hp} {s : Shared} {A : Around} {E : Value → Shared → Prop} {Q : Value → Shared → Prop} {c : Value} {b : Bool}
/-- the type of a value, as the fragment's deciders take it; for an instance its class -/
inductive TyOf (K : PySem.W.Frag) (H : Hp) : V → Value → Prop where
  | non : TyOf K H .non (.type "NoneType")
  | bl (x : Bool) : TyOf K H (.bl x) (.type "bool")
  | int (i : Int) : TyOf K H (.int i) (.type "int")
  | str (x : Str) : TyOf K H (.str x) (.type "str")
  | flt (x : UInt64) : TyOf K H (.flt x) (.type "float")
  | lst {a : Addr} {xs : List V} (e : H a = some (.lst xs)) : TyOf K H (.ref a) (.type "list")
  | frz {a : Addr} {o : Obj} {xs : List V} (e : H a = some (.frz o (.lst xs))) : TyOf K H (.ref a) (.type "list")
  | tup {a : Addr} {xs : List V} (e : H a = some (.tup xs)) : TyOf K H (.ref a) (.type "tuple")
  | dK {a : Addr} {kvs : List (Key × V)} (e : H a = some (.dK kvs)) : TyOf K H (.ref a) (.type "dict")
  | dT {a : Addr} {kvs : List (List Key × V)} (e : H a = some (.dT kvs)) : TyOf K H (.ref a) (.type "dict")
  | ins {a C dx : Addr} {fs : List (Str × V)} (e : H a = some (.ins C dx fs)) (cl : Cls K C) (ha : PySem.W.findIn K (.ref C) "__class__" = some (some (.builtin "object.__class__")))
      (hn : PySem.W.specialIn K (.builtin "object.__class__") "__get__" = some (some (.builtin "getset_descriptor.__get__"))) (htk : PySem.W.takesIn K (.builtin "object.__class__") = some true)
      (hm : PySem.W.mroIn K C (.type "object") = some true) : TyOf K H (.ref a) (.ref C)
/-- isinstance(x, c) for one class c, a built-in or an own one: kitOne's answer -/
theorem isinst_ok {x : V} {u t : Value} (I : Inv X pins σ H s) (rx : RelV x u) (ty : TyOf X.K H x t) (e : PySem.W.kitOne X.K t c = some b) (h : ∀ tk, Q (.bool b) { s with toks := tk }) :
    wpAny (model X.prog X.w) A (call (.builtin "isinstance") [u, c]) Q E s := by
  cases ty with
  | non => cases (show u = Value.none from rx); exact PySem.W.kia_one PySem.W.kitx_none I.kIn True.intro e (fun z => nomatch z) h
  | bl y => cases (show u = Value.bool y from rx); exact PySem.W.kia_one PySem.W.kitx_bool I.kIn True.intro e (fun z => nomatch z) h
  | int i => obtain ⟨t, q⟩ := (show ∃ t, u = Value.int i t from rx); cases q; exact PySem.W.kia_one PySem.W.kitx_int I.kIn True.intro e (fun z => nomatch z) h
  | str y => obtain ⟨t, q⟩ := (show ∃ t, u = Value.str y t from rx); cases q; exact PySem.W.kia_one PySem.W.kitx_str I.kIn True.intro e (fun z => nomatch z) h
  | flt y => obtain ⟨t, q⟩ := (show ∃ t, u = Value.float y t from rx); cases q; exact PySem.W.kia_one PySem.W.kitx_float I.kIn True.intro e (fun z => nomatch z) h
  | @lst a xs ea =>
    cases (show u = Value.ref a from rx)
    obtain ⟨_, _, n, _, h1⟩ := (show ObjOk X.prog X.w H s.heap a (.lst xs) from I.hok a _ ea)
    exact PySem.W.kia_one PySem.W.kitx_list I.kIn ⟨_, h1, rfl⟩ e (fun z => nomatch z) h
  | @frz a ob xs ea =>
    cases (show u = Value.ref a from rx)
    obtain ⟨_, _, _, n, _, h1⟩ := (show ObjOk X.prog X.w H s.heap a (.frz ob (.lst xs)) from I.hok a _ ea)
    exact PySem.W.kia_one PySem.W.kitx_list I.kIn ⟨_, h1, rfl⟩ e (fun z => nomatch z) h
  | @tup a xs ea =>
    cases (show u = Value.ref a from rx)
    obtain ⟨_, _, _, p⟩ := (show ObjOk X.prog X.w H s.heap a (.tup xs) from I.hok a _ ea)
    obtain ⟨o, h1, h2, _⟩ := p
    exact PySem.W.kia_one PySem.W.kitx_tuple I.kIn ⟨o, h1, h2⟩ e (fun z => nomatch z) h
  | @dK a kvs ea =>
    cases (show u = Value.ref a from rx)
    obtain ⟨_, _, vs, _, p⟩ := (show ObjOk X.prog X.w H s.heap a (.dK kvs) from I.hok a _ ea)
    obtain ⟨o, es, ep, h1, h2, _⟩ := p
    exact PySem.W.kia_one PySem.W.kitx_dict I.kIn ⟨o, h1, h2.1⟩ e (fun z => nomatch z) h
  | @dT a kvs ea =>
    cases (show u = Value.ref a from rx)
    obtain ⟨_, _, xs, _, o, es, ep, h1, h2, _⟩ := (show ObjOk X.prog X.w H s.heap a (.dT kvs) from I.hok a _ ea)
    exact PySem.W.kia_one PySem.W.kitx_dict I.kIn ⟨o, h1, h2.1⟩ e (fun z => nomatch z) h
  | @ins a C dx fs ea cl ha hn htk hm =>
    cases (show u = Value.ref a from rx)
    obtain ⟨mA, O, _⟩ := ins_get I.hok ea
    obtain ⟨od, J, _⟩ := O.look
    exact PySem.W.kia_one (PySem.W.kitx_own (cl.get _) cl.hd ha hn htk hm) I.kIn J e (fun z => nomatch z) h
end
end L2

namespace L2
open PySem PySem.Spec PyProof.Rows

/-! ### room -/
structure Room (k : Nat) (A : Around) : Prop where
  hd : A.handled = none
  dp : A.depth + 3 * k + 5 < recursionLimit
  un : A.units + 16 * k + 200 < cLine
theorem Room.mono {j k : Nat} {A : Around} (r : Room k A) (h : j ≤ k) : Room j A := ⟨r.hd, by have := r.dp; omega, by have := r.un; omega⟩
theorem Room.deeper {k : Nat} {A : Around} (r : Room (k + 1) A) (env : Env) : Room k (A.deeper env) :=
  ⟨r.hd, by have := r.dp; show A.depth + 1 + 3 * k + 5 < _; omega, by have := r.un; show A.units + 3 + 16 * k + 200 < _; omega⟩
theorem make_depth {A : Around} {C : Addr} {us : List Value} {kw : List (Str × Value)} : (A.under (.builtin "type.__call__" ⟨.ref C :: us, kw⟩)).depth = A.depth + 1 := by
  first | rfl | simp [Around.under, Code.weight, Code.isCreation, Code.isGuard, Code.isCaller, Code.frames, Code.isFrame, guardIds]
theorem make_units {A : Around} {C : Addr} {us : List Value} {kw : List (Str × Value)} : (A.under (.builtin "type.__call__" ⟨.ref C :: us, kw⟩)).units = A.units + 1 := by
  first | rfl | simp [Around.under, Code.cUnits, Code.frames, Code.isFrame]
theorem Room.make {k : Nat} {A : Around} (r : Room (k + 1) A) (C : Addr) (us : List Value) (kw : List (Str × Value)) : Room k (A.under (.builtin "type.__call__" ⟨.ref C :: us, kw⟩)) :=
  ⟨r.hd, by have := r.dp; rw [make_depth]; omega, by have := r.un; rw [make_units]; omega⟩
theorem Room.depth {k : Nat} {A : Around} (r : Room k A) : A.depth < recursionLimit := by have := r.dp; omega
theorem Room.units {k : Nat} {A : Around} (r : Room k A) : A.units + 64 < cLine := by have := r.un; omega
/-! ### argument lists and displays -/
def tNil : TA := fun _ H Q => Q [] H
def tCons (ta : TE) (tr : TA) : TA := fun σ H Q => ta σ H fun x H1 => tr σ H1 fun xs H2 => Q (x :: xs) H2
section
variable {X : Cx} {e : Expr} {es : List Expr} {te : TE} {t : TA} {pos : Pos}
theorem pa_nil : PA X [] tNil := fun _ _ _ _ H Q I h => Calls.spliced_nil ⟨[], H, I, .nil, h⟩
theorem pa_cons (ha : PE X e te) (hr : PA X es t) (hs : starEach (e :: es) X.env = (false, eval e X.env) :: starEach es X.env := by rfl) : PA X (e :: es) (tCons te t) := by
  intro pos pins s σ H Q I h
  rw [hs]
  show wpAny _ _ (spliced ((false, eval e X.env) :: backTo pos (starEach es X.env))) _ _ s
  refine Calls.spliced_cons (thn (ha pins s σ H _ I h) fun u s1 ⟨x, H1, I1, r1, q1⟩ => ?_)
  exact thn (hr pos pins s1 σ H1 _ I1 q1) fun us s2 ⟨xs, H2, I2, r2, q2⟩ => ⟨x :: xs, H2, I2, .cons r1 r2, q2⟩

/-- a tuple, a list of written items -/
def tTup (t : TA) : TE := fun σ H Q => t σ H fun xs H1 => xs.length ≤ sizeLine ∧ ∀ p, H1 p = none → Q (.ref p) (upd H1 p (.tup xs))
def tLst (t : TA) : TE := fun σ H Q => t σ H fun xs H1 => xs.length ≤ sizeLine ∧ ∀ p, H1 p = none → Q (.ref p) (upd H1 p (.lst xs))
theorem pe_tup {x1} (h : PA X es t) : PE X (.Tuple es x1 pos) (tTup t) := by
  intro pins s σ H Q I hq
  refine wpAny_Tuple_spliced (thn (h pos pins s σ H _ I hq) fun us s1 ⟨xs, H1, I1, r, z, q⟩ => ⟨by rw [← r.length]; exact z, ?_⟩)
  have hf : H1 s1.heap.objs.size = none := I1.hok.fresh (Nat.le_refl _)
  refine ⟨.ref s1.heap.objs.size, upd H1 s1.heap.objs.size (.tup xs), I1.laid (t' := s1.toks) (fun b u e => Heap.get?_push_of_some _ e) (Nat.le_refl _) ?_, rfl, q _ hf⟩
  exact ⟨z, us, r, ⟨_, Heap.get?_push_size _ rfl, rfl, _, rfl⟩⟩
theorem pe_lst (h : PA X es t) : PE X (.List es pos) (tLst t) := by
  intro pins s σ H Q I hq
  refine wpAny_List_spliced (thn (h pos pins s σ H _ I hq) fun us s1 ⟨xs, H1, I1, r, z, q⟩ => ⟨by rw [← r.length]; exact z, ?_⟩)
  have hf : H1 s1.heap.objs.size = none := I1.hok.fresh (Nat.le_refl _)
  refine ⟨.ref s1.heap.objs.size, upd H1 s1.heap.objs.size (.lst xs), I1.laid (t' := s1.toks) (fun b u e => Heap.get?_push_of_some _ e) (Nat.le_refl _) ?_, rfl, q _ hf⟩
  exact ⟨z, us, 0, r, Heap.get?_push_size _ rfl⟩
end

/-! ### what a def promises -/
/-- a def's promise: the bound arguments in the parameters' order, the heap, the wanted end, the wanted exception -/
abbrev Sp := List V → Hp → VK → XK → Prop
/-- how an exception lies behind a call (file 08 gives it): the callers' frames, abstract heap and state ahead of the call, the wish, the exception, the state -/
abbrev CXT := List Env → Hp → Shared → XK → Value → Shared → Prop

/-- the state at a call -/
structure Env0 (P : Program) (w : World) (K : PySem.W.Frag) (mg : Str → Option Value) (base : Heap) (A : Around) (outer : List Env) (s : Shared) (H : Hp) : Prop where
  frames : A.frames = some outer
  mod : Mod K mg base
  bs : ∀ b o, base.get? b = some o → s.heap.get? b = some o ∧ H b = none
  bsz : base.objs.size ≤ s.heap.objs.size
  funs : s.heap.FunFrames base outer
  frf : ∀ b ∈ frs outer, H b = none
  hok : HOk P w H s.heap
  bare : AllBare s.gens
/-- a call's end -/
def CE (outer : List Env) (P : Program) (w : World) (H : Hp) (s : Shared) (Q : VK) (u : Value) (s' : Shared) : Prop :=
  ∃ v H', s'.os = s.os ∧ AllBare s'.gens ∧ Un (frs outer) [] H H' s.heap s'.heap ∧ HOk P w H' s'.heap ∧ RelV v u ∧ Q v H'
def CR (CX : CXT) (outer : List Env) (P : Program) (w : World) (H : Hp) (s : Shared) (Q : VK) (E : XK) (r : Result) (s' : Shared) : Prop :=
  match r with
  | .ok (.ret u) => CE outer P w H s Q u s'
  | .ok _ => False
  | .error e => CX outer H s E e s'
structure FnOk (P : Program) (w : World) (K : PySem.W.Frag) (mg : Str → Option Value) (base : Heap) (CX : CXT) (k : Nat) (f : Addr) (fd : FuncData) (ps : List Str) (sp : Sp) : Prop where
  len : ∀ vs H Q E, sp vs H Q E → vs.length = ps.length
  run : ∀ (A : Around) (outer : List Env) (s : Shared) (H : Hp) (args : Args) (us : List Value) (vs : List V) (Q : VK) (E : XK), Room k A → Env0 P w K mg base A outer s H → BindsTo s fd args (ps.zip us) → Vals vs us → sp vs H Q E →
    codeAny (model P w) A (.call (.ref f) args) (CR CX outer P w H s Q E) s
/-- a weaker promise -/
theorem FnOk.imp {P : Program} {w : World} {K : PySem.W.Frag} {mg : Str → Option Value} {base : Heap} {CX : CXT} {k : Nat} {f : Addr} {fd : FuncData} {ps : List Str} {sp sp' : Sp} (F : FnOk P w K mg base CX k f fd ps sp)
    (h : ∀ vs H Q E, sp' vs H Q E → sp vs H Q E) : FnOk P w K mg base CX k f fd ps sp' :=
  ⟨fun vs H Q E q => F.len vs H Q E (h _ _ _ _ q), fun A outer s H args us vs Q E hr he hb hv hs => F.run A outer s H args us vs Q E hr he hb hv (h _ _ _ _ hs)⟩

theorem Env0.make {P : Program} {w : World} {K : PySem.W.Frag} {mg : Str → Option Value} {base : Heap} {A : Around} {outer : List Env} {s : Shared} {H : Hp} (e : Env0 P w K mg base A outer s H) (C : Addr) (us : List Value) (kw : List (Str × Value)) :
    Env0 P w K mg base (A.under (.builtin "type.__call__" ⟨.ref C :: us, kw⟩)) outer s H := ⟨by first | exact e.frames | (simpa [Around.under, Code.envs, Code.isFrame, pushEnvs] using e.frames), e.mod, e.bs, e.bsz, e.funs, e.frf, e.hok, e.bare⟩
section
variable {X : Cx} {pins : List (Addr × Obj)} {σ : St} {H : Hp} {s s' : Shared}
/-- from a body: what a callee wants -/
theorem Inv.env0 (I : Inv X pins σ H s) : Env0 X.prog X.w X.K X.mg X.base X.A X.stack s H :=
  ⟨I.ok.frames, I.ok.mod, I.bs, Nat.le_trans I.ok.bsz I.sz, I.stack, I.stkFree, I.hok, I.bare⟩
/-- behind a call -/
theorem Inv.after {Q : VK} {u : Value} (I : Inv X pins σ H s) (h : CE X.stack X.prog X.w H s Q u s') : EP X pins σ Q u s' := by
  obtain ⟨v, H', os, bare, un, hok, r, q⟩ := h
  obtain ⟨hh, g, d, t, os'⟩ := s'
  obtain rfl : os' = s.os := os
  exact ⟨v, H', I.call (h' := hh) (g' := g) (d' := d) (t' := t) (ch := []) un hok bare (fun b z => absurd z (by simp)), r, q⟩
end

/-! ### calls -/
/-- f(..): the written arguments, then the defaults dvs; E: what is wanted of an exception -/
def tCall (sp : Sp) (dvs : List V) (E : XK) (t : TA) : TE := fun σ H Q => t σ H fun vs H1 => sp (vs ++ dvs) H1 Q E
/-- C(..): a new instance and its dict, then __init__ -/
def tMake (C : Addr) (sp : Sp) (dvs : List V) (E : XK) (t : TA) : TE := fun σ H Q => t σ H fun vs H1 => ∀ x dx, H1 x = none → H1 dx = none → dx ≠ x →
  sp (.ref x :: (vs ++ dvs)) (upd (upd H1 dx (.own x)) x (.ins C dx [])) (fun v H2 => v = .non ∧ Q (.ref x) H2) E

/-- how the parameters are bound: us the positional arguments, kw the keywords' values by name, ds the defaults that fill up -/
def Binds (K : PySem.W.Frag) (fd : FuncData) (ps : List Str) (ds : List Value) : Prop :=
  ∀ (s : Shared) (us : List Value), K.In s.heap → (us ++ ds).length = ps.length → BindsTo s fd ⟨us, []⟩ (ps.zip (us ++ ds))
/-- every parameter is given -/
theorem Binds.all {K : PySem.W.Frag} {fd : FuncData} {ps : List Str} (h : ∀ us : List Value, us.length = ps.length → bindArgs fd ⟨us, []⟩ = pure (ps.zip us)) : Binds K fd ps [] := fun s us _ hl => by
  rw [List.append_nil] at hl ⊢
  exact .of_eq (h us hl)

/-- an exception of a callee reaches what this body wants of exceptions -/
def Passes (CX : CXT) (X : Cx) (E : XK) : Prop := ∀ (pins : List (Addr × Obj)) (σ : St) (H : Hp) (s : Shared) (e : Value) (s' : Shared), Inv X pins σ H s → CX X.stack H s E e s' → X.xe e s'

section
variable {X : Cx} {CX : CXT} {k : Nat} {f C : Addr} {fd : FuncData} {ps : List Str} {sp : Sp} {dvs : List V} {ds : List Value} {E : XK} {x m : Str} {p pos apos : Pos} {e o : Expr} {es : List Expr} {ta : TE} {t : TA}

/-- the callee runs -/
theorem run_fn {pins : List (Addr × Obj)} {σ : St} {H : Hp} {s : Shared} {Q : VK} {us : List Value} {vs : List V} (F : FnOk X.prog X.w X.K X.mg X.base CX k f fd ps sp) (hr : Room k X.A) (hb : Binds X.K fd ps ds) (hd : Vals dvs ds) (hx : Passes CX X E)
    (I : Inv X pins σ H s) (r : Vals vs us) (h : sp (vs ++ dvs) H Q E) : wpAny (model X.prog X.w) X.A (call (.ref f) us) (EP X pins σ Q) X.xe s := by
  have r2 : Vals (vs ++ dvs) (us ++ ds) := r.append hd
  have hl : (us ++ ds).length = ps.length := by rw [← r2.length]; exact F.len _ _ _ _ h
  refine wpAny_call (codeAny_mono (F.run X.A X.stack s H ⟨us, []⟩ (us ++ ds) (vs ++ dvs) Q E hr I.env0 (hb s us I.kIn hl) r2 h) fun r s' hq => ?_)
  cases r with
  | error e => exact hx pins σ H s e s' I hq
  | ok fl =>
    cases fl with
    | ret u => exact I.after hq
    | next => exact False.elim hq
    | brk => exact False.elim hq
    | cont => exact False.elim hq

theorem pe_call (F : FnOk X.prog X.w X.K X.mg X.base CX k f fd ps sp) (hr : Room k X.A) (hg : Gl X x) (hm : X.mg x = some (.ref f)) (hk : PySem.W.keepIn X.K (.ref f) = true) (hb : Binds X.K fd ps ds) (hd : Vals dvs ds) (hx : Passes CX X E)
    (ha : PA X (e :: es) t) (hdb : (x == ("__debug__" : Str)) = false := by decide) (he : starEach (e :: es) X.env = (false, eval e X.env) :: starEach es X.env := by rfl) (hpl : (backTo pos (starEach es X.env)).any (·.1) = false := by rfl) :
    PE X (.Call (.Name x p) (e :: es) [] pos) (tCall sp dvs E t) := by
  intro pins s σ H Q I h
  refine wpAny_Call_Name_kw (ld_glob I hg hm ?_ hdb)
  refine PySem.W.callWith_K (h₀ := X.base) I.ok.mod.kin hk (thn (ha pos pins s σ H _ I h) fun us s1 ⟨vs, H1, I1, r, q⟩ => ⟨I1.kIn, ?_⟩) he hpl
  exact run_fn F hr hb hd hx I1 r q
/-- what a class must have to be made -/
structure Mk (K : PySem.W.Frag) (C f : Addr) : Prop where
  makes : PySem.W.makesIn K C = true
  init : PySem.W.findIn K (.ref C) "__init__" = some (some (.ref f))
  fn : PySem.W.isFn K (.ref f) = true
  kp : PySem.W.keepIn K (.ref C) = true

theorem run_make {pins : List (Addr × Obj)} {σ : St} {H : Hp} {s : Shared} {Q : VK} {us : List Value} {vs : List V} (M : Mk X.K C f) (F : FnOk X.prog X.w X.K X.mg X.base CX k f fd ps sp) (hr : Room (k + 1) X.A) (hb : Binds X.K fd ps ds) (hd : Vals dvs ds)
    (hx : Passes CX X E) (I : Inv X pins σ H s) (r : Vals vs us)
    (h : ∀ x dx, H x = none → H dx = none → dx ≠ x → sp (.ref x :: (vs ++ dvs)) (upd (upd H dx (.own x)) x (.ins C dx [])) (fun v H2 => v = .non ∧ Q (.ref x) H2) E) :
    wpAny (model X.prog X.w) X.A (call (.ref C) us) (EP X pins σ Q) X.xe s := by
  have hq := h (s.heap.objs.size + 1) s.heap.objs.size (I.hok.fresh (Nat.le_succ _)) (I.hok.fresh (Nat.le_refl _)) (Nat.ne_of_lt (Nat.lt_succ_self _))
  have I2 := Inv.made (C := C) I
  have r2 : Vals (V.ref (s.heap.objs.size + 1) :: (vs ++ dvs)) (Value.ref (s.heap.objs.size + 1) :: (us ++ ds)) := .cons rfl (r.append hd)
  have hl : (Value.ref (s.heap.objs.size + 1) :: us ++ ds).length = ps.length := by
    have e := r2.length
    rw [F.len _ _ _ _ hq] at e
    exact e.symm
  refine wpAny_call (make_map (f := f) I.kIn M.makes M.init (beq_iff_eq.mp M.fn) (codeAny_mono (F.run _ X.stack _ _ ⟨Value.ref (s.heap.objs.size + 1) :: us, []⟩ (Value.ref (s.heap.objs.size + 1) :: (us ++ ds)) _ _ E (hr.make C us [])
    (I2.env0.make C us []) (hb _ (Value.ref (s.heap.objs.size + 1) :: us) I2.kIn hl) r2 hq) fun r s' hq' => ?_))
  cases r with
  | error e => exact hx pins σ _ _ e s' I2 hq'
  | ok fl =>
    cases fl with
    | ret u =>
      obtain ⟨v, H', I3, rv, ev, q3⟩ := I2.after hq'
      subst ev
      exact ⟨rv, ⟨V.ref (s.heap.objs.size + 1), H', I3, rfl, q3⟩⟩
    | next => exact False.elim hq'
    | brk => exact False.elim hq'
    | cont => exact False.elim hq'
theorem pe_make (M : Mk X.K C f) (F : FnOk X.prog X.w X.K X.mg X.base CX k f fd ps sp) (hr : Room (k + 1) X.A) (hg : Gl X x) (hm : X.mg x = some (.ref C)) (hb : Binds X.K fd ps ds) (hd : Vals dvs ds) (hx : Passes CX X E)
    (ha : PA X (e :: es) t) (hdb : (x == ("__debug__" : Str)) = false := by decide) (he : starEach (e :: es) X.env = (false, eval e X.env) :: starEach es X.env := by rfl) (hpl : (backTo pos (starEach es X.env)).any (·.1) = false := by rfl) :
    PE X (.Call (.Name x p) (e :: es) [] pos) (tMake C sp dvs E t) := by
  intro pins s σ H Q I h
  refine wpAny_Call_Name_kw (ld_glob I hg hm ?_ hdb)
  refine PySem.W.callWith_K (h₀ := X.base) I.ok.mod.kin M.kp (thn (ha pos pins s σ H _ I h) fun us s1 ⟨vs, H1, I1, r, q⟩ => ⟨I1.kIn, ?_⟩) he hpl
  exact run_make M F hr hb hd hx I1 r q
end

/-! ### keywords -/
section
variable {X : Cx} {CX : CXT} {k : Nat} {f C : Addr} {fd : FuncData} {ps ks : List Str} {sp : Sp} {E : XK} {x m : Str} {p pos apos kpos : Pos} {e o : Expr} {es : List Expr} {kws : List Keyword} {te ta : TE} {t tk : TA} {nm : Option Str}
/-- how a call with keywords binds: g puts the positional values us and the keywords' values ws (names ks) in the parameters' order, defaults among them -/
structure KBinds (K : PySem.W.Frag) (fd : FuncData) (ps ks : List Str) (g : List Value → List Value → List Value) (gV : List V → List V → List V) : Prop where
  to : ∀ (s : Shared) (us ws : List Value), K.In s.heap → (g us ws).length = ps.length → BindsTo s fd ⟨us, ks.zip ws⟩ (ps.zip (g us ws))
  rel : ∀ {vs : List V} {us : List Value} {zs : List V} {ws : List Value}, Vals vs us → Vals zs ws → Vals (gV vs zs) (g us ws)
variable {g : List Value → List Value → List Value} {gV : List V → List V → List V}
end

/-! ### a def's body keeps its promise -/
/-- names: the parameters first -/
structure FnScope (N P : List Str) (sc : Scope) : Prop where
  kind : sc.kind = .function
  co : sc.isCoroutine = false
  gen : sc.isGenerator = false
  nd : N.Nodup
  pre : N.take P.length = P
  par : ∀ x ∈ P, sc.names.lookup x = some .local ∨ sc.names.lookup x = some .cell
  nofree : ∀ y ∈ sc.names, y.2 ≠ .free

theorem bindL_out {kindOf : Str → Option NameKind} {x : Str} : ∀ {binds : List (Str × Value)} {m : Str → Option Value}, (∀ v, (x, v) ∉ binds) → bindL kindOf binds m x = m x
  | [], _, _ => rfl
  | (n, v) :: r, m, h => by
    unfold bindL
    rw [bindL_out fun w hw => h w (List.mem_cons_of_mem _ hw)]
    split
    · have : x ≠ n := by rintro rfl; exact h v List.mem_cons_self
      simp [this]
    · rfl
theorem bindC_out {kindOf : Str → Option NameKind} {x : Str} : ∀ {binds : List (Str × Value)} {m : Str → Option Value}, (∀ v, (x, v) ∉ binds) → bindC kindOf binds m x = m x
  | [], _, _ => rfl
  | (n, v) :: r, m, h => by
    unfold bindC
    rw [bindC_out fun w hw => h w (List.mem_cons_of_mem _ hw)]
    split
    · rfl
    · have : x ≠ n := by rintro rfl; exact h v List.mem_cons_self
      simp [this]
theorem bindL_get {kindOf : Str → Option NameKind} {x : Str} {v : Value} : ∀ {P : List Str} {vs : List Value} {i : Nat} {m : Str → Option Value}, P.Nodup → P[i]? = some x → vs[i]? = some v → kindOf x = some .local →
    bindL kindOf (P.zip vs) m x = some v
  | [], _, _, _, _, h, _, _ => by simp at h
  | _ :: _, [], _, _, _, _, h, _ => by simp at h
  | p :: P, w :: vs, 0, m, nd, h1, h2, hk => by
    simp at h1 h2; subst h1; subst h2
    show bindL kindOf ((p, w) :: P.zip vs) m p = _
    unfold bindL
    rw [bindL_out fun v hv => (List.nodup_cons.mp nd).1 (List.of_mem_zip hv).1, if_pos hk]
    simp
  | p :: P, w :: vs, i + 1, m, nd, h1, h2, hk => by
    show bindL kindOf ((p, w) :: P.zip vs) m x = _
    unfold bindL
    exact bindL_get (i := i) (List.nodup_cons.mp nd).2 (by simpa using h1) (by simpa using h2) hk
theorem bindC_get {kindOf : Str → Option NameKind} {x : Str} {v : Value} : ∀ {P : List Str} {vs : List Value} {i : Nat} {m : Str → Option Value}, P.Nodup → P[i]? = some x → vs[i]? = some v → kindOf x ≠ some .local →
    bindC kindOf (P.zip vs) m x = some v
  | [], _, _, _, _, h, _, _ => by simp at h
  | _ :: _, [], _, _, _, _, h, _ => by simp at h
  | p :: P, w :: vs, 0, m, nd, h1, h2, hk => by
    simp at h1 h2; subst h1; subst h2
    show bindC kindOf ((p, w) :: P.zip vs) m p = _
    unfold bindC
    rw [bindC_out fun v hv => (List.nodup_cons.mp nd).1 (List.of_mem_zip hv).1, if_neg hk]
    simp
  | p :: P, w :: vs, i + 1, m, nd, h1, h2, hk => by
    show bindC kindOf ((p, w) :: P.zip vs) m x = _
    unfold bindC
    exact bindC_get (i := i) (List.nodup_cons.mp nd).2 (by simpa using h1) (by simpa using h2) hk

/-- the names' values at the entry -/
def start (N : List Str) (vs : List V) : St := vs.map some ++ List.replicate (N.length - vs.length) none

/-- the context of a def's body, at its entry; an exception leaves the frame, then lies as CX says -/
def cxOf (CX : CXT) (P : Program) (w : World) (K : PySem.W.Frag) (mg : Str → Option Value) (base : Heap) (N : List Str) (qual : Str) (scope : Scope) (f : Addr) (cd : Value) (A : Around) (outer : List Env) (s : Shared) (H : Hp) (E : XK) : Cx where
  prog := P
  w := w
  K := K
  mg := mg
  base := base
  A := A.deeper (envOfC qual scope s.heap.objs.size f cd)
  N := N
  s₀ := s
  H₀ := H
  env := envOfC qual scope s.heap.objs.size f cd
  outer := outer
  stack := envOfC qual scope s.heap.objs.size f cd :: outer
  ex := []
  calm := true
  fn := fun _ => true
  pn := []
  xe := fun e s' => wpAny (model P w) (A.deeper (envOfC qual scope s.heap.objs.size f cd)) (leaving (envOfC qual scope s.heap.objs.size f cd) e) (fun _ s'' => CX outer H s E e s'') (fun e' s'' => CX outer H s E e' s'') s'

theorem cell_has {sc : Scope} {n : Nat} {x : Str} (h : sc.names.lookup x = some .cell) : ∃ c, (cellsFrom n sc.names []).lookup x = some c := by
  have q := PySem.W.cellsFrom_some sc.names n [] (.inl h)
  exact Option.isSome_iff_exists.mp q

theorem inv_start {CX : CXT} {P : Program} {w : World} {K : PySem.W.Frag} {mg : Str → Option Value} {base : Heap} {N ps : List Str} {qual : Str} {scope : Scope} {f : Addr} {cd : Value} {A : Around} {outer : List Env} {s s1 : Shared} {H : Hp} {E : XK} {us : List Value} {vs : List V}
    (S : FnScope N ps scope) (hd : A.handled = none) (e0 : Env0 P w K mg base A outer s H) (hl : vs.length = ps.length) (r : Vals vs us)
    (x : InCallC s s.heap.objs.size (bindL (envOfC qual scope s.heap.objs.size f cd).kindOf (ps.zip us) fun _ => none) (cellsFrom (s.heap.objs.size + 1) scope.names []) (bindC (envOfC qual scope s.heap.objs.size f cd).kindOf (ps.zip us) fun _ => none) s1) :
    Inv (cxOf CX P w K mg base N qual scope f cd A outer s H E) [] (start N vs) H s1 := by
  have hpl : ps.length ≤ N.length := by have := congrArg List.length S.pre; rw [List.length_take] at this; omega
  obtain ⟨h1, tk, rfl, hk⟩ := x.done
  have noA : ∀ b : Addr, b ∉ (cxOf CX P w K mg base N qual scope f cd A outer s H E).ex := fun b z => absurd (show b ∈ ([] : List Addr) from z) (by simp)
  refine ⟨⟨e0.mod, S.kind, rfl, rfl, Nat.le_refl _, fun y z c h1 h2 => ?_, fun y hy => ?_, fun y c _ h => ?_, fun _ => hd, Around.frames_deeper e0.frames, .inr ⟨rfl, rfl⟩, fun b z => absurd z (noA b), e0.bs, e0.bsz, fun b _ _ => noA b, fun b z => absurd z (noA b), e0.funs, e0.frf⟩,
    rfl, e0.bare, Un.kept hk, ⟨_, x.toInCall.ns, fun i y v h1 h2 h3 => ?_⟩, fun y c h => ⟨_, x.cell y c h⟩, e0.hok.fresh (Nat.le_refl _), fun y c h => ?_, fun p hp => absurd (show p ∈ ([] : List (Addr × Obj)) from hp) (by simp), e0.hok.kept hk, ?_⟩
  · exact name_of_addr x.apart (PySem.mem_of_lookup h1) (PySem.mem_of_lookup h2)
  · have hy : scope.names.lookup y = some .cell ∨ scope.names.lookup y = some .free := hy
    rcases hy with hy | hy
    · exact cell_has hy
    · exact absurd rfl (S.nofree _ (PySem.mem_of_lookup hy))
  · exact Nat.le_of_lt (x.above y c (PySem.mem_of_lookup h))
  · have hi : i < vs.length := by
      unfold start at h2
      by_cases hi : i < vs.length
      · exact hi
      · rw [List.getElem?_append_right (by simpa using hi)] at h2
        rw [List.getElem?_replicate] at h2
        split at h2 <;> cases h2
    have ha : vs[i]? = some v := by
      unfold start at h2
      rw [List.getElem?_append_left (by simpa using hi), List.getElem?_map] at h2
      cases e : vs[i]? with
      | none => rw [e] at h2; cases h2
      | some a => rw [e] at h2; cases h2; rfl
    obtain ⟨u, hu, rv⟩ := r.get ha
    have hp : ps[i]? = some y := by
      rw [← S.pre, List.getElem?_take_of_lt (by omega)]; exact h1
    have ndP : ps.Nodup := by rw [← S.pre]; exact S.nd.sublist (List.take_sublist _ _)
    refine ⟨u, rv, ?_⟩
    rcases S.par y (List.mem_of_getElem? hp) with k | k
    · exact .inl ⟨k, bindL_get ndP hp hu k⟩
    · obtain ⟨c, e⟩ := cell_has (n := s.heap.objs.size + 1) k
      refine .inr ⟨.inl k, c, e, ?_⟩
      have q := x.cell y c e
      rw [bindC_get ndP hp hu (by show scope.names.lookup y ≠ _; rw [k]; decide)] at q
      exact q
  · exact e0.hok.fresh (Nat.le_of_lt (x.above y c (PySem.mem_of_lookup h)))
  · unfold start
    show _ = N.length
    rw [List.length_append, List.length_map, List.length_replicate]
    omega

/-- THE RULE: a def (or a method) of the text, by its body. The body's reading t is chosen for each entry; it is run at the parameters' values -/
theorem fn_of {CX : CXT} {P : Program} {w : World} {K : PySem.W.Frag} {mg : Str → Option Value} {base : Heap} {k : Nat} {f : Addr} {name qual : Str} {params : Arguments} {body : List Stmt} {scope : Scope} {dV kV doc pm cdv ct oc : Value} {an od : Option Addr}
    {osl : Array (Option Value)} {N ps : List Str} {sp : Sp} (lk : K.lookup f = some ⟨oc, od, .func (PySem.W.fnOf name qual params body scope dV kV doc pm an cdv ct), osl⟩) (hcd : PySem.W.codeIn K cdv qual = true) (S : FnScope N ps scope)
    (len : ∀ vs H Q E, sp vs H Q E → vs.length = ps.length)
    (hbody : ∀ (A : Around) (outer : List Env) (s : Shared) (H : Hp) (vs : List V) (Q : VK) (E : XK), Room k (A.deeper (envOfC qual scope s.heap.objs.size f cdv)) → sp vs H Q E →
      ∃ t, PSs (cxOf CX P w K mg base N qual scope f cdv A outer s H E) body t ∧ t { nx := fun _ H' => Q .non H', rt := Q } (start N vs) H) :
    FnOk P w K mg base CX (k + 1) f (PySem.W.fnOf name qual params body scope dV kV doc pm an cdv ct) ps sp := by
  refine ⟨len, fun A outer s H args us vs Q E hr e0 hb r hsp => ?_⟩
  have hl := len _ _ _ _ hsp
  have KX : K.In s.heap := e0.mod.kin.keeps fun b o e => (e0.bs b o e).1
  have lim : s.heap.NoLimit := e0.mod.nolimit.keeps fun b o e => (e0.bs b o e).1
  have hkind : ∀ y ∈ ps.zip us, scope.names.lookup y.1 = some .local ∨ (scope.names.lookup y.1 = some .cell ∧ ((cellsFrom (s.heap.objs.size + 1) scope.names []).lookup y.1).isSome = true) := fun ⟨n, v⟩ hy => by
    rcases S.par n (List.of_mem_zip hy).1 with q | q
    · exact .inl q
    · exact .inr ⟨q, PySem.W.cellsFrom_some _ _ _ (.inl q)⟩
  refine codeAny_call_function hr.depth (KX _ _ lk) rfl S.co S.gen rfl (PySem.W.codeRec_of KX hcd) (hb _ _ _ _ ?_)
  refine wpAny_newFunctionEnv_cells S.kind hkind fun env he s1 x => ?_
  subst he
  refine ⟨lim.keeps x.toInCall.keep, codeAny_func ?_⟩
  obtain ⟨t, ht, hq⟩ := hbody A outer s H vs Q E (hr.deeper _) hsp
  have I : Inv (cxOf CX P w K mg base N qual scope f cdv A outer s H E) [] (start N vs) H s1 := inv_start S hr.hd e0 hl r x
  refine wpAny_mono (ht [] s1 (start N vs) H _ I hq) (fun fl s' hs => ?_) fun e s' hs => hs
  have fin : ∀ {σ' : St} {H' : Hp} {v : V} {u : Value}, Inv (cxOf CX P w K mg base N qual scope f cdv A outer s H E) [] σ' H' s' → RelV v u → Q v H' → CE outer P w H s Q u s' :=
    fun {σ' H' v u} J rv q => ⟨v, H', J.os, J.bare, J.base, J.hok, rv, q⟩
  cases fl with
  | ret u =>
    obtain ⟨v, σ', H', J, rv, q⟩ := hs
    exact fin J rv q
  | next =>
    obtain ⟨σ', H', J, q⟩ := hs
    exact fin (v := V.non) (u := Value.none) J rfl q
  | brk =>
    obtain ⟨_, _, _, q⟩ := hs
    exact False.elim q
  | cont =>
    obtain ⟨_, _, _, q⟩ := hs
    exact False.elim q
end L2

namespace L2
open PySem PySem.Spec PyProof.Rows
section
variable {X : Cx} {x : Str} {p pos : Pos} {e : Expr} {es : List Expr} {t : TA} {id T : String} {r : List V → Hp → VK → Prop}

def tCB (r : List V → Hp → VK → Prop) (t : TA) : TE := fun σ H Q => t σ H fun vs H1 => r vs H1 Q
/-- f(e, ..), f a built-in function -/
theorem pe_callB (hc : CallR X (.builtin id) r) (hg : Gl X x) (hm : X.mg x = none) (hv : bootBuiltins x = some (.builtin id)) (ha : PA X (e :: es) t) (hn : x ≠ "__name__" := by decide) (hdb : (x == ("__debug__" : Str)) = false := by decide)
    (he : starEach (e :: es) X.env = (false, eval e X.env) :: starEach es X.env := by rfl) (hpl : (backTo pos (starEach es X.env)).any (·.1) = false := by rfl) : PE X (.Call (.Name x p) (e :: es) [] pos) (tCB r t) := by
  intro pins s σ H Q I h
  refine wpAny_Call_Name_kw (ld_blt I hg hm hv ?_ hn hdb)
  exact PyProof.Rows.callWith_builtin1 (thn (ha pos pins s σ H _ I h) fun us s1 ⟨vs, H1, I1, r1, q1⟩ => hc pins s1 σ H1 vs us Q I1 r1 q1) he hpl
/-- T(e, ..), T a built-in type -/
theorem pe_callTy (hc : CallR X (.type T) r) (hg : Gl X x) (hm : X.mg x = none) (hv : bootBuiltins x = some (.type T)) (ha : PA X (e :: es) t) (hn : x ≠ "__name__" := by decide) (hdb : (x == ("__debug__" : Str)) = false := by decide)
    (he : starEach (e :: es) X.env = (false, eval e X.env) :: starEach es X.env := by rfl) (hpl : (backTo pos (starEach es X.env)).any (·.1) = false := by rfl) : PE X (.Call (.Name x p) (e :: es) [] pos) (tCB r t) := by
  intro pins s σ H Q I h
  refine wpAny_Call_Name_kw (ld_blt I hg hm hv ?_ hn hdb)
  exact PyProof.Rows.callWith_type1 (thn (ha pos pins s σ H _ I h) fun us s1 ⟨vs, H1, I1, r1, q1⟩ => hc pins s1 σ H1 vs us Q I1 r1 q1) he hpl
end
end L2

namespace HT
open PySem PyProof.Rows

/-- t < u of tuples of ints -/
def lexLt : List Int → List Int → Bool
  | [], [] => false
  | [], _ :: _ => true
  | _ :: _, [] => false
  | x :: xs, y :: ys => if x = y then lexLt xs ys else decide (x < y)
theorem lexLt_cons (x y : Int) (xs ys : List Int) : lexLt (x :: xs) (y :: ys) = if x = y then lexLt xs ys else decide (x < y) := rfl
theorem lexLt_nil_nil : lexLt [] [] = false := rfl
theorem lexLt_nil_cons (y : Int) (ys : List Int) : lexLt [] (y :: ys) = true := rfl
theorem lexLt_cons_nil (x : Int) (xs : List Int) : lexLt (x :: xs) [] = false := rfl

theorem eqAt_int (A : Around) (s : Shared) (a : Int) (t : Tok) (c : Int) (u : Tok) : ∃ e, SeqAt.EqAt A s (.int a t) (.int c u) e ∧ (e = true ↔ a = c) :=
  ⟨(a == c), SeqAt.EqAt.int_int a t c u, by simp⟩
theorem rcLt_int (A : Around) (s : Shared) (a : Int) (t : Tok) (c : Int) (u : Tok) (prog : Program) (w : World) (E : Value → Shared → Prop) (Q : Value → Shared → Prop) (h : Q (.bool (decide (a < c))) s) :
    wpAny (model prog w) A (richCompare .Lt (.int a t) (.int c u)) Q E s :=
  (PyProof.Rows.lt_int h : wpAny (model prog w) A (compareOp .Lt (.int a t) (.int c u)) Q E s)

section
open PySem.SeqAt
open PySem.AutoSeq1 (wpAny_loadPart')
open PySem.MeetsSeq PySem.MeetsSeq2 PySem.MeetsSeq3

theorem tuple_lt_ints (l b : Addr) (items items2 : Array Value) (n n2 : Nat) (dd dd2 : Option Addr) (sl sl2 : Array (Option Value)) (ns ms : List Int) (hi : IntsAre items.toList ns) (hj : IntsAre items2.toList ms) :
    Meets (Builtin.«tuple.__lt__» ⟨[.ref l, .ref b], []⟩)
      (fun _ R s => s.heap.get? l = some { cls := .type "tuple", dict := dd, data := .seq items n, slots := sl } ∧ s.heap.get? b = some { cls := .type "tuple", dict := dd2, data := .seq items2 n2, slots := sl2 } ∧
        R (.ok (.ret (.bool (lexLt ns ms)))) s) :=
  .of_wp fun prog w A R s h => by
    obtain ⟨hp, g, d, tk, os⟩ := s; obtain ⟨hl, hb, h⟩ := h
    have f2 := AutoSeq1.sub_tuple_tuple
    have z1 : items.size = ns.length := by rw [← hi.length]; simp
    have z2 : items2.size = ms.length := by rw [← hj.length]; simp
    wp_walk using wpAny_loadPart' hl, wpAny_loadPart' hb, wpAny_forIn_list _ (fun rest b s' => b.1 = none ∧ s' = ⟨hp, g, d, tk, os⟩ ∧ ∃ (vs ws : List Value) (ns' ms' : List Int), rest = vs.zip ws ∧
      IntsAre vs ns' ∧ IntsAre ws ms' ∧ ns'.length + items2.size = ms'.length + items.size ∧ R (.ok (.ret (.bool (lexLt ns' ms')))) ⟨hp, g, d, tk, os⟩) _
    case turn =>
      rintro ⟨y, x⟩ rest b s' ⟨hb', rfl, vs, ws, ns', ms', hz, hvi, hwi, hlen, hR⟩
      cases hvi with
      | nil => rw [List.zip_nil_left] at hz; cases hz
      | cons a t hvi' =>
        cases hwi with
        | nil => rw [List.zip_nil_right] at hz; cases hz
        | cons c u hwi' =>
          rw [List.zip_cons_cons] at hz
          injection hz with hyx hrest
          injection hyx with hy hx
          subst hy hx
          rw [lexLt_cons] at hR
          simp only [List.length_cons] at hlen
          obtain ⟨e, he, hiff⟩ := eqAt_int A.in1 ⟨hp, g, d, tk, os⟩ a t c u
          refine wpAny_bind (he prog w _ _ ?_)
          cases e with
          | true =>
            rw [if_pos (hiff.mp rfl)] at hR
            wp_walk
            exact ⟨rfl, rfl, _, _, _, _, hrest, hvi', hwi', by omega, hR⟩
          | false =>
            rw [if_neg (fun q => absurd (hiff.mpr q) Bool.false_ne_true)] at hR
            have hri := rcLt_int A.in1 ⟨hp, g, d, tk, os⟩ a t c u prog w
            wp_walk using hri
            exact ⟨_, rfl, by simpa using hR⟩
    case fin =>
      rintro ⟨b1, b2⟩ s' ⟨hb', rfl, vs, ws, ns', ms', hz, hvi, hwi, hlen, hR⟩
      simp only at hb'
      subst hb'
      have hv : lexLt ns' ms' = decide (items.size < items2.size) := by
        cases hvi with
        | nil =>
          cases hwi with
          | nil =>
            simp only [List.length_nil] at hlen
            rw [lexLt_nil_nil]
            exact (decide_eq_false (by omega)).symm
          | cons c u hw =>
            simp only [List.length_nil, List.length_cons] at hlen
            rw [lexLt_nil_cons]
            exact (decide_eq_true (by omega)).symm
        | cons a t hv =>
          cases hwi with
          | nil =>
            simp only [List.length_nil, List.length_cons] at hlen
            rw [lexLt_cons_nil]
            exact (decide_eq_false (by omega)).symm
          | cons c u hw =>
            rw [List.zip_cons_cons] at hz
            cases hz
      rw [hv] at hR
      wp_walk
      exact ⟨_, rfl, by simpa [Builtin.Tuple.tupleCompareSizes] using hR⟩
    case h =>
      exact ⟨rfl, rfl, items.toList, items2.toList, ns, ms, rfl, hi, hj, by omega, h⟩
end

section
variable {prog : Program} {w : World} {A : Around} {E : Value → Shared → Prop} {s : Shared}

theorem lt_tupInts {l b : Addr} {items items2 : Array Value} {ns ms : List Int} {Q : Value → Shared → Prop} (hl : IsTup s.heap l items) (hb : IsTup s.heap b items2) (hi : IntsAre items.toList ns) (hj : IntsAre items2.toList ms)
    (hu : A.units < cLine) (h : Q (.bool (lexLt ns ms)) s) : wpAny (model prog w) A (compareOp .Lt (.ref l) (.ref b)) Q E s := by
  obtain ⟨⟨cls, dd, data, sl⟩, ho, hc, n, hd⟩ := id hl
  obtain ⟨⟨cls2, dd2, data2, sl2⟩, ho2, hc2, n2, hd2⟩ := id hb
  simp only at hc hd hc2 hd2
  subst hc hd hc2 hd2
  exact richCompare_meets_room (op := .Lt) ⟨_, ho, rfl⟩ ⟨_, ho2, rfl⟩ PySem.F.slot_tuple_lt PySem.F.entry_tuple_lt (PySem.F.args_tuple_lt_2 _ _) (tuple_lt_ints l b items items2 n n2 dd dd2 sl sl2 ns ms hi hj)
    ⟨ho, ho2, show Value.bool (lexLt ns ms) ≠ Value.notImplemented ∧ Q (.bool (lexLt ns ms)) s from ⟨(fun x => nomatch x), h⟩⟩ hu

/-- t + u, t not empty -/
theorem cat_tup {t b : Addr} {vs ws : List Value} {Q : Value → Shared → Prop} (ht : IsTup s.heap t vs.toArray) (hb : IsTup s.heap b ws.toArray) (hv : vs ≠ [])
    (h1 : ws = [] → Q (.ref t) s) (h2 : ws ≠ [] → Q (.ref s.heap.objs.size) { s with heap := s.heap.push { cls := .type "tuple", data := .seq (vs ++ ws).toArray } })
    (hsz : vs.length + ws.length ≤ sizeLine) : wpAny (model prog w) A (binaryOp .Add (.ref t) (.ref b)) Q E s := by
  obtain ⟨⟨cls, dd, data, sl⟩, ho, hc, n, hd⟩ := id ht
  obtain ⟨⟨cls2, dd2, data2, sl2⟩, ho2, hc2, n2, hd2⟩ := id hb
  simp only at hc hd hc2 hd2
  subst hc hd hc2 hd2
  have e : vs.toArray ++ ws.toArray = (vs ++ ws).toArray := by simp
  by_cases hw : ws = []
  · exact concat_meets ⟨_, ho, rfl⟩ ⟨_, ho2, rfl⟩ noFill_tuple_add seq_tuple_add PySem.F.slot_tuple_add PySem.F.entry_tuple_add (PySem.F.args_tuple_add_2 _ _)
      (tuple_addW1 t b vs.toArray ws.toArray n n2 dd dd2 sl sl2 (by simpa using hv) (by simp [hw])) ⟨ho, ho2, h1 hw⟩
  · refine concat_meets ⟨_, ho, rfl⟩ ⟨_, ho2, rfl⟩ noFill_tuple_add seq_tuple_add PySem.F.slot_tuple_add PySem.F.entry_tuple_add (PySem.F.args_tuple_add_2 _ _)
      (tuple_addW2 t b vs.toArray ws.toArray n n2 dd dd2 sl sl2 (by simpa using hv) (by simpa using hw) (by rw [List.size_toArray, List.size_toArray]; exact hsz)) ⟨ho, ho2, ?_⟩
    rw [e]
    exact h2 hw

/-! ### t[a:b], not the whole -/
/-- a slice's bound as a place among n (d where it is left out) -/
def sIx (n d : Nat) : Option Int → Nat
  | none => d
  | some v => if v < 0 then (v + (n : Int)).toNat else min v.toNat n
theorem sIx_none (n d : Nat) : sIx n d none = d := rfl
end
end HT

namespace L2
open PySem PySem.Spec PyProof.Rows

/-! ### the parts of a slice -/
abbrev TO := St → Hp → (Option Int → Hp → Prop) → Prop
/-- a slice's part (left out, or an int) -/
def PO (X : Cx) (e : Option Expr) (t : TO) : Prop :=
  ∀ (pins : List (Addr × Obj)) (s : Shared) (σ : St) (H : Hp) (Q : Option Int → Hp → Prop), Inv X pins σ H s → t σ H Q →
    wpAny (model X.prog X.w) X.A (evalPart e X.env) (fun u s' => ∃ o H', Inv X pins σ H' s' ∧ IsPart u o ∧ Q o H') X.xe s
def tNoPart : TO := fun _ H Q => Q none H
def tPart (t : TE) : TO := fun σ H Q => t σ H fun x H1 => ∃ i, x = .int i ∧ Q (some i) H1

section
variable {X : Cx} {e : Expr} {te : TE} {lo hi : Option Expr} {tl th : TO} {pos p2 : Pos}

theorem po_none : PO X none tNoPart := by
  intro pins s σ H Q I h
  rw [evalPart_none]
  exact wpAny_pure ⟨none, H, I, .none, h⟩
theorem po_some (h : PE X e te) : PO X (some e) (tPart te) := by
  intro pins s σ H Q I hw
  rw [evalPart_some]
  refine thn (h pins s σ H _ I hw) fun u s1 ⟨x, H1, I1, r1, q1⟩ => ?_
  obtain ⟨i, rfl, q⟩ := q1
  obtain ⟨t, rfl⟩ := r1
  exact ⟨some i, H1, I1, .int i t, q⟩

/-- what a slice of a value is, by values: the slice object stands at sl -/
def SlR (X : Cx) (r : V → Option Int → Option Int → Hp → VK → Prop) : Prop :=
  ∀ (pins : List (Addr × Obj)) (s : Shared) (σ : St) (H : Hp) (x : V) (v vl vu : Value) (lo hi : Option Int) (sl : Addr) (Q : VK), Inv X pins σ H s → RelV x v → s.heap.IsSliceOf sl vl vu .none → IsPart vl lo → IsPart vu hi → r x lo hi H Q →
    ∃ T id, typeLookup (.type T) "__getitem__" = pure (some (.builtin id)) ∧ s.TypeIs v T ∧ wpAny (model X.prog X.w) X.A (getItem v (.ref sl)) (EP X pins σ Q) X.xe s
def tSl (r : V → Option Int → Option Int → Hp → VK → Prop) (te : TE) (tl th : TO) : TE := fun σ H Q => te σ H fun x H1 => tl σ H1 fun l H2 => th σ H2 fun u H3 => r x l u H3 Q
/-- a[lo:hi], any a -/
theorem pe_slice {r : V → Option Int → Option Int → Hp → VK → Prop} (hr : SlR X r) (he : PE X e te) (hl : PO X lo tl) (hu : PO X hi th) : PE X (.Subscript e (.Slice lo hi none p2) pos) (tSl r te tl th) := by
  intro pins s σ H Q I h
  refine Subscript_ (thn (he pins s σ H _ I h) fun v s1 ⟨x, H1, I1, r1, q1⟩ => ?_)
  refine wpAny_Slice (thn (hl pins s1 σ H1 _ I1 q1) fun vl s2 ⟨l, H2, I2, pl, q2⟩ => thn (hu pins s2 σ H2 _ I2 q2) fun vu s3 ⟨u, H3, I3, pu, q3⟩ => ?_)
  rw [evalPart_none]
  refine wpAny_pure ?_
  have I4 : Inv X pins σ H3 { s3 with heap := s3.heap.push { cls := .type "slice", data := .fields #[vl, vu, .none] } } := I3.kept (t' := s3.toks) fun b ob q => Heap.get?_push_of_some _ q
  obtain ⟨T, id, hT, ht, hg⟩ := hr pins { s3 with heap := s3.heap.push { cls := .type "slice", data := .fields #[vl, vu, .none] } } σ H3 x v vl vu l u s3.heap.objs.size Q I4 r1 (Heap.IsSliceOf.new ..) pl pu q3
  show wpAny (model X.prog X.w) X.A (subscriptTail e (.Slice lo hi none p2) v (.ref s3.heap.objs.size)) (EP X pins σ Q) X.xe { s3 with heap := s3.heap.push { cls := .type "slice", data := .fields #[vl, vu, .none] } }
  exact tail_any (ops := [.ref s3.heap.objs.size, v]) ht hT hg (by with_unfolding_all rfl)

/-- the items of xs[lo:hi] -/
def cutV (xs : List V) (lo hi : Option Int) : List V := (xs.drop (HT.sIx xs.length 0 lo)).take (HT.sIx xs.length xs.length hi - HT.sIx xs.length 0 lo)
theorem cutV_length (xs : List V) (lo hi : Option Int) : (cutV xs lo hi).length ≤ xs.length := by
  unfold cutV
  rw [List.length_take, List.length_drop]
  omega
/-! ### t < u, t + u -/
/-- t + u, t not empty: u empty gives t itself -/
def rCatT (K : PySem.W.Frag) : R2 := fun x y H Q => ∃ a b xs ys, x = .ref a ∧ y = .ref b ∧ SqT K H a xs ∧ SqT K H b ys ∧ xs ≠ [] ∧ xs.length + ys.length ≤ sizeLine ∧
  (ys = [] → Q (.ref a) H) ∧ (ys ≠ [] → ∀ p, H p = none → Q (.ref p) (upd H p (.tup (xs ++ ys))))
theorem Vals.nil_iff {xs : List V} {us : List Value} (r : Vals xs us) : us = [] ↔ xs = [] := by
  cases r with
  | nil => simp
  | cons _ _ => simp
theorem op_catT : OpR X (binaryOp .Add) (rCatT X.K) := by
  intro pins s σ H x y v u Q I rx ry h
  obtain ⟨a, b, xs, ys, rfl, rfl, ha, hb, hx, hz, q1, q2⟩ := h
  cases rx
  cases ry
  obtain ⟨its, r1, p1, _⟩ := I.tuple ha
  obtain ⟨its2, r2, p2, _⟩ := I.tuple hb
  refine HT.cat_tup p1 p2 (fun z => hx (r1.nil_iff.mp z)) (fun z => ⟨.ref a, H, I, rfl, q1 (r2.nil_iff.mp z)⟩) (fun z => ?_) (by rw [← r1.length, ← r2.length]; exact hz)
  refine ⟨.ref s.heap.objs.size, _, I.laid (t' := s.toks) (o := .tup (xs ++ ys)) (fun b ob q => Heap.get?_push_of_some _ q) (Nat.le_refl _) ?_, rfl, q2 (fun w => z (r2.nil_iff.mpr w)) _ (I.hok.fresh (Nat.le_refl _))⟩
  exact ⟨by rw [List.length_append]; exact hz, _, r1.append r2, IsTup.new _ _⟩
end
end L2

namespace L2
open PySem PySem.Spec PyProof.Rows

/-! ### places -/
/-- the place that an index of any sign means -/
def ixN (n : Nat) (i : Int) : Option Nat := if 0 ≤ i then (if i < n then some i.toNat else none) else if -(n : Int) ≤ i then some (i + n).toNat else none
def atI {α : Type} (xs : List α) (i : Int) : Option α := (ixN xs.length i).bind fun j => xs[j]?
theorem ixN_seq {n : Nat} {i : Int} {j : Nat} (h : ixN n i = some j) : seqIndex? i n = some j ∧ j < n ∧ -(n : Int) ≤ i ∧ i < n := by
  unfold ixN at h
  by_cases h0 : 0 ≤ i
  · rw [if_pos h0] at h
    by_cases h1 : i < n
    · rw [if_pos h1] at h
      have e : i.toNat = j := Option.some.inj h
      exact ⟨by rw [seqIndex_of h0 h1, e], by omega, by omega, h1⟩
    · rw [if_neg h1] at h; cases h
  · rw [if_neg h0] at h
    by_cases h1 : -(n : Int) ≤ i
    · rw [if_pos h1] at h
      have e : (i + n).toNat = j := Option.some.inj h
      exact ⟨by rw [seqIndex_neg (by omega) h1, e], by omega, h1, by omega⟩
    · rw [if_neg h1] at h; cases h
theorem atI_get {α : Type} {xs : List α} {i : Int} {v : α} (h : atI xs i = some v) : ∃ j, seqIndex? i xs.length = some j ∧ xs[j]? = some v ∧ j < xs.length ∧ -(xs.length : Int) ≤ i ∧ i < xs.length := by
  unfold atI at h
  cases e : ixN xs.length i with
  | none => rw [e] at h; cases h
  | some j =>
    rw [e] at h
    obtain ⟨h1, h2, h3, h4⟩ := ixN_seq e
    exact ⟨j, h1, h, h2, h3, h4⟩
/-! ### what may be subscripted -/
/-- what stands as an index of a plain subscript -/
def PlainIx (b : Expr) : Prop := ∀ o i, subscripted b false o i = operate [o, i] (getItem o i)
/-- a subscript by values -/
def IxR (X : Cx) (r : R2) : Prop :=
  ∀ (value slice : Expr) (pins : List (Addr × Obj)) (s : Shared) (σ : St) (H : Hp) (x y : V) (v u : Value) (Q : VK), Inv X pins σ H s → RelV x v → RelV y u → r x y H Q →
    subscripted slice false v u = operate [v, u] (getItem v u) → wpAny (model X.prog X.w) X.A (subscriptTail value slice v u) (EP X pins σ Q) X.xe s
/-- a call of a builtin's method by values: the receiver, the arguments -/
def MtR (X : Cx) (id : String) (r : V → List V → Hp → VK → Prop) : Prop :=
  ∀ (pins : List (Addr × Obj)) (s : Shared) (σ : St) (H : Hp) (x : V) (xs : List V) (v : Value) (us : List Value) (Q : VK), Inv X pins σ H s → RelV x v → Vals xs us → r x xs H Q →
    wpAny (model X.prog X.w) X.A (call (.builtin id) (v :: us)) (EP X pins σ Q) X.xe s
section
variable {X : Cx} {a b : Expr} {ta tb : TE} {pos : Pos}
/-- a[b] -/
theorem pe_ix {r : R2} (hr : IxR X r) (ha : PE X a ta) (hb : PE X b tb) (hs : PlainIx b) : PE X (.Subscript a b pos) (tOp r ta tb) := by
  intro pins s σ H Q I h
  exact Subscript_ (binT ha hb I h fun v u s2 x y H2 I2 rx ry q => hr a b pins s2 σ H2 x y v u Q I2 rx ry q (hs _ _))

def rIxL (K : PySem.W.Frag) : R2 := fun x y H Q => ∃ p xs i v, x = .ref p ∧ y = .int i ∧ SqL K H p xs ∧ atI xs i = some v ∧ Q v H
def rIxT (K : PySem.W.Frag) : R2 := fun x y H Q => ∃ p xs i v, x = .ref p ∧ y = .int i ∧ SqT K H p xs ∧ atI xs i = some v ∧ Q v H
theorem ix_list : IxR X (rIxL X.K) := by
  intro value slice pins s σ H x y v u Q I rx ry h hs
  obtain ⟨p, xs, i, z, rfl, rfl, hq, he, q⟩ := h
  cases rx
  obtain ⟨t, rfl⟩ := ry
  obtain ⟨its, r, pl, hz⟩ := I.list hq
  obtain ⟨j, h1, h2, h3, h4, h5⟩ := atI_get he
  obtain ⟨w, ew, rw'⟩ := r.get h2
  have hl := r.length
  have hn := line63
  have fin : EP X pins σ Q w s := ⟨z, H, I, rw', q⟩
  by_cases h0 : 0 ≤ i
  · have hj : i.toNat = j := by
      rw [seqIndex_of h0 h5] at h1
      exact Option.some.inj h1
    exact item_listR pl.isList h0 (by omega) (by rw [hj]; simpa using ew) fin hs
  · have hj : (i + (its.toArray.size : Int)).toNat = j := by
      rw [seqIndex_neg (by omega) h4] at h1
      rw [List.size_toArray, ← hl]
      exact Option.some.inj h1
    exact subscriptTail_builtinR (x := w) pl.isList.typeIs slot_list_getitem.lookup
      (wpAny_getItem_list_neg (Q := fun r s' => r = w ∧ EP X pins σ Q r s') pl.isList (by omega) (by rw [List.size_toArray] <;> omega) (by omega) (by rw [hj]; simpa using ew) ⟨rfl, fin⟩) hs
theorem ix_tup : IxR X (rIxT X.K) := by
  intro value slice pins s σ H x y v u Q I rx ry h hs
  obtain ⟨p, xs, i, z, rfl, rfl, hq, he, q⟩ := h
  cases rx
  obtain ⟨t, rfl⟩ := ry
  obtain ⟨its, r, pl, hz⟩ := I.tuple hq
  obtain ⟨j, h1, h2, h3, h4, h5⟩ := atI_get he
  obtain ⟨w, ew, rw'⟩ := r.get h2
  have hl := r.length
  have hn := line63
  have fin : EP X pins σ Q w s := ⟨z, H, I, rw', q⟩
  exact subscriptTail_builtinR (x := w) pl.typeIs slot_tuple_getitem.lookup
    (getItem_tuple (j := j) (Q := fun r s' => r = w ∧ EP X pins σ Q r s') pl (by omega) (by omega) (by rw [List.size_toArray, ← hl]; exact h1) (by simpa using ew) ⟨rfl, fin⟩) hs
/-! ### xs[i] = v, any sign -/
/-- the list's object behind a store -/
theorem mapSeq_set (its : List Value) (n j : Nat) (u : Value) : Obj.mapSeq (·.setIfInBounds j u) { cls := .type "list", data := .seq its.toArray n } = { cls := .type "list", data := .seq (its.set j u).toArray n } := by
  simp [Obj.mapSeq]
theorem Inv.lst {pins : List (Addr × Obj)} {σ : St} {H : Hp} {s : Shared} {p : Addr} {xs : List V} (I : Inv X pins σ H s) (h : H p = some (.lst xs)) :
    ∃ (its : List Value) (n : Nat), Vals xs its ∧ s.heap.get? p = some { cls := .type "list", data := .seq its.toArray n } ∧ xs.length ≤ sizeLine := by
  obtain ⟨z, its, n, r, e⟩ := I.hok p _ h
  exact ⟨its, n, r, e, z⟩
/-- the list at p is written by an update of its object -/
theorem Inv.lstUpd {pins : List (Addr × Obj)} {σ : St} {H : Hp} {s : Shared} {p : Addr} {xs ys : List V} {its its' : List Value} {n n' : Nat} {f : Obj → Obj} (I : Inv X pins σ H s) (h : H p = some (.lst xs))
    (ho : s.heap.get? p = some { cls := .type "list", data := .seq its.toArray n }) (hf : f { cls := .type "list", data := .seq its.toArray n } = { cls := .type "list", data := .seq its'.toArray n' }) (r : Vals ys its') (hz : ys.length ≤ sizeLine) (t : Nat) :
    Inv X pins σ (upd H p (.lst ys)) { s with heap := s.heap.update p f, toks := t } := by
  have e : (s.heap.update p f).get? p = some { cls := .type "list", data := .seq its'.toArray n' } := by
    rw [Heap.get?_update_self f ho (by rw [hf] <;> rfl), hf]
  refine I.write (x := p) (e := p) (by rw [h]; trivial) (.inl rfl) (fun b u hb q => (Heap.get?_update_other _ _ (Ne.symm hb)).trans q) ⟨_, e⟩ ?_
  exact ⟨hz, its', n', r, e⟩
def rSetL : V → V → V → Hp → (Hp → Prop) → Prop := fun o i v H Q => ∃ p xs k j, o = .ref p ∧ i = .int k ∧ H p = some (.lst xs) ∧ ixN xs.length k = some j ∧ Q (upd H p (.lst (xs.set j v)))
theorem set_list : PSet X rSetL := by
  intro pins s σ H o i v ov iv u Q I ro ri rv h
  obtain ⟨p, xs, k, j, rfl, rfl, hp, hj, q⟩ := h
  cases ro
  obtain ⟨t, rfl⟩ := ri
  obtain ⟨its, n, r, ho, hz⟩ := I.lst hp
  obtain ⟨h1, h2, h3, h4⟩ := ixN_seq hj
  have hl := r.length
  have hn := line63
  have I' : Inv X pins σ (upd H p (.lst (xs.set j v))) { s with heap := s.heap.update p (Obj.mapSeq (·.setIfInBounds j u)) } :=
    I.lstUpd hp ho (mapSeq_set its n j u) (r.set rv j) (by rw [List.length_set]; exact hz) s.toks
  by_cases h0 : 0 ≤ k
  · have hk : k.toNat = j := by
      rw [seqIndex_of h0 h4] at h1
      exact Option.some.inj h1
    exact PySem.W.ki_setAt ho h0 (by omega) (by rw [List.size_toArray, ← hl]; exact h4) (by rw [hk]; exact ⟨_, I', q⟩)
  · have hk : (k + (its.toArray.size : Int)).toNat = j := by
      rw [seqIndex_neg (by omega) h3] at h1
      rw [List.size_toArray, ← hl]
      exact Option.some.inj h1
    exact PySem.W.ki_setBack ho (by omega) (by rw [List.size_toArray, ← hl]; exact h3) (by omega) (by rw [hk]; exact ⟨_, I', q⟩)

/-! ### slices -/
theorem slice_bounds (lo hi : Option Int) (n : Nat) : (sliceBounds lo hi none n).1 = ((HT.sIx n 0 lo : Nat) : Int) ∧ (sliceBounds lo hi none n).2.1 = ((HT.sIx n n hi : Nat) : Int) ∧ (sliceBounds lo hi none n).2.2 = 1 := by
  refine ⟨?_, ?_, rfl⟩
  · cases lo with
    | none => simp [sliceBounds, HT.sIx]
    | some i =>
      simp only [sliceBounds, HT.sIx, Option.getD_none, show (1 : Int) > 0 by decide, if_true]
      by_cases h : i < 0
      · simp only [h, if_true] <;> omega
      · simp only [h, if_false] <;> omega
  · cases hi with
    | none => simp [sliceBounds, HT.sIx]
    | some i =>
      simp only [sliceBounds, HT.sIx, Option.getD_none, show (1 : Int) > 0 by decide, if_true]
      by_cases h : i < 0
      · simp only [h, if_true] <;> omega
      · simp only [h, if_false] <;> omega
theorem slicePick_cut (its : List Value) (lo hi : Option Int) : slicePick its.toArray lo hi none = ((its.drop (HT.sIx its.length 0 lo)).take (HT.sIx its.length its.length hi - HT.sIx its.length 0 lo)).toArray := by
  obtain ⟨h1, h2, h3⟩ := slice_bounds lo hi its.toArray.size
  unfold slicePick
  rw [h1, h2, h3]
  simp only [sliceRange_one, pick_run, List.size_toArray] <;> rfl
/-- xs[lo:hi] of a list: a new list -/
def rSlL (K : PySem.W.Frag) : V → Option Int → Option Int → Hp → VK → Prop := fun x lo hi H Q => ∃ a xs, x = .ref a ∧ SqL K H a xs ∧ ∀ p, H p = none → Q (.ref p) (upd H p (.lst (cutV xs lo hi)))
theorem sl_list : SlR X (rSlL X.K) := by
  intro pins s σ H x v vl vu lo hi sl Q I rx hs pl pu h
  obtain ⟨a, xs, rfl, hx, q⟩ := h
  cases rx
  obtain ⟨its, r, ht, hz⟩ := I.list hx
  have hlen := r.length
  refine ⟨"list", _, slot_list_getitem.lookup, ht.isList.typeIs, ?_⟩
  refine wpAny_getItem_list_slice ht.isList hs pl pu .none (by simp) ?_ (by rw [List.size_toArray] <;> omega)
  rw [slicePick_cut, ← hlen]
  refine ⟨.ref s.heap.objs.size, _, I.laid (t' := s.toks) (o := .lst (cutV xs lo hi)) (fun b ob q => Heap.get?_push_of_some _ q) (Nat.le_refl _) ?_, rfl, q _ (I.hok.fresh (Nat.le_refl _))⟩
  exact ⟨Nat.le_trans (cutV_length xs lo hi) hz, _, 0, (r.drop (HT.sIx xs.length 0 lo)).take (HT.sIx xs.length xs.length hi - HT.sIx xs.length 0 lo), Heap.get?_push_size _ rfl⟩

/-! ### in, not in: flat items -/
def flatV : V → Bool
  | .non => true
  | .bl _ => true
  | .int _ => true
  | .str _ => true
  | _ => false
/-- == of flat values -/
def eqV : V → V → Bool
  | .non, .non => true
  | .bl a, .bl b => a == b
  | .bl a, .int b => (if a then 1 else 0) == b
  | .int a, .bl b => a == (if b then 1 else 0)
  | .int a, .int b => a == b
  | .str a, .str b => a == b
  | _, _ => false
theorem eqAt_V {A : Around} {s : Shared} {y x : V} {u v : Value} (ry : RelV y u) (rx : RelV x v) (fy : flatV y = true) (fx : flatV x = true) : SeqAt.EqAt A s u v (eqV y x) := by
  cases y with
  | non =>
    cases ry
    cases x with
    | non => cases rx; exact SeqAt.EqAt.same _
    | bl b => cases rx; exact SeqAt.EqAt.none_bool b
    | int b => obtain ⟨t, rfl⟩ := rx; exact SeqAt.EqAt.none_int b t
    | str b => obtain ⟨t, rfl⟩ := rx; exact SeqAt.EqAt.none_str b t
    | _ => exact absurd (show false = true from fx) Bool.false_ne_true
  | bl a =>
    cases ry
    cases x with
    | non => cases rx; exact SeqAt.EqAt.bool_none a
    | bl b => cases rx; exact SeqAt.EqAt.bool_bool a b
    | int b => obtain ⟨t, rfl⟩ := rx; exact SeqAt.EqAt.bool_int a b t
    | str b => obtain ⟨t, rfl⟩ := rx; exact SeqAt.EqAt.bool_str a b t
    | _ => exact absurd (show false = true from fx) Bool.false_ne_true
  | int a =>
    obtain ⟨t', rfl⟩ := ry
    cases x with
    | non => cases rx; exact SeqAt.EqAt.int_none a t'
    | bl b => cases rx; exact SeqAt.EqAt.int_bool a t' b
    | int b => obtain ⟨t, rfl⟩ := rx; exact SeqAt.EqAt.int_int a t' b t
    | str b => obtain ⟨t, rfl⟩ := rx; exact SeqAt.EqAt.int_str a t' b t
    | _ => exact absurd (show false = true from fx) Bool.false_ne_true
  | str a =>
    obtain ⟨t', rfl⟩ := ry
    cases x with
    | non => cases rx; exact SeqAt.EqAt.str_none a t'
    | bl b => cases rx; exact SeqAt.EqAt.str_bool a t' b
    | int b => obtain ⟨t, rfl⟩ := rx; exact SeqAt.EqAt.str_int a t' b t
    | str b => obtain ⟨t, rfl⟩ := rx; exact SeqAt.EqAt.str_str a t' b t
    | _ => exact absurd (show false = true from fx) Bool.false_ne_true
  | _ => exact absurd (show false = true from fy) Bool.false_ne_true
/-- the items' answers, read off the values (a value's own answer does not lean on its token) -/
def eqU (x : V) (u : Value) : Bool := match u with
  | .none => eqV .non x
  | .bool b => eqV (.bl b) x
  | .int i _ => eqV (.int i) x
  | .str z _ => eqV (.str z) x
  | _ => false
theorem eqU_of {x y : V} {u : Value} (r : RelV y u) (f : flatV y = true) : eqU x u = eqV y x := by
  cases y with
  | non => cases r; rfl
  | bl b => cases r; rfl
  | int i => obtain ⟨t, rfl⟩ := r; rfl
  | str z => obtain ⟨t, rfl⟩ := r; rfl
  | _ => exact absurd (show false = true from f) Bool.false_ne_true
theorem any_eqU {x : V} : ∀ {xs : List V} {us : List Value}, Vals xs us → xs.all flatV = true → us.any (eqU x) = xs.any fun y => eqV y x
  | _, _, .nil, _ => rfl
  | y :: xs, u :: us, .cons r t, f => by
    rw [List.all_cons, Bool.and_eq_true] at f
    rw [List.any_cons, List.any_cons, eqU_of r f.1, any_eqU t f.2]
theorem mem_eqAt {A : Around} {s : Shared} {x : V} {v : Value} (rx : RelV x v) (fx : flatV x = true) : ∀ {xs : List V} {us : List Value}, Vals xs us → xs.all flatV = true → ∀ u ∈ us, SeqAt.EqAt A s u v (eqU x u)
  | _, _, .nil, _ => fun u hu => by cases hu
  | y :: xs, u :: us, .cons r t, f => fun u' hu => by
    rw [List.all_cons, Bool.and_eq_true] at f
    rcases List.mem_cons.mp hu with rfl | hu
    · rw [eqU_of r f.1]; exact eqAt_V r rx f.1 fx
    · exact mem_eqAt rx fx t f.2 u' hu
def inV (x : V) (xs : List V) : Bool := xs.any fun y => eqV y x
/-- x in a list or tuple of flat items -/
def rIn (K : PySem.W.Frag) (neg : Bool) : R2 := fun x y H Q => ∃ p xs, y = .ref p ∧ (SqL K H p xs ∨ SqT K H p xs) ∧ flatV x = true ∧ xs.all flatV = true ∧ Q (.bl (if neg then !inV x xs else inV x xs)) H
theorem op_in_seq : OpR X (compareOp .In) (rIn X.K false) := by
  intro pins s σ H x y v u Q I rx ry h
  obtain ⟨p, xs, rfl, hq, fx, fs, q⟩ := h
  cases ry
  rcases hq with hq | hq
  · obtain ⟨its, r, pl, hz⟩ := I.list hq
    refine SeqAt.in_listAt (eqU x) pl.isList (fun w hw => mem_eqAt rx fx r fs w (by simpa using hw)) ⟨.bl _, H, I, rfl, ?_⟩
    rw [show its.toArray.any (eqU x) = its.any (eqU x) by simp, any_eqU r fs]
    exact q
  · obtain ⟨its, r, pl, hz⟩ := I.tuple hq
    refine SeqAt.in_tupleAt (eqU x) pl (fun w hw => mem_eqAt rx fx r fs w (by simpa using hw)) ⟨.bl _, H, I, rfl, ?_⟩
    rw [show its.toArray.any (eqU x) = its.any (eqU x) by simp, any_eqU r fs]
    exact q
/-! ### len, list(x), tuple(x) of any list or tuple that is read -/
theorem call_len_seq : CallR X (.builtin "len") (fun xs H Q => ∃ p ys, xs = [.ref p] ∧ (SqL X.K H p ys ∨ SqT X.K H p ys) ∧ Q (.int ys.length) H) := by
  intro pins s σ H xs us Q I r h
  obtain ⟨p, ys, rfl, hq, q⟩ := h
  obtain ⟨u, rfl, rx⟩ := vals1 r
  cases rx
  have hn := line63
  rcases hq with hq | hq
  · obtain ⟨its, r', pl, hz⟩ := I.list hq
    have hlen := r'.length
    exact Calls.call_len_list pl.isList (by simp only [List.size_toArray] <;> omega) ⟨.int ys.length, H, I.tok _, ⟨s.toks + 1, by rw [List.size_toArray, hlen]⟩, q⟩
  · obtain ⟨its, r', pl, hz⟩ := I.tuple hq
    have hlen := r'.length
    exact len_tuple pl (by simp only [List.size_toArray] <;> omega) ⟨.int ys.length, H, I.tok _, ⟨s.toks + 1, by rw [List.size_toArray, hlen]⟩, q⟩
theorem call_list_of : CallR X (.type "list") (fun xs H Q => ∃ p ys, xs = [.ref p] ∧ (SqL X.K H p ys ∨ SqT X.K H p ys) ∧ ∀ l, H l = none → Q (.ref l) (upd H l (.lst ys))) := by
  intro pins s σ H xs us Q I r h
  obtain ⟨p, ys, rfl, hq, q⟩ := h
  obtain ⟨u, rfl, rx⟩ := vals1 r
  cases rx
  have fin : ∀ (its : List Value), Vals ys its → ys.length ≤ sizeLine → ∀ (h' : Heap) (c' : Nat), (∀ b o', s.heap.get? b = some o' → h'.get? b = some o') →
      h'.get? s.heap.objs.size = some { cls := .type "list", dict := none, data := .seq its.toArray c', slots := #[] } → EP X pins σ Q (.ref s.heap.objs.size) { s with heap := h' } := fun its r' hz h' c' kp e =>
    ⟨.ref s.heap.objs.size, _, I.laid (t' := s.toks) kp (Nat.le_refl _) (show ObjOk X.prog X.w _ h' _ (.lst ys) from ⟨hz, its, c', r', e⟩), rfl, q _ (I.hok.fresh (Nat.le_refl _))⟩
  rcases hq with hq | hq
  · obtain ⟨its, r', pl, hz⟩ := I.list hq
    have hlen := r'.length
    obtain ⟨o, ho, hc, n, hd⟩ := pl.isList
    exact call_list_seq p (.inl rfl) ho hc hd (fun h' c' kp e => fin its r' hz h' c' kp e) (by simp only [List.size_toArray] <;> omega)
  · obtain ⟨its, r', pl, hz⟩ := I.tuple hq
    have hlen := r'.length
    obtain ⟨o, ho, hc, n, hd⟩ := pl
    exact call_list_seq p (.inr rfl) ho hc hd (fun h' c' kp e => fin its r' hz h' c' kp e) (by simp only [List.size_toArray] <;> omega)
theorem call_tuple_of : CallR X (.type "tuple") (fun xs H Q => ∃ p ys, xs = [.ref p] ∧ ((SqL X.K H p ys ∧ ∀ l, H l = none → Q (.ref l) (upd H l (.tup ys))) ∨ (SqT X.K H p ys ∧ Q (.ref p) H))) := by
  intro pins s σ H xs us Q I r h
  obtain ⟨p, ys, rfl, h⟩ := h
  obtain ⟨u, rfl, rx⟩ := vals1 r
  cases rx
  rcases h with ⟨hq, q⟩ | ⟨hq, q⟩
  · obtain ⟨its, r', pl, hz⟩ := I.list hq
    have hlen := r'.length
    refine call_tuple_list pl.isList (fun h' kp => ?_) (by simp only [List.size_toArray] <;> omega)
    have I1 : Inv X pins σ H { s with heap := h' } := I.kept (t' := s.toks) kp
    have I2 : Inv X pins σ (upd H h'.objs.size (.tup ys)) { s with heap := h'.push { cls := .type "tuple", data := .seq its.toArray } } :=
      I1.laid (t' := s.toks) (fun b o e => Heap.get?_push_of_some _ e) (Nat.le_refl _) (show ObjOk X.prog X.w _ _ _ (.tup ys) from ⟨hz, its, r', IsTup.new _ _⟩)
    exact ⟨.ref h'.objs.size, _, I2, rfl, q _ (I1.hok.fresh (Nat.le_refl _))⟩
  · obtain ⟨its, r', pl, hz⟩ := I.tuple hq
    exact call_tuple_same pl ⟨.ref p, H, I, rfl, q⟩

/-! ### the call of a builtin's method: o.m(..) -/
/-- the value is of that builtin type -/
def tyV (K : PySem.W.Frag) (T : String) (x : V) (H : Hp) : Prop := match x with
  | .str _ => T = "str"
  | .int _ => T = "int"
  | .ref p => (T = "list" ∧ ∃ xs, SqL K H p xs) ∨ (T = "tuple" ∧ ∃ o, K.lookup p = some o ∧ o.cls = .type "tuple" ∧ o.dict = none) ∨
      (T = "dict" ∧ ((∃ kvs, H p = some (.dK kvs)) ∨ ∃ kvs, H p = some (.dT kvs))) ∨ (T = "set" ∧ ∃ S n, H p = some (.set S n))
  | _ => False
theorem tyV_is {pins : List (Addr × Obj)} {σ : St} {H : Hp} {s : Shared} {T : String} {x : V} {v : Value} (I : Inv X pins σ H s) (r : RelV x v) (ty : tyV X.K T x H) :
    s.TypeIs v T ∧ ∀ a, v = .ref a → ∃ ob, s.heap.get? a = some ob ∧ ob.dict = none := by
  cases x with
  | str z =>
    obtain ⟨t, rfl⟩ := r
    cases (show T = "str" from ty)
    exact ⟨typeIs_str s z t, fun _ e => nomatch e⟩
  | int i =>
    obtain ⟨t, rfl⟩ := r
    cases (show T = "int" from ty)
    exact ⟨typeIs_int s i t, fun _ e => nomatch e⟩
  | ref p =>
    cases r
    rcases ty with ⟨rfl, xs, hq⟩ | ⟨rfl, o, hk, hc, hd⟩ | ⟨rfl, hk⟩ | ⟨rfl, S, n, hk⟩
    · obtain ⟨its, _, pl, _⟩ := I.list hq
      refine ⟨pl.isList.typeIs, fun a e => ?_⟩
      cases e
      obtain ⟨o, n, e, c, hd, _⟩ := pl
      exact ⟨o, e, hd⟩
    · refine ⟨⟨o, I.kIn p o hk, hc⟩, fun a e => ?_⟩
      cases e
      exact ⟨o, I.kIn _ o hk, hd⟩
    · have z : ∃ o, s.heap.get? p = some o ∧ o.ExactDict := by
        rcases hk with ⟨kvs, hk⟩ | ⟨kvs, hk⟩
        · obtain ⟨_, _, _, _, o, _, _, e, ex, _⟩ := I.hok p _ hk
          exact ⟨o, e, ex⟩
        · obtain ⟨_, _, _, _, o, _, _, e, ex, _⟩ := I.hok p _ hk
          exact ⟨o, e, ex⟩
      obtain ⟨o, e, ex⟩ := z
      refine ⟨⟨o, e, ex.1⟩, fun a e2 => ?_⟩
      cases e2
      exact ⟨o, e, ex.2.1⟩
    · obtain ⟨o, _, _, _, e, ex, _⟩ := I.hok p _ hk
      refine ⟨⟨o, e, ex.1⟩, fun a e2 => ?_⟩
      cases e2
      exact ⟨o, e, ex.2.1⟩
  | _ => exact False.elim ty
def tBM0 (K : PySem.W.Frag) (T : String) (r : V → List V → Hp → VK → Prop) (to : TE) : TE := fun σ H Q => to σ H fun x H1 => tyV K T x H1 ∧ r x [] H1 Q
def tBM (K : PySem.W.Frag) (T : String) (r : V → List V → Hp → VK → Prop) (to : TE) (t : TA) : TE := fun σ H Q => to σ H fun x H1 => tyV K T x H1 ∧ t σ H1 fun xs H2 => r x xs H2 Q
variable {o e : Expr} {es : List Expr} {to : TE} {t : TA} {name : Str} {apos cpos : Pos} {T id : String} {r : V → List V → Hp → VK → Prop}
theorem pe_bm0 (pa : PlainAttrs T) (slot : Slot T name id) (hty : typeOf (.builtin id) = pure (.type "method_descriptor")) (hm : MtR X id r) (ho : PE X o to)
    (hbase : attributeBase o name X.env (eval o X.env) = eval o X.env := by rfl) (hline : (apos.endLine == cpos.line) = true := by rfl) : PE X (.Call (.Attribute o name apos) [] [] cpos) (tBM0 X.K T r to) := by
  intro pins s σ H Q I h
  refine wpAny_Call_method0_late hbase hline (thn (ho pins s σ H _ I h) fun v s1 ⟨x, H1, I1, r1, ty, q1⟩ => ?_)
  obtain ⟨h1, h2⟩ := tyV_is I1 r1 ty
  exact ⟨T, id, pa, slot, hty, h1, h2, Calls.callWith_builtin rfl (PySem.evalArgs_none (hm pins s1 σ H1 x [] v [] Q I1 r1 .nil q1))⟩
theorem pe_bm (pa : PlainAttrs T) (slot : Slot T name id) (hty : typeOf (.builtin id) = pure (.type "method_descriptor")) (hm : MtR X id r) (ho : PE X o to) (ha : PA X (e :: es) t)
    (hbase : attributeBase o name X.env (eval o X.env) = eval o X.env := by rfl)
    (hfew : ((backTo cpos (starEach (e :: es) X.env)).all (fun x => !x.1) && (backToKw cpos (keywordEach [] X.env)).all (fun x => x.1.isSome)
      && decide ((e :: es).length + ([] : List Keyword).length + (if ([] : List Keyword).isEmpty then 0 else 1) < 30)) = true := by rfl)
    (hline : (apos.endLine == cpos.line) = true := by rfl) (hs : starEach (e :: es) X.env = (false, eval e X.env) :: starEach es X.env := by rfl) (hplain : (backTo cpos (starEach es X.env)).any (·.1) = false := by rfl) :
    PE X (.Call (.Attribute o name apos) (e :: es) [] cpos) (tBM X.K T r to t) := by
  intro pins s σ H Q I h
  refine wpAny_Call_method_late hbase hfew hline rfl (thn (ho pins s σ H _ I h) fun v s1 ⟨x, H1, I1, r1, ty, q1⟩ => ?_)
  obtain ⟨h1, h2⟩ := tyV_is I1 r1 ty
  refine ⟨T, id, pa, slot, hty, h1, h2, ?_⟩
  have hA := ha cpos pins s1 σ H1 _ I1 q1
  rw [hs] at hA ⊢
  refine Calls.callWith_builtin (by show (false || (backTo cpos (starEach es X.env)).any (·.1)) = false; rw [hplain] <;> rfl) (Calls.evalArgs_plain ?_)
  exact thn hA fun us s2 ⟨vs, H2, I2, r2, q2⟩ => hm pins s2 σ H2 x vs v us Q I2 r1 r2 q2
/- xs.append(e), list.index on a module's tuple .. are MtR facts of 06m -/
end
end L2

namespace L2
open PySem PySem.Spec PyProof.Rows

def MtM (X : Cx) (id : String) (r : V → List V → Hp → VK → Prop) : Prop :=
  ∀ (pins : List (Addr × Obj)) (s : Shared) (σ : St) (H : Hp) (x : V) (xs : List V) (v : Value) (us : List Value) (Q : VK), Inv X pins σ H s → RelV x v → Vals xs us → r x xs H Q →
    wpAny (model X.prog X.w) X.A (call (.builtin id) (v :: us)) (EP X pins σ Q) X.xe s

/-! ### lists of values -/
theorem Vals.one : ∀ {x : V} {us : List Value}, Vals [x] us → ∃ u, us = [u] ∧ RelV x u
  | _, _, .cons r .nil => ⟨_, rfl, r⟩
section
variable {X : Cx} {pins : List (Addr × Obj)} {σ : St} {H : Hp} {s : Shared} {l b : Addr} {xs ys zs : List V}

/-! ### the two steps: a tracked list is rewritten, a new list is laid -/
theorem Inv.lset {its its' : List Value} {n : Nat} {f : Array Value → Array Value} {t' : Nat} (I : Inv X pins σ H s) (hH : H l = some (.lst xs))
    (e : s.heap.get? l = some { cls := .type "list", data := .seq its.toArray n }) (hf : f its.toArray = its'.toArray) (hv : Vals ys its') (hz : ys.length ≤ sizeLine) :
    Inv X pins σ (upd H l (.lst ys)) { s with heap := s.heap.update l (Obj.mapSeq f), toks := t' } := by
  have q := PySem.IsL.update e f
  rw [hf] at q
  refine I.write (x := l) (e := l) (by rw [hH]; exact trivial) (.inl rfl) (fun b' u hb hu => (Heap.get?_update_other s.heap (Obj.mapSeq f) (Ne.symm hb)).trans hu) ⟨_, q⟩ ?_
  exact ⟨hz, its', _, hv, q⟩
theorem Inv.lnew {its : List Value} {t' : Nat} (I : Inv X pins σ H s) (hv : Vals ys its) (hz : ys.length ≤ sizeLine) :
    Inv X pins σ (upd H s.heap.objs.size (.lst ys)) { s with heap := s.heap.push { cls := .type "list", data := .seq its.toArray }, toks := t' } :=
  I.laid (fun _ _ q => Heap.get?_push_of_some _ q) (Nat.le_refl _) ⟨hz, its, 0, hv, Heap.get?_push_size _ rfl⟩
theorem Inv.fresh (I : Inv X pins σ H s) : H s.heap.objs.size = none := I.hok.fresh (Nat.le_refl _)
theorem Inv.lstM (I : Inv X pins σ H s) (hH : H l = some (.lst xs)) : xs.length ≤ sizeLine ∧ ∃ (its : List Value) (n : Nat), Vals xs its ∧ xs.length = its.length ∧ s.heap.get? l = some { cls := .type "list", data := .seq its.toArray n } := by
  obtain ⟨z, its, n, r, e⟩ := I.hok l _ hH
  exact ⟨z, its, n, r, r.length, e⟩

end

section
variable {X : Cx}

/-! ### methods -/
def rAppend : V → List V → Hp → VK → Prop := fun x vs H Q => ∃ l xs y, x = .ref l ∧ vs = [y] ∧ H l = some (.lst xs) ∧ xs.length < sizeLine ∧ Q .non (upd H l (.lst (xs ++ [y])))
theorem mt_append : MtM X "list.append" rAppend := by
  intro pins s σ H x vs v us Q I rx rv h
  obtain ⟨l, xs, y, rfl, rfl, hH, hz, q⟩ := h
  cases rx
  obtain ⟨u, rfl, ru⟩ := rv.one
  obtain ⟨z, its, n, r, hl, e⟩ := I.lstM hH
  refine call_meets F.slot_list_append ⟨_, e, rfl⟩ F.entry_list_append (F.args_list_append_2 _ _) (PySem.list_append l its.toArray n u (by rw [List.size_toArray]; omega)) ⟨e, ?_⟩
  refine ⟨.non, _, I.lset (its' := its ++ [u]) hH e (by simp) (r.append (.cons ru .nil)) ?_, rfl, q⟩
  rw [List.length_append, List.length_singleton]
  omega

/-! ### list + list, list += list, list * int -/
def rCat : R2 := fun x y H Q => ∃ l b xs zs, x = .ref l ∧ y = .ref b ∧ H l = some (.lst xs) ∧ H b = some (.lst zs) ∧ xs.length + zs.length ≤ sizeLine ∧ ∀ p, H p = none → Q (.ref p) (upd H p (.lst (xs ++ zs)))
theorem op_cat : OpR X (binaryOp .Add) rCat := by
  intro pins s σ H x y v u Q I rx ry h
  obtain ⟨l, b, xs, zs, rfl, rfl, hH, hB, hz, q⟩ := h
  cases rx
  cases ry
  obtain ⟨z, its, n, r, hl, e⟩ := I.lstM hH
  obtain ⟨z2, its2, n2, r2, hl2, e2⟩ := I.lstM hB
  refine PySem.P.add_list e e2 ?_ (by rw [List.size_toArray, List.size_toArray]; omega)
  have ea : its.toArray ++ its2.toArray = (its ++ its2).toArray := by simp
  rw [ea]
  exact ⟨.ref _, _, I.lnew (t' := s.toks) (r.append r2) (by rw [List.length_append]; omega), rfl, q _ I.fresh⟩
/-! ### del xs[i] -/
end

/-! ### xs[a:b] = ys -/
section
variable {prog : Program} {w : World} {A : Around} {E : Value → Shared → Prop} {s : Shared}
end

section
variable {X : Cx}
end
end L2

namespace L2
open PySem PySem.Spec PyProof.Rows

/-! ### lists of pairs as tables -/
section
variable {κ : Type} [DecidableEq κ]
def valV (kvs : List (κ × V)) (k : κ) : Option V := (kvs.find? fun kv => decide (kv.1 = k)).map (·.2)
/-- in its place, or at the end -/
def putK (kvs : List (κ × V)) (k : κ) (v : V) : List (κ × V) :=
  if (kvs.any fun kv => decide (kv.1 = k)) = true then kvs.map (fun kv => if kv.1 = k then (kv.1, v) else kv) else kvs ++ [(k, v)]
theorem valV_pos {p : κ × V} {r : List (κ × V)} {k : κ} (e : p.1 = k) : valV (p :: r) k = some p.2 := by simp [valV, List.find?_cons, e]
theorem valV_neg {p : κ × V} {r : List (κ × V)} {k : κ} (e : ¬ p.1 = k) : valV (p :: r) k = valV r k := by simp [valV, List.find?_cons, e]
theorem valV_any (k : κ) : ∀ kvs : List (κ × V), (kvs.any fun kv => decide (kv.1 = k)) = (valV kvs k).isSome
  | [] => rfl
  | p :: r => by
    rw [List.any_cons]
    by_cases e : p.1 = k
    · simp only [valV_pos e, decide_eq_true e, Bool.true_or, Option.isSome_some]
    · rw [valV_neg e, decide_eq_false e, Bool.false_or]; exact valV_any k r
theorem length_putK (kvs : List (κ × V)) (k : κ) (v : V) : (putK kvs k v).length ≤ kvs.length + 1 := by
  unfold putK
  split
  · rw [List.length_map]; omega
  · rw [List.length_append, List.length_cons, List.length_nil]; omega
theorem putK_new {kvs : List (κ × V)} {k : κ} (v : V) (h : valV kvs k = none) : putK kvs k v = kvs ++ [(k, v)] := by
  unfold putK
  rw [valV_any, h]
  exact if_neg (by decide)

theorem RelO.getD {o : Option V} {u : Option Value} {d : V} {d' : Value} (r : RelO o u) (rd : RelV d d') : RelV (o.getD d) (u.getD d') := by
  cases o with
  | none => cases u with
    | none => exact rd
    | some _ => exact (show False from r).elim
  | some _ => cases u with
    | none => exact (show False from r).elim
    | some _ => exact r

/-- raw tables of the same keys -/
theorem KV.val {kvs : List (κ × V)} {vs : List (κ × Value)} (r : KV kvs vs) (k : κ) : RelO (valV kvs k) (valueAt vs k) := by
  unfold KV at r
  induction r with
  | nil => exact True.intro
  | @cons p q ps qs h t ih =>
    obtain ⟨h1, h2⟩ := h
    by_cases e : p.1 = k
    · have e' : q.1 = k := h1.symm.trans e
      have b : valueAt (q :: qs) k = some q.2 := by simp [valueAt, List.find?_cons, e']
      rw [valV_pos e, b]; exact h2
    · have e' : ¬ q.1 = k := fun z => e (h1.trans z)
      have b : valueAt (q :: qs) k = valueAt qs k := by simp [valueAt, List.find?_cons, e']
      rw [valV_neg e, b]; exact ih
theorem KV.any {kvs : List (κ × V)} {vs : List (κ × Value)} (r : KV kvs vs) (k : κ) : (kvs.any fun kv => decide (kv.1 = k)) = vs.any fun kv => decide (kv.1 = k) := by
  unfold KV at r
  induction r with
  | nil => rfl
  | cons h t ih => rw [List.any_cons, List.any_cons, ih, h.1]
theorem KV.repl {kvs : List (κ × V)} {vs : List (κ × Value)} (r : KV kvs vs) (k : κ) {y : V} {u : Value} (ry : RelV y u) :
    KV (kvs.map fun kv => if kv.1 = k then (kv.1, y) else kv) (vs.map fun kv => if kv.1 = k then (kv.1, u) else kv) := by
  unfold KV at r ⊢
  induction r with
  | nil => exact .nil
  | @cons p q ps qs h t ih =>
    rw [List.map_cons, List.map_cons]
    refine .cons ?_ ih
    obtain ⟨h1, h2⟩ := h
    by_cases e : p.1 = k
    · rw [if_pos e, if_pos (h1.symm.trans e)]; exact ⟨h1, ry⟩
    · rw [if_neg e, if_neg (fun z => e (h1.trans z))]; exact ⟨h1, h2⟩
theorem KV.put {kvs : List (κ × V)} {vs : List (κ × Value)} (r : KV kvs vs) (k : κ) {y : V} {u : Value} (ry : RelV y u) : KV (putK kvs k y) (stored vs k u) := by
  unfold putK stored
  rw [r.any k]
  by_cases e : (vs.any fun kv => decide (kv.1 = k)) = true
  · rw [if_pos e, if_pos e]; exact r.repl k ry
  · rw [if_neg e, if_neg e]; exact Paired.snoc r ⟨rfl, ry⟩
theorem KV.length {kvs : List (κ × V)} {vs : List (κ × Value)} (r : KV kvs vs) : kvs.length = vs.length := Paired.length r
end


/-! ### a tracked dict, its keys ints and texts or tuples of these -/
theorem kV_is {P : Program} {w : World} {k : Key} {u : Value} (r : RelV (kV k) u) : (mixKind P w).is k u = true := by
  cases k with
  | inl i => obtain ⟨t, e⟩ := (show ∃ t, u = Value.int i t from r); subst e; exact mixKind_int P w i t
  | inr x => obtain ⟨t, e⟩ := (show ∃ t, u = Value.str x t from r); subst e; exact mixKind_str P w x t
section
variable {P : Program} {w : World} {H : Hp} {h : Heap} {a : Addr}
theorem rd_of {u : HO} (ok : HOk P w H h) (e : Rd H a u) : ObjOk P w H h a u := e.ok ok
theorem dk_rd {kvs : List (Key × V)} (ok : HOk P w H h) (e : Rd H a (.dK kvs)) : kvs.length ≤ sizeLine ∧ (a == sysModules) = false ∧ ∃ vs, KV kvs vs ∧ h.DictOf (mixKind P w) a vs :=
  show ObjOk P w H h a (.dK kvs) from rd_of ok e
theorem dk_of {kvs : List (Key × V)} (ok : HOk P w H h) (e : H a = some (.dK kvs)) : kvs.length ≤ sizeLine ∧ (a == sysModules) = false ∧ ∃ vs, KV kvs vs ∧ h.DictOf (mixKind P w) a vs := dk_rd ok (.inl e)
end

section
variable {X : Cx} {pins : List (Addr × Obj)} {σ : St} {H : Hp} {s : Shared} {a : Addr} {y v : V} {u r : Value} {o : Option V} {A : Around} {E : Value → Shared → Prop}

theorem Inv.big (I : Inv X pins σ H s) : sysModules < s.heap.objs.size := by
  have h : mainGlobals < s.heap.objs.size := (I.mod.glob.keeps I.bk).lt
  exact Nat.lt_trans (by decide) h

/-- a dict's object is replaced -/
theorem d_write {h' : Heap} {t' : Nat} {ob : HO} (I : Inv X pins σ H s) (mu : Mut (H a)) (hs : Heap.SameBut a s.heap h') (he : ∃ q, h'.get? a = some q) (new : ObjOk X.prog X.w (upd H a ob) h' a ob) :
    Inv X pins σ (upd H a ob) { s with heap := h', toks := t' } :=
  I.write (x := a) (e := a) mu (.inl rfl) (fun b q hb z => (hs.2 b hb).trans z) he new
theorem dk_new {P : Program} {w : World} {H' : Hp} {h' : Heap} {kvs : List (Key × V)} {vs : List (Key × Value)} (z : kvs.length ≤ sizeLine) (hd : (a == sysModules) = false) (rel : KV kvs vs) (dd : h'.DictOf (mixKind P w) a vs) :
    ObjOk P w H' h' a (.dK kvs) := ⟨z, hd, vs, rel, dd⟩
end

section
variable {X : Cx} {pins : List (Addr × Obj)} {σ : St} {H : Hp} {s : Shared} {a : Addr} {kvs : List (Key × V)} {k : Key} {u : Value} {A : Around} {E : Value → Shared → Prop}
end


/-! ### readings and rules -/
section
variable {X : Cx} {o i e value : Expr} {pos pos' tpos : Pos} {td ty tv : TE}
end


/-! ### displays -/
theorem dk_empty {P : Program} {w : World} {H : Hp} (h : Heap) (hb : sysModules < h.objs.size) : ObjOk P w H (h.push { cls := .type "dict", data := .dict #[] }) h.objs.size (.dK []) :=
  ⟨Nat.zero_le _, beq_eq_false_iff_ne.mpr (Ne.symm (Nat.ne_of_lt hb)), [], .nil, Heap.DictOf.new h⟩
/-- {}, to be a dict of the kind that is wanted -/
def tDNewK : TE := fun _ H Q => ∀ p, H p = none → Q (.ref p) (upd H p (.dK []))
section
variable {X : Cx} {pos : Pos}
theorem pe_dnewK : PE X (.Dict [] [] pos) tDNewK := fun pins s σ H Q I h =>
  wpAny_Dict_empty ⟨.ref s.heap.objs.size, _, I.laid (a := s.heap.objs.size) (o := .dK []) (t' := s.toks) (fun _ _ q => Heap.get?_push_of_some _ q) (Nat.le_refl _) (dk_empty s.heap I.big), rfl, h _ (I.hok.fresh (Nat.le_refl _))⟩
end

/-! ### methods -/
/-- a method call o.m(e) of a built-in, with one argument: what must be seen of the text -/
structure M1 (X : Cx) (o : Expr) (m : Str) (apos : Pos) (e : Expr) (cpos : Pos) : Prop where
  base : attributeBase o m X.env (eval o X.env) = eval o X.env
  few : ((backTo cpos (starEach [e] X.env)).all (fun x => !x.1) && (backToKw cpos (keywordEach [] X.env)).all (fun x => x.1.isSome)
    && decide (([e] : List Expr).length + ([] : List Keyword).length + (if ([] : List Keyword).isEmpty then 0 else 1) < 30)) = true
  line : (apos.endLine == cpos.line) = true
  trees : backTo cpos (starEach [e] X.env) = [(false, eval e X.env)]
structure M2 (X : Cx) (o : Expr) (m : Str) (apos : Pos) (e f : Expr) (cpos : Pos) : Prop where
  base : attributeBase o m X.env (eval o X.env) = eval o X.env
  few : ((backTo cpos (starEach [e, f] X.env)).all (fun x => !x.1) && (backToKw cpos (keywordEach [] X.env)).all (fun x => x.1.isSome)
    && decide (([e, f] : List Expr).length + ([] : List Keyword).length + (if ([] : List Keyword).isEmpty then 0 else 1) < 30)) = true
  line : (apos.endLine == cpos.line) = true
  trees : backTo cpos (starEach [e, f] X.env) = [(false, eval e X.env), (false, eval f X.env)]

section
variable {X : Cx} {pins : List (Addr × Obj)} {σ : St} {H : Hp} {s : Shared} {a : Addr} {y d : V} {u r : Value} {o : Option V} {A : Around} {E : Value → Shared → Prop}
end

section
variable {X : Cx} {o e f : Expr} {apos cpos : Pos} {td ty tx : TE}
end

/-! ### dict(d): a copy -/
section
variable {X : Cx} {pins : List (Addr × Obj)} {σ : St} {H : Hp} {s : Shared} {a : Addr} {kvs : List (Key × V)} {A : Around} {E : Value → Shared → Prop}
end


section
variable {X : Cx} {pins : List (Addr × Obj)} {σ : St} {H : Hp} {s : Shared} {a : Addr} {y : V} {u : Value} {A : Around} {E : Value → Shared → Prop}
end
end L2


namespace Att
open PySem PySem.W PySem.Calls PyProof.Rows

/-! ### the script -/
theorem ints_of_wellAll {P : Params} {h : Heap} : ∀ (ns : List Int) (vs : List Value), WellAll P h vs (ns.map WData.int) → IntsAre vs ns := by
  intro ns
  induction ns with
  | nil =>
    intro vs w
    rw [List.map_nil] at w
    cases w
    exact .nil
  | cons n ns ih =>
    intro vs w
    rw [List.map_cons] at w
    cases w with
    | cons a b =>
      cases a
      exact .cons _ _ (ih _ b)

theorem script_of {l : OpenLaw} {n : Nat} (hn : l.most = some n) {P : Params} {h : Heap} {args : List WData} {vals : List Value}
    (hpre : l.row.toRowW.claim.pre args = true) (hwl : WellAll P h vals args) :
    ∃ a vs ns, vals = [Value.ref a] ∧ args = [WData.list (ns.map WData.int)] ∧ h.get? a = some { cls := .type "list", data := .seq vs.toArray } ∧ IntsAre vs ns ∧ ns.length ≤ n := by
  have hsh : WShape.hasAll [] args [.list .int] = true := (pre_splitW hpre).1
  have hc : l.pre.holds [] { args := args } = true := (pre_splitW hpre).2
  obtain ⟨d, r, rfl, h1, h2⟩ := hasAllW_cons hsh
  obtain rfl := hasAllW_nil h2
  obtain ⟨xs, rfl, h3⟩ := hasW_list h1
  obtain ⟨ns, rfl⟩ := items_int h3
  have hlen : ns.length ≤ n := by
    unfold OpenLaw.pre at hc
    have h4 : (WTm.not (.lt (.lit (.int (n : Int))) (.len (.arg 0)))).holds [] { args := [.list (ns.map .int)] } = true := by
      have h4 := (holds_andW hc).1
      rw [hn] at h4
      exact h4
    have h5 := condW_of h4 (w_not (w_lt w_lit (w_len_list (w_arg rfl))))
    rw [List.length_map] at h5
    refine Nat.le_of_not_lt fun q => ?_
    have q' : (n : Int) < ((ns.length : Nat) : Int) := by omega
    first
      | (rw [decide_eq_true q'] at h5; exact absurd h5 (by decide))
      | (simp at h5; omega)
  cases hwl with
  | cons w1 w2 =>
    cases w2
    cases w1 with
    | list ho hall => exact ⟨_, _, ns, rfl, rfl, ho, ints_of_wellAll ns _ hall, hlen⟩

theorem post_true (l : OpenLaw) (args : List WData) : l.row.toRowW.claim.post args (.bool true) args = true :=
  postW_of (r := l.row.toRowW) (X := (true == true))
    (show WShape.has [] (.bool true) .bool = true by first | rfl | decide | simp [WShape.has, WShape.arms, WShape.armsAll])
    (show (WTm.eq .res (.lit (.bool true))).value [] { args := args, res := some (.bool true), after := args } = some (.bool (true == true)) from w_eq_bool (w_res rfl) w_lit) rfl

/-! ### the attachment: holds_open's last premise (the goal 'hc' behind k_head) from a wpAny of the law's body -/
/-- the same from a codeAny of the CALL (for a layer whose function contracts speak of calls) -/
theorem attach_call {l : OpenLaw} {n : Nat} {q : Program} {loose : List Str} {XP : (Str → Option Value) → Heap → Prop} {YP : World → Heap → Prop} {d : DefRec}
    (hn : l.most = some n) (hdf : d.params.defaults = [])
    (call : ∀ (w : World) (s₀ s₁ : Shared) (mg mb : Str → Option Value) (fa : Addr) (o : Obj) (pm cd doc : Value) (a : Addr) (vs : List Value) (ns : List Int),
      Ground q loose [] XP w s₀ mg mb s₁.heap → YP w s₁.heap →
      s₁.heap.get? fa = some o → o.data = .func (docDef d.name d.params d.body d.scope pm cd doc) → s₁.heap.CodeRec cd d.name → mg d.name = some (.ref fa) →
      s₁.heap.get? a = some { cls := .type "list", data := .seq vs.toArray } → IntsAre vs ns → ns.length ≤ n → s₁.gens = #[] →
      codeAny (model l.prog w) callerA (.call (.ref fa) ⟨[.ref a], []⟩) (fun r s' => r = .ok (.ret (.bool true)) ∧ OldK s₁.heap s'.heap ∧ s'.os = s₁.os ∧ AllBare s'.gens) s₁) :
    WalkO q loose XP YP l.row.toRowW d [] (fun f vs => PySem.call f vs) := by
  intro w s₀ s₁ mg mb G Y fa o pm cd doc dV kV ho hd hcd hD hmg hg args vals as hpre hlay hrd hwl hlo
  obtain rfl : dV = .none := Dflts.none hD hdf
  obtain rfl : kV = .none := Dflts.noKw hD
  obtain ⟨a, vs, ns, rfl, rfl, hobj, hints, hlen⟩ := script_of hn hpre hwl
  refine enter_call (codeAny_mono (call w s₀ s₁ mg mb fa o pm cd doc a vs ns G Y ho (fd_plain hd) hcd hmg hobj hints hlen hg) fun r s' hq => ?_)
  obtain ⟨rfl, h2, h3, h4⟩ := hq
  exact ⟨.inl ⟨.bool true, .bool true, [], rfl, fun _ => rfl, .bool true, post_true l _, fun _ => ⟨List.Pairwise.nil, fun _ hm => (nomatch hm)⟩⟩, h2, h3, h4⟩

/-! ### rules over ANY heap (no ledger) from facts about the written part K: the library's own take a ledger (News) for what they write -/
section
variable {prog : Program} {w : World} {A : Around} {E : Value → Shared → Prop} {s : Shared} {K : Frag}

/-! the whole heap as the ledger: makes every rule that writes through a ledger a rule over any heap -/
def ledger (h : Heap) (L d : Addr) : List (Addr × Obj) := (List.range h.objs.size).filterMap fun a => if a = L ∨ a = d then none else (h.get? a).map fun o => (a, o)
end
end Att

namespace L2
open PySem PySem.Spec PyProof.Rows

theorem vals_ints : ∀ {vs : List Value} {ns : List Int}, IntsAre vs ns → Vals (ns.map V.int) vs
  | _, _, .nil => .nil
  | _, _, .cons n t h => .cons ⟨t, rfl⟩ (vals_ints h)

/-- nothing is tracked but the script, known to the object (or it is an object of the module) -/
def Only (H : Hp) : Prop := ∀ b, H b = none ∨ ∃ o xs, H b = some (.frz o (.lst xs))

/-- THE HEAD: the law's promise, at the heap behind the top. F, the promise of the law's def, may use that base is part of the heap (so K.In base, base.Ns mainGlobals mg stand in Mod) -/
theorem law_call {P : Program} {w : World} {K : PySem.W.Frag} {mg mb : Str → Option Value} {CX : CXT} {k : Nat} {fa a : Addr} {fd : FuncData} {x : Str} {sp : Sp} {s₁ : Shared} {vs : List Value} {ns : List Int}
    (KX : K.In s₁.heap) (hns : s₁.heap.Ns mainGlobals mg) (hb : s₁.heap.Ns builtinsNs mb) (hbb : ∀ x : Str, x ≠ "__name__" → mb x = bootBuiltins x) (hlim : s₁.heap.NoLimit) (hg : s₁.gens = #[])
    (ha : s₁.heap.get? a = some { cls := .type "list", data := .seq vs.toArray }) (hi : IntsAre vs ns) (hl : ns.length ≤ sizeLine) (hr : Room k callerA)
    (F : ∀ base : Heap, K.In base → base.Ns mainGlobals mg → FnOk P w K mg base CX k fa fd [x] sp) (hbind : ∀ (s : Shared) (u : Value), BindsTo s fd ⟨[u], []⟩ [(x, u)])
    (hsp : ∀ H : Hp, Only H → SqL K H a (ns.map V.int) → sp [.ref a] H (fun v _ => v = .bl true) fun _ _ _ => False)
    (hCX : ∀ H e s', CX [] H s₁ (fun _ _ _ => False) e s' → False) :
    codeAny (model P w) callerA (.call (.ref fa) ⟨[.ref a], []⟩) (fun r s' => r = .ok (.ret (.bool true)) ∧ OldK s₁.heap s'.heap ∧ s'.os = s₁.os ∧ AllBare s'.gens) s₁ := by
  have rv := vals_ints hi
  have lenV := hi.length
  -- from an abstract heap in which nothing but the script may be tracked
  have core : ∀ H : Hp, Only H → SqL K H a (ns.map V.int) → HOk P w H s₁.heap → (∀ b, H b ≠ none → b = a) → (H a ≠ none → K.lookup a = none) →
      codeAny (model P w) callerA (.call (.ref fa) ⟨[.ref a], []⟩) (fun r s' => r = .ok (.ret (.bool true)) ∧ OldK s₁.heap s'.heap ∧ s'.os = s₁.os ∧ AllBare s'.gens) s₁ := by
    intro H hO hS hok hA hK
    have base_of : ∀ {b : Addr} {o : Obj}, s₁.heap.get? b = some o → H b = none → (hidT s₁.heap H).get? b = some o := fun e n => hidT_get e n
    have noA : ∀ {b : Addr} {o : Obj} {es : Array DictEntry} {ep : Nat}, s₁.heap.get? b = some o → o.data = .dict es ep → H b = none := fun {b o es ep} e d => by
      cases q : H b with
      | none => rfl
      | some u =>
        have e' : b = a := hA b (by rw [q]; simp)
        subst e'
        rw [ha] at e; cases e
        have d' : Data.seq vs.toArray _ = Data.dict es ep := d
        cases d'
    have nsK : ∀ {b : Addr} {m : Str → Option Value}, s₁.heap.Ns b m → (hidT s₁.heap H).Ns b m := fun {b m} ⟨o, es, ep, e, d, r⟩ => ⟨o, es, ep, base_of e (noA e d), d, r⟩
    have hKb : K.In (hidT s₁.heap H) := fun b o e => base_of (KX b o e) (by
      cases q : H b with
      | none => rfl
      | some u =>
        have e' : b = a := hA b (by rw [q]; simp)
        subst e'
        rw [hK (by rw [q]; simp)] at e; cases e)
    have hM : Mod K mg (hidT s₁.heap H) := ⟨hKb, nsK hns, ⟨mb, nsK hb, hbb⟩, let ⟨mc, h1, h2⟩ := hlim; ⟨mc, nsK h1, h2⟩⟩
    have e0 : Env0 P w K mg (hidT s₁.heap H) callerA [] s₁ H := ⟨rfl, hM, fun b o e => of_hidT e, Nat.le_of_eq (hidT_size _ _), trivial, fun b hb => absurd (show b ∈ ([] : List Addr) from hb) (by simp), hok, .of_eq hg⟩
    refine codeAny_mono ((F _ hKb (nsK hns)).run callerA [] s₁ H ⟨[.ref a], []⟩ [.ref a] [.ref a] _ _ hr e0 (hbind s₁ (.ref a)) (.cons rfl .nil) (hsp H hO hS)) fun r s' h => ?_
    cases r with
    | error e => exact (hCX H e s' h).elim
    | ok fl =>
      cases fl with
      | next => exact False.elim h
      | brk => exact False.elim h
      | cont => exact False.elim h
      | ret u =>
        obtain ⟨v, H', os, bare, un, hok', r', q⟩ := h
        have q' : v = .bl true := q
        subst q'
        obtain rfl : u = Value.bool true := r'
        refine ⟨rfl, OldK.of_keep fun b o e => ?_, os, bare⟩
        cases q : H b with
        | none => exact un.keep b o e q (by intro z; exact absurd (show b ∈ ([] : List Addr) from z) (by simp)) (by simp)
        | some u =>
          rcases hO b with z | ⟨ob, xs, z⟩
          · rw [q] at z; cases z
          · have z2 := un.frzs b ob _ z
            obtain ⟨e1, _⟩ := hok b _ z
            obtain ⟨e2, _⟩ := hok' b _ z2
            rw [e] at e1; cases e1
            exact e2
  cases hk : K.lookup a with
  | some o =>
    -- the script is one of the module's own objects
    have e := KX a o hk
    rw [ha] at e
    cases e
    refine core (fun _ => none) (fun _ => .inl rfl) (.inr ⟨_, vs.toArray, _, hk, rfl, rfl, rfl, by rw [List.size_toArray, lenV]; exact hl, by simpa using rv⟩) (fun b u z => by have z' : (none : Option HO) = some u := z; cases z') (fun b z => absurd rfl z) fun z => absurd rfl z
  | none =>
    refine core (fun b => if b = a then some (.frz { cls := .type "list", data := .seq vs.toArray } (.lst (ns.map V.int))) else none) (fun b => ?_) (.inl (.inr ⟨{ cls := .type "list", data := .seq vs.toArray }, if_pos rfl⟩)) (fun b u z => ?_) (fun b z => ?_) fun _ => hk
    · by_cases hb : b = a
      · exact .inr ⟨_, _, if_pos hb⟩
      · exact .inl (if_neg hb)
    · by_cases hb : b = a
      · have z' := (if_pos hb).symm.trans z
        cases z'
        subst hb
        exact ⟨ha, by rw [List.length_map]; exact hl, vs, _, rv, ha⟩
      · have z' := (if_neg hb).symm.trans z
        cases z'
    · by_cases hb : b = a
      · exact hb
      · exact absurd (if_neg hb) z
end L2

namespace L2
open PySem PySem.Spec PyProof.Rows

abbrev KOf {K : PySem.W.Frag} {h : Heap} (_ : K.In h) : PySem.W.Frag := K

/-- the goal that k_head leaves (case hc), from the law's promise. F gives the function object fd (K's own) once, then the promise over every base -/
theorem walk_of {l : PySem.W.OpenLaw} {n k : Nat} {q : Program} {loose : List Str} {XP : (Str → Option Value) → Heap → Prop} {YP : World → Heap → Prop} {d : DefRec} {K : Params → PySem.W.Frag} {CX : World → CXT} {sp : World → Sp} {x : Str}
    (hn : l.most = some n) (hn2 : n ≤ sizeLine) (hdf : d.params.defaults = []) (hr : Room k callerA)
    (hY : ∀ (w : World) (h : Heap), YP w h → (K w.params).In h)
    (F : ∀ (w : World) (mg : Str → Option Value) (fa : Addr) (h : Heap), (K w.params).In h → h.Ns mainGlobals mg → mg d.name = some (.ref fa) →
      ∃ fd : FuncData, (∀ (s : Shared) (u : Value), BindsTo s fd ⟨[u], []⟩ [(x, u)]) ∧
        ∀ base : Heap, (K w.params).In base → base.Ns mainGlobals mg → FnOk l.prog w (K w.params) mg base (CX w) k fa fd [x] (sp w))
    (hsp : ∀ (w : World) (H : Hp) (a : Addr) (ns : List Int), ns.length ≤ n → Only H → SqL (K w.params) H a (ns.map V.int) → sp w [.ref a] H (fun v _ => v = .bl true) fun _ _ _ => False)
    (hCX : ∀ (w : World) (H : Hp) (s : Shared) (e : Value) (s' : Shared), CX w [] H s (fun _ _ _ => False) e s' → False) :
    PySem.W.WalkO q loose XP YP l.row.toRowW d [] (fun f vs => PySem.call f vs) := by
  refine Att.attach_call hn hdf fun w s₀ s₁ mg mb fa o pm cd doc a vs ns G Y ho hd hcd hmg hobj hints hlen hg => ?_
  have KX := hY w _ Y
  obtain ⟨fd, hb, hF⟩ := F w mg fa _ KX G.T.g hmg
  exact law_call KX G.T.g G.T.b G.T.builtins G.T.nolimit hg hobj hints (Nat.le_trans hlen hn2) hr hF hb (fun H hO hS => hsp w H a ns hlen hO hS) fun H e s' => hCX w H s₁ e s'
/-- the same where the promise hangs on the written part alone: (sp := My.sp_law), no hole under a binder -/
theorem walk_ofK {l : PySem.W.OpenLaw} {n k : Nat} {q : Program} {loose : List Str} {XP : (Str → Option Value) → Heap → Prop} {YP : World → Heap → Prop} {d : DefRec} {K : Params → PySem.W.Frag} {CX : CXT} {sp : PySem.W.Frag → Sp} {x : Str}
    (hn : l.most = some n) (hn2 : n ≤ sizeLine) (hdf : d.params.defaults = []) (hr : Room k callerA)
    (hY : ∀ (w : World) (h : Heap), YP w h → (K w.params).In h)
    (F : ∀ (w : World) (mg : Str → Option Value) (fa : Addr) (h : Heap), (K w.params).In h → h.Ns mainGlobals mg → mg d.name = some (.ref fa) →
      ∃ fd : FuncData, (∀ (s : Shared) (u : Value), BindsTo s fd ⟨[u], []⟩ [(x, u)]) ∧
        ∀ base : Heap, (K w.params).In base → base.Ns mainGlobals mg → FnOk l.prog w (K w.params) mg base CX k fa fd [x] (sp (K w.params)))
    (hsp : ∀ (K : PySem.W.Frag) (H : Hp) (a : Addr) (ns : List Int), ns.length ≤ n → Only H → SqL K H a (ns.map V.int) → sp K [.ref a] H (fun v _ => v = .bl true) fun _ _ _ => False)
    (hCX : ∀ (H : Hp) (s : Shared) (e : Value) (s' : Shared), CX [] H s (fun _ _ _ => False) e s' → False) :
    PySem.W.WalkO q loose XP YP l.row.toRowW d [] (fun f vs => PySem.call f vs) :=
  walk_of (K := K) (CX := fun _ => CX) (sp := fun w => sp (K w.params)) hn hn2 hdf hr hY F (fun w H a ns h1 h2 h3 => hsp (K w.params) H a ns h1 h2 h3) fun _ H s e s' => hCX H s e s'
end L2

/- THE LAST THEOREM (shape; LID, My.* are yours):
   My.Adr: a structure of the addresses that your layer names (classes, functions); My.Txt K t: a structure (Prop) of the equations over K;
   My.txt_mk : {K} {implicit addresses ..} (e1 : nsIn K mainGlobals "law" = some (some (.ref f))) (e2 : K.lookup f = some ⟨oc, od, .func (fnOf "law" "law" params body scope dV kV doc pm an cdv ct), sl⟩) (e3 : codeIn K cdv "law" = true) .. : ∃ t, My.Txt K t

set_option maxRecDepth 100000 in
set_option maxHeartbeats 0 in
theorem PySem.Challenge.cw_LID_holds : PySem.Challenge.rw_LID.Holds := by
  w_on; o_law; k_head; (case hw => w_witness2)
  k_fill
  refine L2.walk_of (l := PySem.Challenge.rw_LID) (n := 63) (k := 40) (x := "script") (CX := fun w => ..) (sp := fun _ => My.sp_law) rfl (by decide) rfl ⟨rfl, by decide, by decide⟩ (fun w h Y => PySem.W.kIn_of Y) ?F ?S ?C
  case F =>
    intro w mg fa h KX G hmg
    have T : ∃ t, My.Txt (L2.KOf KX) t := by
      dsimp only [L2.KOf]                          -- K must stand as «<heap const> w.params» for k_is
      refine' My.txt_mk ?e1 ?e2 ?e3 ..
      (case e1 => PySem.W.k_is)                    -- in the order: a name -> its address -> its object -> its parts
      (case e2 => PySem.W.k_is)
      ..
    obtain ⟨t, T⟩ := T
    have e0 := hmg.symm.trans (PySem.W.mg_of KX G T.law)
    cases e0                                       -- fa is the law's own address
    exact ⟨_, fun s u => .of_eq rfl, fun base kb nb => My.law_fn T kb nb⟩     -- if «.of_eq rfl» comes too early: refine' ⟨_, ?b, fun base kb nb => My.law_fn T kb nb⟩; exact fun s u => .of_eq rfl
  case S => exact fun w H a ns hl hO hS => ..
  case C => exact ..
(the tactic k_is has no namespace: write k_is) -/

/-! SHORT WORDS over the layer: a def of the text, its body, what a loop and a test want. -/
namespace L2
open PySem PySem.Spec PyProof.Rows

/-! ### the text by places -/
/-- the j-th statement of a class's body -/
def inClass (s : Stmt) (j : Nat) : Stmt := match s with
  | .ClassDef _ _ _ body _ _ _ _ _ _ _ => body.getD j (.Pass ⟨0, 0, 0, 0⟩)
  | _ => .Pass ⟨0, 0, 0, 0⟩
def defArgs (s : Stmt) : Arguments := match s with
  | .FunctionDef _ a _ _ _ _ _ _ _ _ => a
  | _ => { posonlyargs := [], args := [], vararg := none, kwonlyargs := [], kw_defaults := [], kwarg := none, defaults := [] }
def defBody (s : Stmt) : List Stmt := match s with
  | .FunctionDef _ _ b _ _ _ _ _ _ _ => b
  | _ => []
def defScope (s : Stmt) : Scope := match s with
  | .FunctionDef _ _ _ _ _ _ sc _ _ _ => sc
  | _ => { kind := .function, names := [], isGenerator := false, isCoroutine := false }

/-! ### no exception leaves a def -/
abbrev CX0 : CXT := fun _ _ _ _ _ _ => False
abbrev E0 : XK := fun _ _ _ => False
theorem pass0 {X : Cx} : Passes CX0 X E0 := fun _ _ _ _ _ _ _ h => h.elim

/-! ### a def (or method) of the text as it stands behind the top -/
structure Fun (K : PySem.W.Frag) (x qual : Str) (st : Stmt) (f : Addr) (fd : FuncData) : Prop where
  ex : ∃ (oc : Value) (od : Option Addr) (kV doc pm : Value) (an : Option Addr) (cdv ct : Value) (osl : Array (Option Value)),
    fd = PySem.W.fnOf x qual (defArgs st) (defBody st) (defScope st) .none kV doc pm an cdv ct ∧ K.lookup f = some ⟨oc, od, .func fd, osl⟩ ∧ PySem.W.codeIn K cdv qual = true
  kp : PySem.W.keepIn K (.ref f) = true
section
variable {P : Program} {w : World} {K : PySem.W.Frag} {mg : Str → Option Value} {base : Heap}
/-- THE RULE for a def: its body as a term of rules, and the reading of that term -/
theorem Fun.ok {x qual : Str} {st : Stmt} {f : Addr} {fd : FuncData} {N ps : List Str} {k : Nat} {sp : Sp} (F : Fun K x qual st f fd) (S : FnScope N ps (defScope st)) (len : ∀ vs H Q E, sp vs H Q E → vs.length = ps.length)
    (hbody : ∀ (cdv : Value) (A : Around) (outer : List Env) (s : Shared) (H : Hp) (vs : List V) (Q : VK) (E : XK), Room k (A.deeper (envOfC qual (defScope st) s.heap.objs.size f cdv)) → sp vs H Q E →
      ∃ t, PSs (cxOf CX0 P w K mg base N qual (defScope st) f cdv A outer s H E).nox (defBody st) t ∧ t { nx := fun _ H' => Q .non H', rt := Q } (start N vs) H) : FnOk P w K mg base CX0 (k + 1) f fd ps sp := by
  obtain ⟨oc, od, kV, doc, pm, an, cdv, ct, osl, rfl, lk, hcd⟩ := F.ex
  refine fn_of lk hcd S len fun A outer s H vs Q E hr hsp => ?_
  obtain ⟨t, h, q⟩ := hbody cdv A outer s H vs Q E hr hsp
  exact ⟨t, h.nox, q⟩
/-- how its arguments bind (no defaults): h is «fun _ _ _ _ _ _ us hl => match us, hl with | [_, _], _ => rfl», one _ a parameter -/
theorem Fun.binds {x qual : Str} {st : Stmt} {f : Addr} {fd : FuncData} {ps : List Str} (F : Fun K x qual st f fd)
    (h : ∀ (kV doc pm : Value) (an : Option Addr) (cdv ct : Value) (us : List Value), us.length = ps.length → bindArgs (PySem.W.fnOf x qual (defArgs st) (defBody st) (defScope st) .none kV doc pm an cdv ct) ⟨us, []⟩ = pure (ps.zip us)) : Binds K fd ps [] := by
  obtain ⟨oc, od, kV, doc, pm, an, cdv, ct, osl, rfl, lk, hcd⟩ := F.ex
  exact .all (h kV doc pm an cdv ct)
theorem fun_mk {x qual : Str} {st : Stmt} {f : Addr} {oc : Value} {od an : Option Addr} {osl : Array (Option Value)} {kV doc pm cdv ct : Value} (l : K.lookup f = some ⟨oc, od, .func (PySem.W.fnOf x qual (defArgs st) (defBody st) (defScope st) .none kV doc pm an cdv ct), osl⟩)
    (c : PySem.W.codeIn K cdv qual = true) (k : PySem.W.keepIn K (.ref f) = true) : Fun K x qual st f (PySem.W.fnOf x qual (defArgs st) (defBody st) (defScope st) .none kV doc pm an cdv ct) := ⟨⟨oc, od, kV, doc, pm, an, cdv, ct, osl, rfl, l, c⟩, k⟩
end
/-! ### expressions in short: the name that stands in the i-th slot -/
section
variable {X : Cx}
theorem pv (i : Nat) {x : Str} {pos : Pos} (hN : X.N[i]? = some x := by rfl) (hv : Vis X.env.scope x := by first | exact Or.inl rfl | exact Or.inr (Or.inl rfl) | exact Or.inr (Or.inr rfl)) (hd : (x == ("__debug__" : Str)) = false := by decide)
    (hcd : (x == ("__classdict__" : Str)) = false := by decide) : PE X (.Name x pos) (tVar i) := pe_var hN hv hd hcd
end

/-! ### tests -/
theorem iteF {A B : Prop} (h : B) : if false = true then A else B := by
  rw [if_neg Bool.false_ne_true]
  exact h
theorem iteT {A B : Prop} (h : A) : if true = true then A else B := by
  rw [if_pos rfl]
  exact h
theorem ite2 {c A B : Prop} [Decidable c] (h1 : c → A) (h2 : ¬ c → B) : if c then A else B := by
  by_cases h : c
  · rw [if_pos h]
    exact h1 h
  · rw [if_neg h]
    exact h2 h
/-! ### heaps -/
/-- all that was tracked is as it was -/
def Same (H H' : Hp) : Prop := ∀ b o, H b = some o → H' b = some o
theorem Same.refl (H : Hp) : Same H H := fun _ _ h => h
theorem Same.trans {H H1 H2 : Hp} (a : Same H H1) (b : Same H1 H2) : Same H H2 := fun c o h => b c o (a c o h)
theorem Same.free {H H' : Hp} (e : Same H H') {l : Addr} (h : H' l = Option.none) : H l = Option.none := by
  cases q : H l with
  | none => rfl
  | some o =>
    rw [e l o q] at h
    cases h
theorem Same.seq {K : PySem.W.Frag} {H H' : Hp} {a : Addr} {xs : List V} (e : Same H H') (h : SqL K H a xs) : SqL K H' a xs := by
  rcases h with (h | ⟨o, h⟩) | h
  · exact .inl (.inl (e _ _ h))
  · exact .inl (.inr ⟨o, e _ _ h⟩)
  · exact .inr h

end L2


/-! ## comprehensions, over the layer -/
namespace L2
open PySem PySem.Spec PyProof.Rows

/-- the tests of a comprehension -/
def PTs (X : Cx) (ifs : List Expr) (t : TT) : Prop :=
  ∀ (pins : List (Addr × Obj)) (s : Shared) (σ : St) (H : Hp) (Q : Bool → Hp → Prop), Inv X pins σ H s → t σ H Q →
    wpAny (model X.prog X.w) X.A (forIn ifs true fun c r => if r = true then do let ok ← isTrue c X.env (eval c X.env); pure (ForInStep.yield ok) else pure (ForInStep.yield r)) (TP X pins σ Q) X.xe s
def tYes : TT := fun _ H Q => Q true H
theorem pts_nil {X : Cx} : PTs X [] tYes := fun _ _ _ H _ I h => wpAny_tests_nil ⟨H, I, h⟩
theorem pts_one {X : Cx} {c : Expr} {t : TT} (hc : PT X c t) : PTs X [c] t := fun pins s σ H Q I h => wpAny_tests_one (hc pins s σ H Q I h)

/-- a comprehension's turn, whatever the iterator keeps -/
theorem compLoop_any {prog : Program} {w : World} {A : Around} {s : Shared} {R : Result → Shared → Prop} {elt target iter : Expr} {ifs : List Expr} {scope : Scope} {pos : Pos} {it acc : Value} {env : Env} (J : Nat → Shared → Prop)
    (turn : ∀ n s, J n s → wpAny (model prog w) A (pyNext it) (fun r s1 => match r with
      | none => R (.ok .next) s1
      | some v => wpAny (model prog w) A (letOwnedTupleGo target it v) (fun _ s2 => wpAny (model prog w) A (assign target env v) (fun _ s3 =>
          wpAny (model prog w) A (forIn ifs true fun c r => if r = true then do let ok ← isTrue c env (eval c env); pure (ForInStep.yield ok) else pure (ForInStep.yield r)) (fun ok s4 =>
            if ok = true then wpAny (model prog w) A (eval elt env) (fun x s5 =>
              wpAny (model prog w) A (call (.builtin "list.append") [acc, x]) (fun _ s6 => ∃ m, m < n ∧ J m s6) (fun _ _ => False) s5) (fun _ _ => False) s4
            else ∃ m, m < n ∧ J m s4) (fun _ _ => False) s3) (fun _ _ => False) s2) (fun _ _ => False) s1) (fun _ _ => False) s)
    (n : Nat) (h : J n s) : codeAny (model prog w) A (.compLoop (.ListComp elt [⟨target, iter, ifs, 0⟩] scope pos) 0 it acc env) R s := by
  refine codeAny_loop rfl J (fun n s hI => ?_) n h
  show wpAny _ A ((compTurn (.ListComp elt [⟨target, iter, ifs, 0⟩] scope pos) 0 it acc env).onRaise (fun x => do noteFrame x env; theTreesLotGoes x)) _ _ s
  refine wpAny_noted ?_
  rw [compTurn_list]
  refine wpAny_bind (wpAny_standAt (wpAny_bind (wpAny_mono (turn n s hI) (fun r s1 h1 => ?_) fun _ _ z => z.elim)))
  cases r with
  | none => exact wpAny_pure h1
  | some v =>
    refine wpAny_bind (wpAny_mono h1 (fun _ s2 h2 => ?_) fun _ _ z => z.elim)
    refine wpAny_bind (wpAny_mono h2 (fun _ s3 h3 => wpAny_bind (wpAny_mono h3 (fun ok s4 h4 => ?_) fun _ _ z => z.elim)) fun _ _ z => z.elim)
    cases ok with
    | false => exact wpAny_pure ⟨rfl, h4⟩
    | true =>
      exact wpAny_bind (wpAny_bind (wpAny_mono h4 (fun x s5 h5 => wpAny_bind (wpAny_mono h5 (fun _ s6 h6 => wpAny_pure (wpAny_pure ⟨rfl, h6⟩)) fun _ _ z => z.elim)) fun _ _ z => z.elim))

/-! ### the cells that a block sees -/
def closL (cells : List (Str × Addr)) : List (Str × NameKind) → List (Str × Addr) → List (Str × Addr)
  | [], acc => acc
  | (n, k) :: r, acc => if k == .free then closL cells r ((n, (cells.lookup n).getD 0) :: acc) else closL cells r acc
theorem closure_go {env : Env} : ∀ (names : List (Str × NameKind)) (acc : List (Str × Addr)), (∀ y ∈ names, y.2 = .free → ∃ c, env.cells.lookup y.1 = some c) →
    (forIn names acc fun (x : Str × NameKind) (cs : List (Str × Addr)) => (if (x.2 == .free) = true then do let a ← cellOf env x.1; pure (ForInStep.yield ((x.1, a) :: cs)) else pure (ForInStep.yield cs) : Sem (ForInStep (List (Str × Addr))))) = pure (closL env.cells names acc)
  | [], acc, _ => rfl
  | (n, k) :: r, acc, h => by
    have ih := fun acc => closure_go r acc fun y hy => h y (List.mem_cons_of_mem _ hy)
    rw [List.forIn_cons]
    unfold closL
    by_cases hk : (k == NameKind.free) = true
    · obtain ⟨c, hc⟩ := h (n, k) List.mem_cons_self (by simpa using hk)
      have e : cellOf env n = pure c := by
        unfold cellOf
        rw [show env.cells.lookup n = some c from hc]
      simp only [hk, if_true, e, pure_bind]
      rw [ih, show env.cells.lookup n = some c from hc]
      rfl
    · simp only [hk, Bool.false_eq_true, if_false, pure_bind]
      exact ih acc
theorem closure_of {env : Env} {scope : Scope} (h : ∀ y ∈ scope.names, y.2 = .free → ∃ c, env.cells.lookup y.1 = some c) : closureFor scope env = pure (closL env.cells scope.names []) := by
  have e := closure_go scope.names [] h
  unfold closureFor
  simp only [bind_pure] at e ⊢
  exact e
theorem closL_sub {env : Env} : ∀ (names : List (Str × NameKind)) (acc : List (Str × Addr)), (∀ y ∈ names, y.2 = .free → ∃ c, env.cells.lookup y.1 = some c) → (∀ x c, acc.lookup x = some c → env.cells.lookup x = some c) →
    ∀ x c, (closL env.cells names acc).lookup x = some c → env.cells.lookup x = some c
  | [], acc, _, ha, x, c, e => ha x c e
  | (n, k) :: r, acc, h, ha, x, c, e => by
    unfold closL at e
    by_cases hk : (k == NameKind.free) = true
    · rw [if_pos hk] at e
      obtain ⟨d, hd⟩ := h (n, k) List.mem_cons_self (by simpa using hk)
      refine closL_sub r _ (fun y hy => h y (List.mem_cons_of_mem _ hy)) (fun y b q => ?_) x c e
      rw [List.lookup_cons] at q
      by_cases hy : (y == n) = true
      · rw [hy] at q
        have hy' : y = n := by simpa using hy
        have hd' : env.cells.lookup n = some d := hd
        rw [hd'] at q
        have q' : d = b := Option.some.inj q
        rw [hy', hd', q']
      · have hy' : (y == n) = false := by simpa using hy
        rw [hy'] at q
        exact ha y b q
    · rw [if_neg hk] at e
      exact closL_sub r acc (fun y hy => h y (List.mem_cons_of_mem _ hy)) ha x c e
theorem closL_acc {cells : List (Str × Addr)} : ∀ (names : List (Str × NameKind)) (acc : List (Str × Addr)) (x : Str), (acc.lookup x).isSome = true → ((closL cells names acc).lookup x).isSome = true
  | [], _, _, h => h
  | (n, k) :: r, acc, x, h => by
    unfold closL
    by_cases hk : (k == NameKind.free) = true
    · rw [if_pos hk]
      refine closL_acc r _ x ?_
      rw [List.lookup_cons]
      by_cases hx : (x == n) = true
      · rw [hx]; rfl
      · have hx' : (x == n) = false := by simpa using hx
        rw [hx']; exact h
    · rw [if_neg hk]
      exact closL_acc r acc x h
theorem closL_has {cells : List (Str × Addr)} : ∀ (names : List (Str × NameKind)) (acc : List (Str × Addr)) (x : Str), (x, NameKind.free) ∈ names → ((closL cells names acc).lookup x).isSome = true
  | [], _, _, h => nomatch h
  | (n, k) :: r, acc, x, h => by
    unfold closL
    rcases List.mem_cons.mp h with e | h
    · cases e
      rw [if_pos (by rfl)]
      refine closL_acc r _ _ ?_
      rw [List.lookup_cons]
      simp
    · by_cases hk : (k == NameKind.free) = true
      · rw [if_pos hk]; exact closL_has r _ x h
      · rw [if_neg hk]; exact closL_has r _ x h
theorem lookup_relabel {env : Env} : ∀ {names : List (Str × NameKind)} {x : Str} {k : NameKind}, (names.map fun (n, k) => if (k == NameKind.free && env.scope.kind == .function && env.kindOf n == some .cell) then (n, NameKind.cell) else (n, k)).lookup x = some k →
    (k = .cell ∨ k = .free) → (x, NameKind.free) ∈ names ∨ (x, NameKind.cell) ∈ names
  | [], _, _, h, _ => by simp at h
  | (n, q) :: r, x, k, h, hk => by
    have h' : List.lookup x ((if (q == NameKind.free && env.scope.kind == .function && env.kindOf n == some .cell) = true then (n, NameKind.cell) else (n, q)) :: r.map fun (n, k) => if (k == NameKind.free && env.scope.kind == .function && env.kindOf n == some .cell) then (n, NameKind.cell) else (n, k)) = some k := h
    by_cases hc : (q == NameKind.free && env.scope.kind == .function && env.kindOf n == some .cell) = true
    · rw [if_pos hc, List.lookup_cons] at h'
      have hq : q = .free := by
        simp only [Bool.and_eq_true, beq_iff_eq] at hc
        exact hc.1.1
      by_cases hx : (x == n) = true
      · have hx' : x = n := by simpa using hx
        subst hx'; subst hq
        exact .inl List.mem_cons_self
      · have hx' : (x == n) = false := by simpa using hx
        rw [hx'] at h'
        rcases lookup_relabel (env := env) h' hk with z | z
        · exact .inl (List.mem_cons_of_mem _ z)
        · exact .inr (List.mem_cons_of_mem _ z)
    · rw [if_neg hc, List.lookup_cons] at h'
      by_cases hx : (x == n) = true
      · rw [hx] at h'
        have hx' : x = n := by simpa using hx
        subst hx'
        have e : q = k := Option.some.inj h'
        subst e
        rcases hk with rfl | rfl
        · exact .inr List.mem_cons_self
        · exact .inl List.mem_cons_self
      · have hx' : (x == n) = false := by simpa using hx
        rw [hx'] at h'
        rcases lookup_relabel (env := env) h' hk with z | z
        · exact .inl (List.mem_cons_of_mem _ z)
        · exact .inr (List.mem_cons_of_mem _ z)
theorem relabel_free {env : Env} : ∀ {names : List (Str × NameKind)} {x : Str}, names.lookup x = some .free →
    (names.map fun (n, k) => if (k == NameKind.free && env.scope.kind == .function && env.kindOf n == some .cell) then (n, NameKind.cell) else (n, k)).lookup x = some .cell ∨
    (names.map fun (n, k) => if (k == NameKind.free && env.scope.kind == .function && env.kindOf n == some .cell) then (n, NameKind.cell) else (n, k)).lookup x = some .free
  | [], _, h => by simp at h
  | (n, q) :: r, x, h => by
    show List.lookup x ((if (q == NameKind.free && env.scope.kind == .function && env.kindOf n == some .cell) = true then (n, NameKind.cell) else (n, q)) :: _) = _ ∨ List.lookup x ((if (q == NameKind.free && env.scope.kind == .function && env.kindOf n == some .cell) = true then (n, NameKind.cell) else (n, q)) :: _) = _
    rw [List.lookup_cons] at h
    by_cases hc : (q == NameKind.free && env.scope.kind == .function && env.kindOf n == some .cell) = true
    · rw [if_pos hc, List.lookup_cons]
      by_cases hx : (x == n) = true
      · rw [hx]; exact .inl rfl
      · have hx' : (x == n) = false := by simpa using hx
        rw [hx'] at h ⊢
        exact relabel_free h
    · rw [if_neg hc, List.lookup_cons]
      by_cases hx : (x == n) = true
      · rw [hx] at h ⊢; exact .inr h
      · have hx' : (x == n) = false := by simpa using hx
        rw [hx'] at h ⊢
        exact relabel_free h

/-! ### the block -/
/-- the context of a comprehension's block -/
def cxC (X : Cx) (N' : List Str) (scope : Scope) (C : Addr) (s : Shared) (H : Hp) (fp : List Addr) : Cx where
  prog := X.prog
  w := X.w
  K := X.K
  mg := X.mg
  base := X.base
  A := X.A
  N := N'
  s₀ := s
  H₀ := H
  env := compEnvC scope (closL X.env.cells scope.names []) C X.env
  outer := X.stack
  stack := X.stack
  ex := fp
  fn := fun _ => false
  calm := X.calm
  pn := []
  xe := fun _ _ => False
/-- the block's values at a turn's start: its own names unknown, the seen ones as they are -/
def σC (o : Nat) (fr : List Nat) (σ : St) : St := List.replicate o none ++ fr.map fun j => (σ[j]?).join
/-- what the text must be like: sc0, N: the scope and the names around; names N' of the block, its o own ones first, behind them those it sees, at the places fr of N -/
structure CompScope (sc0 : Scope) (N N' : List Str) (o : Nat) (fr : List Nat) (scope : Scope) : Prop where
  kind : scope.kind = .function
  nocell : (scope.names.all fun y => y.2 != .cell) = true
  loc : (scope.names.all fun y => y.2 != .local || scope.names.lookup y.1 == some .local) = true
  free : (scope.names.all fun y => y.2 != .free || sc0.names.lookup y.1 == some .cell || sc0.names.lookup y.1 == some .free) = true
  len : N'.length = o + fr.length
  sees : ((List.range fr.length).all fun j => match fr[j]? with
    | none => false
    | some y => match N[y]? with
      | none => false
      | some x => N'[o + j]? == some x && scope.names.lookup x == some .free) = true
/-- the reading. W: turn, measure, the items so far, heap -/
def LcR (J : It) (g : TG) (tt : TT) (te : TE) (o : Nat) (fr : List Nat) (σ : St) (H1 : Hp) (Q : VK) : Prop := ∃ W : Nat → Nat → List V → Hp → Prop, (∃ m, W 0 m [] H1) ∧ ∀ i m ys H, W i m ys H →
  (J.stop i H ∧ ys.length ≤ sizeLine ∧ ∀ p, H p = none → Q (.ref p) (upd H p (.lst ys))) ∨
  (J.go i H ∧ ys.length < sizeLine ∧ ∀ x H', J.yld i H x H' → g x (σC o fr σ) H' fun σ2 H2 => tt σ2 H2 fun b H3 => if b = true then te σ2 H3 fun y H4 => ∃ m', m' < m ∧ W (i + 1) m' (ys ++ [y]) H4 else ∃ m', m' < m ∧ W (i + 1) m' ys H3)
def tLc (wi : TI) (g : TG) (tt : TT) (te : TE) (o : Nat) (fr : List Nat) : TE := fun σ H Q => wi σ H fun J H1 => LcR J g tt te o fr σ H1 Q
/-- a target that stores into the own names alone -/
def OwnG (o : Nat) (g : TG) : Prop := ∀ (x : V) (ow fr : St) (H : Hp) (Q : St → Hp → Prop), ow.length = o → g x (ow ++ fr) H Q → g x (ow ++ fr) H fun σ2 H2 => (∃ ow', ow'.length = o ∧ σ2 = ow' ++ fr) ∧ Q σ2 H2
theorem own_name {o i : Nat} (h : i < o) : OwnG o (gName i) := fun x ow fr H Q hl q => ⟨⟨ow.set i (some x), by rw [List.length_set]; exact hl, by rw [List.set_append_left _ _ (by omega)]⟩, q⟩
def OwnGs (o : Nat) (g : TGs) : Prop := ∀ (xs : List V) (ow fr : St) (H : Hp) (Q : St → Hp → Prop), ow.length = o → g xs (ow ++ fr) H Q → g xs (ow ++ fr) H fun σ2 H2 => (∃ ow', ow'.length = o ∧ σ2 = ow' ++ fr) ∧ Q σ2 H2
theorem own_nil {o : Nat} : OwnGs o gNil := fun _ ow _ _ _ hl ⟨e, q⟩ => ⟨e, ⟨ow, hl, rfl⟩, q⟩
theorem own_cons {o i : Nat} {u : TGs} (h : i < o) (h2 : OwnGs o u) : OwnGs o (gCons (gName i) u) := by
  rintro xs ow fr H Q hl ⟨v, r, rfl, q⟩
  refine ⟨v, r, rfl, ?_⟩
  have q' : u r ((ow ++ fr).set i (some v)) H Q := q
  show u r ((ow ++ fr).set i (some v)) H _
  rw [List.set_append_left _ _ (by omega)] at q' ⊢
  exact h2 r (ow.set i (some v)) fr H Q (by rw [List.length_set]; exact hl) q'
theorem own_tup {K : PySem.W.Frag} {o n : Nat} {u : TGs} (h : OwnGs o u) : OwnG o (gTup K n u) := by
  rintro x ow fr H Q hl ⟨a, xs, rfl, hs, hn, q⟩
  exact ⟨a, xs, rfl, hs, hn, h xs ow fr H Q hl q⟩

section
variable {X : Cx} {pins : List (Addr × Obj)} {σ : St} {H : Hp} {s : Shared} {N' : List Str} {o : Nat} {fr : List Nat} {scope : Scope} {fp : List Addr}
abbrev accObj (us : List Value) : Obj := { cls := .type "list", data := .seq us.toArray us.length }
theorem CompScope.nocell' {sc0 : Scope} {N : List Str} (S : CompScope sc0 N N' o fr scope) : ∀ y ∈ scope.names, y.2 ≠ .cell := fun y hy e => by
  have q := List.all_eq_true.mp S.nocell y hy
  rw [e] at q
  exact absurd q (by decide)
theorem CompScope.loc' {sc0 : Scope} {N : List Str} (S : CompScope sc0 N N' o fr scope) : ∀ y ∈ scope.names, y.2 = .local → scope.names.lookup y.1 = some .local := fun y hy e => by
  have q := List.all_eq_true.mp S.loc y hy
  rw [e] at q
  simpa using q
theorem CompScope.free' {sc0 : Scope} {N : List Str} (S : CompScope sc0 N N' o fr scope) (hs : X.env.scope = sc0) : ∀ y ∈ scope.names, y.2 = .free → X.env.kindOf y.1 = some .cell ∨ X.env.kindOf y.1 = some .free := fun y hy e => by
  have q := List.all_eq_true.mp S.free y hy
  rw [e] at q
  show X.env.scope.names.lookup y.1 = _ ∨ X.env.scope.names.lookup y.1 = _
  rw [hs]
  simpa using q
theorem CompScope.sees' {sc0 : Scope} {N : List Str} (S : CompScope sc0 N N' o fr scope) : ∀ j y, fr[j]? = some y → ∃ x, N[y]? = some x ∧ N'[o + j]? = some x ∧ scope.names.lookup x = some .free := fun j y e => by
  have hj : j < fr.length := (List.getElem?_eq_some_iff.mp e).1
  have q := List.all_eq_true.mp S.sees j (List.mem_range.mpr hj)
  rw [e] at q
  dsimp only at q
  cases ex : N[y]? with
  | none => rw [ex] at q; cases q
  | some x =>
    rw [ex] at q
    dsimp only at q
    rw [Bool.and_eq_true, beq_iff_eq, beq_iff_eq] at q
    exact ⟨x, rfl, q.1, q.2⟩
theorem CompScope.cells {sc0 : Scope} {N0 : List Str} (S : CompScope sc0 N0 N' o fr scope) (hs : X.env.scope = sc0) (I : Inv X pins σ H s) : ∀ y ∈ scope.names, y.2 = .free → ∃ c, X.env.cells.lookup y.1 = some c := fun y hy e => I.ok.has y.1 (S.free' hs y hy e)
theorem CompScope.sub {sc0 : Scope} {N0 : List Str} (S : CompScope sc0 N0 N' o fr scope) (hs : X.env.scope = sc0) (I : Inv X pins σ H s) : ∀ x c, (closL X.env.cells scope.names []).lookup x = some c → X.env.cells.lookup x = some c :=
  closL_sub (env := X.env) scope.names [] (S.cells hs I) (fun _ _ z => nomatch z)
/-- the block's entry: the list at D, the block's names at C -/
theorem Inv.block {sc0 : Scope} {N0 : List Str} (S : CompScope sc0 N0 N' o fr scope) (hs : X.env.scope = sc0) (hN : X.N = N0) (I : Inv X pins σ H s) (hf : ∀ b ∈ fp, FpOk X pins H b) (hfl : ∀ b ∈ fp, b < s.heap.objs.size) {h1 : Heap} {C D : Addr} {m : Str → Option Value} {us : List Value} {t : Nat}
    (hC : s.heap.objs.size ≤ C) (hD : s.heap.objs.size ≤ D) (hDC : D ≠ C)
    (old : ∀ b ob, s.heap.get? b = some ob → h1.get? b = some ob) (hn : h1.Ns C m) (ha : h1.get? D = some (accObj us)) : Inv (cxC X N' scope C s H fp) [(D, accObj us)] (σC o fr σ) H { s with heap := h1, toks := t } := by
  have sub := S.sub hs I
  have frC : ∀ b ∈ frs X.stack, b < s.heap.objs.size := fun b hb => by
    obtain ⟨_, ob, ho, _⟩ := I.stack.mem hb
    exact Heap.lt_size ho
  refine ⟨⟨I.ok.mod, S.kind, I.ok.glob, I.ok.blt, hC, fun x y c h1 h2 => I.ok.inj x y c (sub x c h1) (sub y c h2), fun x hx => ?_, fun x c hfx _ => (nomatch hfx), I.ok.hd, I.ok.frames, .inl rfl, fun b hb => ?_, I.bs, Nat.le_trans I.ok.bsz I.sz, fun b ob e hb => ?_, fun b hb hb' => ?_, I.stack, I.stkFree⟩,
    rfl, I.bare, Un.kept old, ⟨m, hn, fun i x v e1 e2 e3 => ?_⟩, fun x c e => ?_, I.hok.fresh hC, fun x c e => I.freeC x c (sub x c e), fun p hp => ?_, I.hok.kept old, ?_⟩
  · have hx' : (relabel scope X.env).names.lookup x = some .cell ∨ (relabel scope X.env).names.lookup x = some .free := hx
    have key : (x, NameKind.free) ∈ scope.names := by
      rcases hx' with z | z
      · rcases lookup_relabel (env := X.env) z (.inl rfl) with q | q
        · exact q
        · exact absurd rfl (S.nocell' _ q)
      · rcases lookup_relabel (env := X.env) z (.inr rfl) with q | q
        · exact q
        · exact absurd rfl (S.nocell' _ q)
    exact Option.isSome_iff_exists.mp (closL_has (cells := X.env.cells) scope.names [] x key)
  · obtain ⟨f0, f1, f2, f3, f4, f5⟩ := hf b hb
    exact ⟨Nat.ne_of_lt (Nat.lt_of_lt_of_le (hfl b hb) hC), fun x c e => f4 x c (sub x c e)⟩
  · obtain ⟨f0, f1, f2, f3, f4, f5⟩ := hf b hb
    rcases f3 with z | z
    · exact I.ok.noex b ob e z
    · exact absurd (Nat.lt_of_lt_of_le (Heap.lt_size e) (Nat.le_trans I.ok.bsz z)) (Nat.lt_irrefl _)
  · obtain ⟨f0, f1, f2, f3, f4, f5⟩ := hf b hb
    rcases List.mem_cons.mp (I.stkSub b hb') with z | z
    · exact f1 z
    · exact f2 z
  · unfold σC at e2
    by_cases hi : i < o
    · rw [List.getElem?_append_left (by rw [List.length_replicate]; exact hi), List.getElem?_replicate, if_pos hi] at e2
      cases e2
    · rw [List.getElem?_append_right (by rw [List.length_replicate]; exact Nat.not_lt.mp hi), List.length_replicate, List.getElem?_map] at e2
      cases hy : fr[i - o]? with
      | none => rw [hy] at e2; cases e2
      | some y =>
        rw [hy] at e2
        have e2' : (σ[y]?).join = some v := Option.some.inj e2
        have e3' : σ[y]? = some (some v) := by
          cases q : σ[y]? with
          | none => rw [q] at e2'; cases e2'
          | some z => rw [q] at e2'; exact congrArg some e2'
        obtain ⟨x', s2, s1, s3⟩ := S.sees' (i - o) y hy
        rw [← hN] at s2
        rw [show o + (i - o) = i by omega] at s1
        have ex : x = x' := by
          have e1' : N'[i]? = some x := e1
          rw [e1'] at s1
          exact Option.some.inj s1
        subst ex
        have hmem := PySem.mem_of_lookup s3
        obtain ⟨m0, _, hl⟩ := I.loc
        have hk := S.free' hs (x, .free) hmem rfl
        obtain ⟨u, ru, lk⟩ := hl y x v s2 e3' (by rcases hk with z | z; exact .inr (.inl z); exact .inr (.inr z))
        refine ⟨u, ru, .inr ⟨relabel_free (env := X.env) s3, ?_⟩⟩
        obtain ⟨c', hc'⟩ := Option.isSome_iff_exists.mp (closL_has (cells := X.env.cells) scope.names [] x hmem)
        refine ⟨c', hc', ?_⟩
        rcases lk with ⟨z, _⟩ | ⟨_, c, e, ob, ho, hd⟩
        · rcases hk with z' | z'
          · rw [z] at z'; cases z'
          · rw [z] at z'; cases z'
        · have ec : c = c' := by
            have := sub x c' hc'
            rw [e] at this
            exact Option.some.inj this
          subst ec
          exact ⟨ob, old _ _ ho, hd⟩
  · obtain ⟨v, ob, ho, hd⟩ := I.cell x c (sub x c e)
    exact ⟨v, ob, old _ _ ho, hd⟩
  · have e : p = (D, accObj us) := by simpa using (show p ∈ ([] : List (Addr × Obj)) ++ [(D, accObj us)] from hp)
    subst e
    refine ⟨ha, I.hok.fresh hD, hDC, fun z => absurd (Nat.lt_of_lt_of_le (frC D z) hD) (Nat.lt_irrefl _), fun v z => nomatch z⟩
  · show (σC o fr σ).length = N'.length
    unfold σC
    rw [List.length_append, List.length_replicate, List.length_map, S.len]
/-- the block's end, seen from the def: the new list is tracked, the block's names are pinned -/
theorem Inv.unblock (I : Inv X pins σ H s) (hf : ∀ b ∈ fp, FpOk X pins H b) {C D : Addr} {us : List Value} {ys : List V} {σ' : St} {H' : Hp} {s' : Shared} (hC : s.heap.objs.size ≤ C) (hD : s.heap.objs.size ≤ D) (hDC : D ≠ C)
    (I' : Inv (cxC X N' scope C s H fp) [(D, accObj us)] σ' H' s') (r : Vals ys us) (hz : ys.length ≤ sizeLine) : ∃ oC m, s'.heap.get? C = some oC ∧ s'.heap.Ns C m ∧ Inv X (pins ++ [(C, oC)]) σ (upd H' D (.lst ys)) s' := by
  obtain ⟨aD, nD, _, _, _⟩ := I'.pin (D, accObj us) (by simp)
  have aD : s'.heap.get? D = some (accObj us) := aD
  have nD : H' D = none := nD
  have un : Un (frs X.stack) fp H H' s.heap s'.heap := I'.base
  have lt : ∀ b u, H b = some u → b ≠ D := fun b u e => Nat.ne_of_lt (Nat.lt_of_lt_of_le (I.hok.lt e) hD)
  have un2 : Un (frs X.stack) fp H (upd H' D (.lst ys)) s.heap s'.heap := by
    refine ⟨un.keep, un.slot, fun b ob e n hx => ?_, un.there, fun b xs e => ?_, fun b ob u e => ?_, fun b ps e => ?_⟩
    · rw [upd_ne (Nat.ne_of_lt (Nat.lt_of_lt_of_le (Heap.lt_size e) hD))]
      exact un.free b ob e n hx
    · rw [upd_ne (lt b _ e)]; exact un.tups b xs e
    · rw [upd_ne (lt b _ e)]; exact un.frzs b ob u e
    · obtain ⟨more, q⟩ := un.tbls b ps e
      exact ⟨more, by rw [upd_ne (lt b _ e)]; exact q⟩
  have hok : HOk X.prog X.w (upd H' D (.lst ys)) s'.heap := fun b u e => by
    by_cases hb : b = D
    · subst hb
      rw [upd_same] at e
      cases e
      exact ⟨hz, us, us.length, r, aD⟩
    · rw [upd_ne hb] at e
      exact (I'.hok b u e).stay (fun c v _ q => q) (fun c q => by rw [upd_ne (ne_of_none q nD)]; exact q) fun c xs q => by rw [upd_ne (ne_of_none q nD)]; exact q
  have os : s'.os = s.os := I'.os
  have J : Inv X pins σ (upd H' D (.lst ys)) s' := I.call' (ch := fp) os un2 hok I'.bare fun b hb => by
    obtain ⟨f0, f1, f2, f3, f4, f5⟩ := hf b hb
    exact ⟨f3, f1, f4, f5⟩
  obtain ⟨m, hn, _⟩ := I'.loc
  have hn : s'.heap.Ns C m := hn
  obtain ⟨oC, es, ep, hoC, hdC, _⟩ := id hn
  refine ⟨oC, m, hoC, hn, J.pins_of fun p hp => ?_⟩
  rcases List.mem_append.mp hp with z | z
  · exact J.pin p (List.mem_append_right _ z)
  · have e : p = (C, oC) := by simpa using z
    subst e
    have nC : H' C = none := I'.free
    refine ⟨hoC, by rw [upd_ne (Ne.symm hDC)]; exact nC, Nat.ne_of_gt (Nat.lt_of_lt_of_le I.lt hC), I.nofs hC, fun v z => ?_⟩
    have z' : oC.data = .cell v := z
    rw [hdC] at z'
    cases z'
end

section
variable {X : Cx} {N' : List Str} {o : Nat} {fr : List Nat} {scope : Scope} {elt tg iter : Expr} {ifs : List Expr} {pos : Pos} {wi : TI} {g : TG} {tt : TT} {te : TE}
/-- a comprehension runs; use: what is done with the list while the block's names still stand -/
theorem lc_run (hc : X.calm = true) {sc0 : Scope} {N0 : List Str} (S : CompScope sc0 N0 N' o fr scope) (hi : PI X tg iter wi) (ho : OwnG o g)
    (hg : ∀ (C : Addr) (s : Shared) (H : Hp) (fp : List Addr), PG (cxC X N' scope C s H fp) tg g)
    (ht : ∀ (C : Addr) (s : Shared) (H : Hp) (fp : List Addr), PTs (cxC X N' scope C s H fp) ifs tt)
    (he : ∀ (C : Addr) (s : Shared) (H : Hp) (fp : List Addr), PE (cxC X N' scope C s H fp) elt te)
    (hs : ∀ x, foldedSetIterable iter X.env x = pure x) (hsc : X.env.scope = sc0) (hN0 : X.N = N0) {pins : List (Addr × Obj)} {s : Shared} {σ : St} {H : Hp} {Qv : VK} (I : Inv X pins σ H s) (h : tLc wi g tt te o fr σ H Qv)
    {use : Option (Value → Sem Unit)} {Q : Value → Shared → Prop} {E : Value → Shared → Prop}
    (hE : ∀ e s', X.xe e s' → E e s')
    (fin : ∀ (C oC D : _) (m : Str → Option Value) (H' : Hp) (ys : List V) (s' : Shared), Inv X (pins ++ [(C, oC)]) σ (upd H' D (.lst ys)) s' → Qv (.ref D) (upd H' D (.lst ys)) → s'.heap.Ns C m → H' C = none → C ≠ D →
      C ≠ X.env.locals → X.s₀.heap.objs.size ≤ C → (∀ x c, X.env.cells.lookup x = some c → c ≠ C) → (∀ p ∈ X.pn ++ pins, p.1 ≠ C) → compPost (model X.prog X.w) X.A E use Q (.ref D) C (.ok .next) s') :
    wpAny (model X.prog X.w) X.A (comprehension (.ListComp elt [⟨tg, iter, ifs, 0⟩] scope pos) scope X.env (firstIterPos [⟨tg, iter, ifs, 0⟩] pos) (newList []) false (eval iter X.env) use) Q E s := by
  refine wpAny_comprehension_free (use := use) rfl hs (closure_of (S.cells hsc I)) S.kind S.loc' (wpAny_mono (hi pins s σ H _ I h) (fun xv s1 h1 => wpAny_mono h1 (fun itv s2 h2 => ?_) hE) hE)
  obtain ⟨it, fp, tn, J, H2, rfl, I2, T, st2, f2, W, ⟨m0, w0⟩, turn⟩ := h2
  have hfl : ∀ b ∈ fp, b < s2.heap.objs.size := fun b hb => by
    obtain ⟨ob, e, _⟩ := T.obj 0 _ st2 b hb
    exact Heap.lt_size e
  refine wpAny_newObj_type (wpAny_newFunctionEnv S.nocell' (by intro y hy; simp at hy) (fun h1 hns1 hsb1 => ?_) S.kind)
  dsimp only at hns1 hsb1 ⊢
  generalize hH2 : s2.heap.push { cls := .type "list", dict := none, data := .seq ([] : List Value).toArray } = G at hns1 hsb1 ⊢
  have hCe : G.objs.size = s2.heap.objs.size + 1 := by rw [← hH2, Heap.size_push]
  have hC : s2.heap.objs.size ≤ G.objs.size := by rw [hCe]; exact Nat.le_succ _
  have hDC : s2.heap.objs.size ≠ G.objs.size := by rw [hCe]; exact Nat.ne_of_lt (Nat.lt_succ_self _)
  have old : ∀ b ob, s2.heap.get? b = some ob → h1.get? b = some ob := fun b ob e =>
    hsb1.extBut b ob (Nat.ne_of_lt (Nat.lt_of_lt_of_le (Heap.lt_size e) hC)) (Heap.get?_push_of_some _ (hH2 ▸ Heap.get?_push_of_some _ e))
  have hacc : h1.get? s2.heap.objs.size = some (accObj []) := hsb1.extBut _ _ hDC (Heap.get?_push_of_some _ (hH2 ▸ Heap.get?_push_size _ rfl))
  have st1 : tn 0 h1 := T.keep _ _ _ st2 fun b _ ob e => old b ob e
  have fpC : ∀ {us : List Value} {H' : Hp}, (∀ b ∈ fp, H' b = none) → ∀ b ∈ fp, FpOk (cxC X N' scope G.objs.size s2 H2 fp) [(s2.heap.objs.size, accObj us)] H' b := fun {us H'} hn b hb => by
    obtain ⟨f0, f1, f3, f4, f5, f6⟩ := f2 b hb
    refine ⟨hn b hb, Nat.ne_of_lt (Nat.lt_of_lt_of_le (hfl b hb) hC), fun z => ?_, .inl hb, fun x c e => f5 x c (S.sub hsc I2 x c e), fun p hp => ?_⟩
    · rcases List.mem_cons.mp (I2.stkSub b z) with q | q
      · exact f1 q
      · exact f3 q
    · have e : p = (s2.heap.objs.size, accObj us) := by simpa using (show p ∈ ([] : List (Addr × Obj)) ++ [(s2.heap.objs.size, accObj us)] from hp)
      subst e
      exact Nat.ne_of_gt (hfl b hb)
  have loop : ∀ s3 : Shared, s3 = { s2 with heap := h1, toks := s2.toks + ([] : List (Str × Value)).length } →
      codeAny (model X.prog X.w) X.A (.compLoop (.ListComp elt [⟨tg, iter, ifs, 0⟩] scope pos) 0 (.ref it) (.ref s2.heap.objs.size) (compEnvC scope (closL X.env.cells scope.names []) G.objs.size X.env))
        (compPost (model X.prog X.w) X.A E use Q (.ref s2.heap.objs.size) G.objs.size) s3 := by
    rintro s3 rfl
    refine compLoop_any (fun n s' => ∃ i σ' H' ys us, Inv (cxC X N' scope G.objs.size s2 H2 fp) [(s2.heap.objs.size, accObj us)] σ' H' s' ∧ σ' = σC o fr σ ∧ Vals ys us ∧ tn i s'.heap ∧ (∀ b ∈ fp, H' b = none) ∧ W i n ys H') ?_ m0
      ⟨0, _, H2, [], [], I2.block S hsc hN0 f2 hfl hC (Nat.le_refl _) hDC old hns1 hacc, rfl, .nil, st1, fun b hb => (f2 b hb).1, w0⟩
    rintro n s' ⟨i, σ', H', ys, us, I', rfl, rv, st', fr', w'⟩
    rcases turn i n ys H' w' with ⟨stop, hz, q⟩ | ⟨go, hz, step⟩
    · refine thn (T.done (cxC X N' scope G.objs.size s2 H2 fp) rfl rfl rfl hc i _ s' _ H' _ I' (fpC fr') st' stop) fun r s4 ⟨hr, I4⟩ => ?_
      subst hr
      obtain ⟨oC, m, hoC, hn, J4⟩ := I2.unblock f2 hC (Nat.le_refl _) hDC I4 rv hz
      exact fin _ oC _ m H' ys s4 J4 (q _ (I4.pin (s2.heap.objs.size, accObj us) (by simp)).2.1) hn I4.free (Ne.symm hDC) (Nat.ne_of_gt (Nat.lt_of_lt_of_le I2.lt hC)) (Nat.le_trans I2.sz hC)
        (fun x c e => by obtain ⟨v, z⟩ := I2.cell x c e; exact Nat.ne_of_lt (Nat.lt_of_lt_of_le z.lt hC)) fun p hp => Nat.ne_of_lt (Nat.lt_of_lt_of_le (Heap.lt_size (I2.pin p hp).1) hC)
    · refine thn (T.item (cxC X N' scope G.objs.size s2 H2 fp) rfl rfl rfl hc i _ s' _ H' _ I' (fpC fr') st' go) fun r s4 ⟨u, hr, h4⟩ => ?_
      subst hr
      refine thn h4 fun _ s5 ⟨x, H5, I5, r5, y5, st5, fr5⟩ => ?_
      have hst := step x H5 y5
      have hst' := ho x (List.replicate o none) (fr.map fun j => (σ[j]?).join) H5 _ (List.length_replicate ..) hst
      -- the iterator's records are pinned while the block's own code runs
      have I5' := I5.pinned (fpC (us := us) fr5) (T.obj _ _ st5)
      refine thn (hg _ _ _ _ _ s5 _ H5 x u _ I5' r5 hst') fun _ s6 ⟨σ6, H6, I6, ⟨ow, hol, e6⟩, q6⟩ => ?_
      subst e6
      refine thn (ht _ _ _ _ _ s6 _ H6 _ I6 q6) fun b s7 ⟨H7, I7, q7⟩ => ?_
      have back : ∀ {us' : List Value} {σ8 : St} {H8 : Hp} {s8 : Shared}, Inv (cxC X N' scope G.objs.size s2 H2 fp) ([(s2.heap.objs.size, accObj us')] ++ pinsAt fp s5.heap) (ow ++ fr.map fun j => (σ[j]?).join) H8 s8 →
          Inv (cxC X N' scope G.objs.size s2 H2 fp) [(s2.heap.objs.size, accObj us')] (σC o fr σ) H8 s8 ∧ tn (i + 1) s8.heap ∧ ∀ b ∈ fp, H8 b = none := fun {us' σ8 H8 s8} I8 => by
        refine ⟨I8.unpinned.weak ?_ fun j v e => ?_, T.keep _ _ _ st5 fun b hb ob e => (I8.pin (b, ob) (List.mem_append_right _ (List.mem_append_right _ (mem_pinsAt hb e)))).1, fun b hb => ?_⟩
        · unfold σC
          rw [List.length_append, List.length_append, List.length_replicate, hol]
        · unfold σC at e
          by_cases hj : j < o
          · rw [List.getElem?_append_left (by rw [List.length_replicate]; exact hj), List.getElem?_replicate, if_pos hj] at e
            cases e
          · rw [List.getElem?_append_right (by rw [List.length_replicate]; exact Nat.not_lt.mp hj), List.length_replicate] at e
            rw [List.getElem?_append_right (by rw [hol]; exact Nat.not_lt.mp hj), hol]
            exact e
        · obtain ⟨ob, e, _⟩ := T.obj _ _ st5 b hb
          exact (I8.pin (b, ob) (List.mem_append_right _ (List.mem_append_right _ (mem_pinsAt hb e)))).2.1
      cases b with
      | false =>
        rw [if_neg Bool.false_ne_true] at q7 ⊢
        obtain ⟨m', hm, w7⟩ := q7
        obtain ⟨I8, st8, fr8⟩ := back (us' := us) (σ8 := []) I7
        exact ⟨m', hm, i + 1, _, H7, ys, us, I8, rfl, rv, st8, fr8, w7⟩
      | true =>
        rw [if_pos rfl] at q7 ⊢
        refine thn (he _ _ _ _ _ s7 _ H7 _ I7 q7) fun y s8 ⟨yv, H8, I8, r8, m', hm, w8⟩ => ?_
        obtain ⟨aD, nD, _, _, _⟩ := I8.pin (s2.heap.objs.size, accObj us) (by simp)
        have aD : s8.heap.get? s2.heap.objs.size = some (accObj us) := aD
        have nD : H8 s2.heap.objs.size = none := nD
        have hul : us.length ≤ sizeLine := by rw [← rv.length]; exact Nat.le_of_lt hz
        refine append_at (hsz := by show us.toArray.size ≤ sizeLine; rw [List.size_toArray]; exact hul) aD fun h9 hs9 hD9 => ?_
        have hD9' : h9.get? s2.heap.objs.size = some (accObj (us ++ [y])) := by
          rw [hD9]
          show some ({ cls := .type "list", data := .seq (us.toArray.push y) (us.length + 1) } : Obj) = some { cls := .type "list", data := .seq (us ++ [y]).toArray (us ++ [y]).length }
          rw [List.length_append, List.length_singleton, List.push_toArray]
        have I9 : Inv (cxC X N' scope G.objs.size s2 H2 fp) (pinsAt fp s5.heap) (ow ++ fr.map fun j => (σ[j]?).join) H8 { s8 with heap := h9 } :=
          (I8.pins_of (pins' := pinsAt fp s5.heap) fun p hp => I8.pin p (List.mem_append_right _ (List.mem_append_right _ hp))).turned (t' := s8.toks) (it := s2.heap.objs.size) (fun b ob hb e => hs9.extBut b ob hb e) nD hDC (.inr (Nat.le_refl _))
            (fun x c e => by
              obtain ⟨v, z⟩ := I2.cell x c (S.sub hsc I2 x c e)
              exact Nat.ne_of_lt z.lt)
            fun p hp => by
              obtain ⟨hb, _⟩ := of_pinsAt (show p ∈ pinsAt fp s5.heap from by simpa [cxC] using hp)
              exact Nat.ne_of_lt (hfl p.1 hb)
        have I9' : Inv (cxC X N' scope G.objs.size s2 H2 fp) ([(s2.heap.objs.size, accObj (us ++ [y]))] ++ pinsAt fp s5.heap) (ow ++ fr.map fun j => (σ[j]?).join) H8 { s8 with heap := h9 } :=
          I9.pins_of fun p hp => by
            rcases List.mem_append.mp hp with z | z
            · have e : p = (s2.heap.objs.size, accObj (us ++ [y])) := by simpa using z
              subst e
              refine ⟨hD9', nD, hDC, fun z => ?_, fun v z => nomatch z⟩
              obtain ⟨_, ob, hob, _⟩ := I2.stack.mem z
              exact Nat.lt_irrefl _ (Heap.lt_size hob)
            · exact I9.pin p (List.mem_append_right _ z)
        obtain ⟨I10, st10, fr10⟩ := back (us' := us ++ [y]) (σ8 := []) I9'
        exact ⟨m', hm, i + 1, _, H8, ys ++ [yv], us ++ [y], I10, rfl, Vals.append rv (.cons r8 .nil), st10, fr10, w8⟩
  exact codeAny_compStart_list (loop _ rfl) (T.self _ 0 _ _ _ st1 (loop _ rfl))

/-- [elt for tg in iter if ..] -/
theorem pe_lc (hc : X.calm = true) {sc0 : Scope} {N0 : List Str} (S : CompScope sc0 N0 N' o fr scope) (hi : PI X tg iter wi) (ho : OwnG o g)
    (hg : ∀ (C : Addr) (s : Shared) (H : Hp) (fp : List Addr), PG (cxC X N' scope C s H fp) tg g)
    (ht : ∀ (C : Addr) (s : Shared) (H : Hp) (fp : List Addr), PTs (cxC X N' scope C s H fp) ifs tt)
    (he : ∀ (C : Addr) (s : Shared) (H : Hp) (fp : List Addr), PE (cxC X N' scope C s H fp) elt te)
    (hs : ∀ x, foldedSetIterable iter X.env x = pure x := by intro _; rfl) (hsc : X.env.scope = sc0 := by rfl) (hN0 : X.N = N0 := by rfl) : PE X (.ListComp elt [⟨tg, iter, ifs, 0⟩] scope pos) (tLc wi g tt te o fr) := by
  intro pins s σ H Q I h
  rw [eval_ListComp]
  refine lc_run hc S hi ho hg ht he hs hsc hN0 I h (use := none) (fun _ _ z => z) fun C oC D m H' ys s' J q hn nC hCD hCL hCs hCc hCp => ?_
  refine ⟨m, hn, fun h' hs' => ⟨.ref D, upd H' D (.lst ys), ?_, rfl, q⟩⟩
  refine J.unpinned.turned (t' := s'.toks) (it := C) (fun b ob hb e => hs'.extBut b ob hb e) (by rw [upd_ne hCD]; exact nC) hCL (.inr hCs) hCc hCp
/-- name = [elt for tg in iter if ..], where the name is stored while the block's names still stand -/
theorem ps_lc {i : Nat} {x : Str} {px : Pos} {spos : Pos} (hc : X.calm = true) (hN : X.N.Nodup) (hx : X.N[i]? = some x) (hl : X.env.kindOf x = some .local) {sc0 : Scope} {N0 : List Str} (S : CompScope sc0 N0 N' o fr scope) (hi : PI X tg iter wi) (ho : OwnG o g)
    (hg : ∀ (C : Addr) (s : Shared) (H : Hp) (fp : List Addr), PG (cxC X N' scope C s H fp) tg g)
    (ht : ∀ (C : Addr) (s : Shared) (H : Hp) (fp : List Addr), PTs (cxC X N' scope C s H fp) ifs tt)
    (he : ∀ (C : Addr) (s : Shared) (H : Hp) (fp : List Addr), PE (cxC X N' scope C s H fp) elt te)
    (hs : ∀ x, foldedSetIterable iter X.env x = pure x := by intro _; rfl) (hsc : X.env.scope = sc0 := by rfl) (hN0 : X.N = N0 := by rfl)
    (hsw : swapsWith (.ListComp elt [⟨tg, iter, ifs, 0⟩] scope pos) (some (.Name x px)) spos.line X.env = pure true := by rfl) :
    PS X (.Assign [.Name x px] (.ListComp elt [⟨tg, iter, ifs, 0⟩] scope pos) spos) (tAsg (tLc wi g tt te o fr) (gName i)) := by
  intro pins s σ H D I h
  rw [exec_Assign_Name_used _ _ _ _ hsw]
  refine wpAny_bind (wpAny_standAt (wpAny_bind ?_))
  show wpAny _ X.A (do let _ ← comprehension (.ListComp elt [⟨tg, iter, ifs, 0⟩] scope pos) scope X.env (firstIterPos [⟨tg, iter, ifs, 0⟩] pos) (newList []) false (eval iter X.env) (some (assign (.Name x px) X.env))) _ _ s
  refine wpAny_bind (wpAny_mono (lc_run (Q := fun _ s' => SP X pins D .next s') hc S hi ho hg ht he hs hsc hN0 I h (use := some (assign (.Name x px) X.env)) (fun _ _ z => z) fun C oC Dd m H' ys s' J q hn nC hCD hCL hCs hCc hCp => ?_) (fun _ s' hq => wpAny_pure (wpAny_pure hq)) fun _ _ e => e)
  show wpAny _ X.A (assign (.Name x px) X.env (.ref Dd)) _ _ _
  refine wpAny_assign_Name (store_ok J hN hx (.inl hl) (v := .ref Dd) rfl (fun s2 I2 => ?_) (.inr hl))
  have g1 := (I2.pin (C, oC) (by simp)).1
  have g1 : s2.heap.get? C = some oC := g1
  have n2 : s2.heap.Ns C m := by
    obtain ⟨oc, es, ep, e, r⟩ := hn
    have e0 := (J.pin (C, oC) (by simp)).1
    have e0 : s'.heap.get? C = some oC := e0
    rw [e] at e0
    cases e0
    exact ⟨_, es, ep, g1, r⟩
  refine ⟨m, n2, fun h' hs' => ⟨_, upd H' Dd (.lst ys), ?_, q⟩⟩
  exact I2.unpinned.turned (t' := s2.toks) (it := C) (fun b ob hb e => hs'.extBut b ob hb e) (by rw [upd_ne hCD]; exact nC) hCL (.inr hCs) hCc hCp
end
end L2

/-! ## more rules over the layer: range as a value, sum, set, enumerate, dict methods, deep == -/
namespace L2
open PySem PySem.Spec PyProof.Rows
section
variable {X : Cx}
theorem vals_two : ∀ {x y : V} {us : List Value}, Vals [x, y] us → ∃ u v, us = [u, v] ∧ RelV x u ∧ RelV y v
  | _, _, _, .cons r (.cons r' .nil) => ⟨_, _, rfl, r, r'⟩
theorem ints_of_vals : ∀ {ns : List Int} {us : List Value}, Vals (ns.map V.int) us → IntsAre us ns
  | [], _, .nil => .nil
  | n :: ns, _, .cons r t => by
    obtain ⟨tk, rfl⟩ := r
    exact .cons n tk (ints_of_vals t)
/-! ### range(..) as an object -/
theorem call_rng1 : CallR X (.type "range") (fun xs H Q => ∃ j : Int, xs = [.int j] ∧ ∀ p, H p = none → Q (.ref p) (upd H p (.rng 0 j))) := by
  intro pins s σ H xs us Q I r h
  obtain ⟨j, rfl, q⟩ := h
  obtain ⟨u, rfl, t, rfl⟩ := vals1 r
  refine call_range_1 ?_
  exact ⟨.ref s.heap.objs.size, _, I.laid (o := .rng 0 j) (fun b u e => Heap.get?_push_of_some _ e) (Nat.le_refl _) ⟨_, _, _, Heap.get?_push_size _ rfl⟩, rfl, q _ (I.hok.fresh (Nat.le_refl _))⟩
/-- lo, lo + 1, .. below hi -/
def rngI (lo hi : Int) : List Int := (List.range (hi - lo).toNat).map fun (i : Nat) => lo + (i : Int)
theorem rngI_length (lo hi : Int) : (rngI lo hi).length = (hi - lo).toNat := by unfold rngI; rw [List.length_map, List.length_range]
theorem vals_rng {lo : Int} {n : Nat} : ∀ {us : List Value}, us.length = n → (∀ (j : Nat) (v : Value), us[j]? = some v → ∃ t, v = Value.int (lo + (j : Int)) t) → Vals (((List.range n).map fun (i : Nat) => lo + (i : Int)).map V.int) us := by
  induction n generalizing lo with
  | zero =>
    intro us h _
    rw [List.length_eq_zero_iff.mp h]
    exact .nil
  | succ n ih =>
    intro us h hv
    cases us with
    | nil => cases h
    | cons u us =>
      rw [List.range_succ_eq_map, List.map_cons, List.map_cons]
      refine .cons ?_ ?_
      · obtain ⟨t, e⟩ := hv 0 u rfl
        exact ⟨t, e⟩
      · have q := ih (lo := lo + 1) (us := us) (Nat.succ.inj h) fun j v e => by
          obtain ⟨t, e'⟩ := hv (j + 1) v (by simpa using e)
          refine ⟨t, ?_⟩
          rw [e']
          congr 1
          omega
        have e : (List.range n).map (fun (i : Nat) => lo + 1 + (i : Int)) = ((List.range n).map Nat.succ).map (fun (i : Nat) => lo + (i : Int)) := by
          rw [List.map_map]
          refine List.map_congr_left fun i _ => ?_
          show lo + 1 + (i : Int) = lo + ((i + 1 : Nat) : Int)
          omega
        rw [e] at q
        exact q
theorem call_list_rng (hc : X.calm = true) : CallR X (.type "list") (fun xs H Q => ∃ p lo hi, xs = [.ref p] ∧ H p = some (.rng lo hi) ∧ (-(2 ^ 62) ≤ lo ∧ lo < 2 ^ 62 ∧ -(2 ^ 62) ≤ hi ∧ hi < 2 ^ 62) ∧ (hi - lo).toNat ≤ 16777216 ∧
    ∀ l, H l = none → Q (.ref l) (upd H l (.lst ((rngI lo hi).map V.int)))) := by
  intro pins s σ H xs us Q I r h
  obtain ⟨p, lo, hi, rfl, hp, ⟨b1, b2, b3, b4⟩, hz, q⟩ := h
  obtain ⟨u, rfl, ru⟩ := vals1 r
  obtain rfl : u = Value.ref p := ru
  obtain ⟨t, u, v, e⟩ := (show ObjOk X.prog X.w H s.heap p (.rng lo hi) from I.hok p _ hp)
  have hn : Builtin.Range.rangeSize lo hi 1 = (((hi - lo).toNat : Nat) : Int) := by rw [rangeSize_one]; split <;> omega
  refine call_list_range (I.ok.hd hc) (t := t) (u := u) (v := v) e (small_one b1 b2 b3 b4) hn hz fun h' tk acc c' hk hS ha => ?_
  have hl : acc.toList.length = (hi - lo).toNat := by rw [Array.length_toList]; exact ha.1
  have rv : Vals ((rngI lo hi).map V.int) acc.toList := vals_rng (lo := lo) hl fun j w ew => by
    obtain ⟨t, e⟩ := ha.2 j w (by simpa using ew)
    exact ⟨t, by rw [e, Int.mul_one]⟩
  refine ⟨.ref s.heap.objs.size, _, I.laid (o := .lst ((rngI lo hi).map V.int)) hk (Nat.le_refl _) ⟨?_, acc.toList, c', rv, ?_⟩, rfl, q _ (I.hok.fresh (Nat.le_refl _))⟩
  · rw [List.length_map, rngI_length]
    have : sizeLine = 16777216 := sizeLine_eq
    omega
  · rw [hS]
/-! ### sum of ints -/
theorem call_sum_ints (hc : X.calm = true) : CallR X (.builtin "sum") (fun xs H Q => ∃ (p : Addr) (ns : List Int), xs = [.ref p] ∧ SqL X.K H p (ns.map V.int) ∧ Q (.int ns.sum) H) := by
  intro pins s σ H xs us Q I r h
  obtain ⟨p, ns, rfl, hq, q⟩ := h
  obtain ⟨u, rfl, ru⟩ := vals1 r
  obtain rfl : u = Value.ref p := ru
  obtain ⟨its, rv, pl, hz⟩ := I.list hq
  have hi := ints_of_vals rv
  have hall := hi.allInts
  obtain ⟨xs, ex⟩ := hall.items
  have hl := pl.isList
  rw [ex] at hl
  refine sum_intListG (I.ok.hd hc) hl fun h' tk t' hk => ?_
  have e1 : preSum (numAt xs) xs.size = ns.sum := by
    have e2 := hi.numsOf
    rw [show its = its.toArray.toList from rfl, ex, nums_intItems] at e2
    rw [preSum_eq, List.take_of_length_le (by simp), ← e2]
  exact ⟨.int ns.sum, H, I.kept hk, ⟨t', by rw [e1]⟩, q⟩
/-! ### set(list of ints), its length -/
def seen (ns : List Int) : List Int := firstMet (fun i => ns.getD i 0) ns.length
/-! ### isinstance against a built-in type -/
theorem call_isi {T : String} : CallR X (.builtin "isinstance") (fun xs H Q => ∃ x t b, xs = [x, .ty T] ∧ TyOf X.K H x t ∧ PySem.W.kitOne X.K t (.type T) = some b ∧ Q (.bl b) H) := by
  intro pins s σ H xs us Q I r h
  obtain ⟨x, t, b, rfl, ty, e, q⟩ := h
  obtain ⟨u, v, rfl, ru, rv⟩ := vals_two r
  obtain rfl : v = Value.type T := rv
  exact isinst_ok I ru ty e fun tk => ⟨.bl b, H, I.tok tk, rfl, q⟩
/-! ### for i, x in enumerate(list) -/
/-- at turn i: a new pair (i, the list's i-th) -/
def Ite (K : PySem.W.Frag) (a : Addr) : It :=
  ⟨fun i H => ∃ xs x, SqL K H a xs ∧ xs[i]? = some x, fun i H v H' => ∃ T x, H T = none ∧ v = .ref T ∧ H' = upd H T (.tup [.int i, x]) ∧ ∀ xs, SqL K H a xs → xs[i]? = some x, fun i H => ∃ xs, SqL K H a xs ∧ xs.length ≤ i⟩
def iEnum (K : PySem.W.Frag) (ta : TA) : TI := fun σ H R => ta σ H fun vs H1 => ∃ a, vs = [.ref a] ∧ (∃ xs, SqL K H1 a xs) ∧ R (Ite K a) H1
theorem turn_enum {P : Program} {w : World} {K : PySem.W.Frag} {elts : List Expr} {x1 : Nat} {pos : Pos} (a e it : Addr) (hne : e ≠ it) : Turn P w K (.Tuple elts x1 pos) (Ite K a) [e, it] e (fun i h => (∃ old, IsEnum h e it i old) ∧ h.IsListIter it a i) where
  mem := by simp
  obj := fun i h st b hb => by
    obtain ⟨⟨old, he⟩, o, eo, c, d⟩ := st
    rcases List.mem_cons.mp hb with z | hb
    · subst z
      exact ⟨_, he, fun v z => by
        have z' : Data.fields _ = Data.cell v := z
        cases z'⟩
    · have z : b = it := by simpa using hb
      subst z
      exact ⟨o, eo, fun v z => by rw [d] at z; cases z⟩
  keep := fun i h h' st k => by
    obtain ⟨⟨old, he⟩, hit⟩ := st
    exact ⟨⟨old, k e (by simp) _ he⟩, hit.at fun o x => k it (by simp) o x⟩
  item := by
    intro X hP hw hK hc i pins s σ H E I hf st hg
    subst hP hw hK
    obtain ⟨xs, x, hq, hx⟩ := hg
    obtain ⟨⟨old, he⟩, hit⟩ := st
    obtain ⟨its, rv, p, hz⟩ := I.list hq
    obtain ⟨u, hu, ru⟩ := rv.get hx
    obtain ⟨f0, f1, f2, f3, f4, f5⟩ := hf e (by simp)
    obtain ⟨g0, g1, g2, g3, g4, g5⟩ := hf it (by simp)
    have hT0 : H s.heap.objs.size = none := I.hok.fresh (Nat.le_refl _)
    refine wpAny_pyNext_enum_item he hit p.isList (x := u) (by simpa using hu) hne fun h' ho hit' hT hsz hk => ?_
    have ltT : ∀ b ob, s.heap.get? b = some ob → b ≠ s.heap.objs.size := fun b ob z => Nat.ne_of_lt (Heap.lt_size z)
    have ltH : ∀ b ob, H b = some ob → b ≠ s.heap.objs.size := fun b ob z => Nat.ne_of_lt (I.hok.lt z)
    have nof : ∀ b ob, H b = some ob → b ≠ e ∧ b ≠ it := fun b ob z => ⟨fun q => (by rw [q, f0] at z; cases z), fun q => (by rw [q, g0] at z; cases z)⟩
    have I1 : Inv X pins σ (upd H s.heap.objs.size (.tup [.int i, x])) { s with heap := h', toks := s.toks + 1 } := by
      refine I.step (g' := s.gens) (d' := s.drawn) (ch := [e, it]) (fun b hb => ?_) (fun b o _ _ hcx z _ => hk b o (fun q => hcx (by simp [q])) (fun q => hcx (by simp [q])) z) (fun b o _ _ hcx z _ => ⟨o.slots, hk b o (fun q => hcx (by simp [q])) (fun q => hcx (by simp [q])) z⟩)
        (fun b o _ z n => by rw [upd_ne (ltT b o z)]; exact n) (fun b o hcx z => ⟨o, hk b o (fun q => hcx (by simp [q])) (fun q => hcx (by simp [q])) z⟩) (fun b ys z => by rw [upd_ne (ltH b _ z)]; exact z) (fun b o v z => by rw [upd_ne (ltH b _ z)]; exact z)
        (fun b ps z => ⟨#[], by rw [upd_ne (ltH b _ z), z]; simp⟩) (fun m hm => ?_) (fun b v z => ?_) I.bare
      · rcases List.mem_cons.mp hb with q | hb
        · rw [q]; exact ⟨f3, f1, f4, f5⟩
        · have q : b = it := by simpa using hb
          rw [q]; exact ⟨g3, g1, g4, g5⟩
      · obtain ⟨o, es, ep, ho', r⟩ := hm
        exact ⟨o, es, ep, hk _ o (Ne.symm f1) (Ne.symm g1) ho', r⟩
      · by_cases hb : b = s.heap.objs.size
        · subst hb
          rw [upd_same] at z
          cases z
          exact ⟨by show 2 ≤ sizeLine; decide, [.int i s.toks, u], .cons ⟨_, rfl⟩ (.cons ru .nil), ⟨_, hT, rfl, _, rfl⟩⟩
        · rw [upd_ne hb] at z
          refine (I.hok b v z).stay (fun c w' hc' q => ?_) (fun c q => by rw [upd_ne (ltH c _ q)]; exact q) fun c ys q => by rw [upd_ne (ltH c _ q)]; exact q
          rcases hc' with rfl | hc'
          · exact hk c w' (nof c _ z).1 (nof c _ z).2 q
          · exact hk c w' (nof c _ hc').1 (nof c _ hc').2 q
    refine ⟨_, rfl, wpAny_letOwnedTupleGo_enum ho fun h2 he2 hs2 => ?_⟩
    have fT : e ≠ s.heap.objs.size := ltT e _ he
    have I2 : Inv X pins σ (upd H s.heap.objs.size (.tup [.int i, x])) { s with heap := h2, toks := s.toks + 1 } := Inv.turned (s := { s with heap := h', toks := s.toks + 1 }) (h' := h2) (t' := s.toks + 1) (it := e) I1 (fun b o hb z => hs2.extBut b o hb z) (by rw [upd_ne fT]; exact f0) f1 f3 f4 f5
    refine ⟨.ref s.heap.objs.size, _, I2, rfl, ⟨_, x, hT0, rfl, rfl, fun ys hy => by rw [I.list_inj hy hq]; exact hx⟩, ⟨⟨u, by simpa using he2⟩, hit'.at fun o z => hs2.extBut it o (Ne.symm hne) z⟩, fun b hb => ?_⟩
    rcases List.mem_cons.mp hb with q | hb
    · rw [q, upd_ne fT]; exact f0
    · have q : b = it := by simpa using hb
      obtain ⟨o, eo, _⟩ := hit
      rw [q, upd_ne (ltT it o eo)]; exact g0
  done := by
    intro X hP hw hK hc i pins s σ H E I hf st hg
    subst hP hw hK
    obtain ⟨xs, hq, hx⟩ := hg
    obtain ⟨⟨old, he⟩, hit⟩ := st
    obtain ⟨its, rv, p, hz⟩ := I.list hq
    obtain ⟨g0, g1, g2, g3, g4, g5⟩ := hf it (by simp)
    have hl := rv.length
    exact wpAny_pyNext_enum_end (I.ok.hd hc) he hit p.isList (by simp; omega) fun h' eb => ⟨rfl, I.turned (t' := s.toks) (it := it) (fun b o hb z => eb b o hb z) g0 g1 g3 g4 g5⟩
  self := fun _ _ _ _ _ st h => let ⟨⟨_, he⟩, _⟩ := st; wpAny_pyIter_enum he h
theorem pi_enum {elts : List Expr} {x1 : Nat} {tpos : Pos} {a : Expr} {ta : TA} {p pos : Pos} (hg : Gl X "enumerate") (hm : X.mg "enumerate" = none) (ha : PA X [a] ta) (hs : starEach [a] X.env = [(false, eval a X.env)] := by rfl) :
    PI X (.Tuple elts x1 tpos) (.Call (.Name "enumerate" p) [a] [] pos) (iEnum X.K ta) := by
  intro pins s σ H R I h
  refine Call_ (ld_blt I hg hm Boot.«enumerate» (PyProof.Rows.callWith_type1 (thn (ha pos pins s σ H _ I h) fun us s1 ⟨vs, H1, I1, r1, q1⟩ => ?_) hs rfl))
  obtain ⟨b, e, ⟨xs, hq⟩, q⟩ := q1
  subst e
  obtain ⟨u, rfl, ru⟩ := vals1 r1
  obtain rfl : u = Value.ref b := ru
  obtain ⟨its, rv, pl, hz⟩ := I1.list hq
  refine call_enumerate_list pl.isList fun h' he hit hsz hk => ?_
  have I2 : Inv X pins σ H1 { s1 with heap := h' } := I1.kept (t' := s1.toks) hk
  refine wpAny_pyIter_enum he ?_
  have nn : ∀ k, s1.heap.objs.size ≤ k → H1 k = none := fun k hk => I1.hok.fresh hk
  refine ⟨s1.heap.objs.size + 1, [s1.heap.objs.size + 1, s1.heap.objs.size], _, _, H1, rfl, I2, turn_enum b _ _ (Nat.succ_ne_self _), ⟨⟨_, he⟩, hit⟩, fun c hc => ?_, q⟩
  have hle : s1.heap.objs.size ≤ c := by
    rcases List.mem_cons.mp hc with q | hc
    · rw [q]; exact Nat.le_succ _
    · have q : c = s1.heap.objs.size := by simpa using hc
      rw [q]; exact Nat.le_refl _
  exact I1.fpOk hle (nn c hle)
end
end L2

/-! ## a dict's setdefault and values; == of lists and tuples to any depth -/
namespace L2
open PySem PySem.Spec PyProof.Rows
section
variable {X : Cx}
theorem kV_vals {k : Key} {y : V} {us : List Value} (r : Vals [kV k, y] us) : ∃ u v, us = [u, v] ∧ RelV (kV k) u ∧ RelV y v := vals_two r
/-- d.setdefault(k, y) -/
def rSetDef : V → List V → Hp → VK → Prop := fun x vs H Q => ∃ d kvs k y, x = .ref d ∧ vs = [kV k, y] ∧ H d = some (.dK kvs) ∧ kvs.length < sizeLine ∧ (∀ v, valV kvs k = some v → Q v H) ∧ (valV kvs k = none → Q y (upd H d (.dK (kvs ++ [(k, y)]))))
theorem mt_setdefault : MtM X "dict.setdefault" rSetDef := by
  intro pins s σ H x vs v us Q I rx rv h
  obtain ⟨d, kvs, k, y, rfl, rfl, hH, hz, h1, h2⟩ := h
  cases rx
  obtain ⟨uk, uy, rfl, rk, ry⟩ := kV_vals rv
  obtain ⟨z, hd, ws, rel, dd⟩ := dk_of I.hok hH
  refine call_meetsIn PySem.F.slot_dict_setdefault dd.typeIs PySem.F.entry_dict_setdefault (PySem.F.args_dict_setdefault_3 _ _ _) (kt_meets_setdefault (mixKind X.prog X.w) d (kV_is rk) hd uy)
    ⟨ws, dd, by rw [← rel.length]; exact z, fun v' hv' => ?_, fun hn h' dd' hs => ?_⟩
  · cases e : valV kvs k with
    | none =>
      have q := rel.val k
      rw [e, hv'] at q
      exact False.elim q
    | some w' =>
      have q := rel.val k
      rw [e, hv'] at q
      exact ⟨w', H, I.tok _, q, h1 w' e⟩
  · have e : valV kvs k = none := by
      cases e : valV kvs k with
      | none => rfl
      | some w' =>
        have q := rel.val k
        rw [e, hn] at q
        exact False.elim q
    have he : ∃ q, h'.get? d = some q := let ⟨q, _, _, hq, _⟩ := dd'; ⟨q, hq⟩
    refine ⟨y, _, d_write (ob := .dK (putK kvs k y)) I (by rw [hH]; exact True.intro) hs he (dk_new ?_ hd (rel.put k ry) dd'), ry, ?_⟩
    · have := length_putK kvs k y; omega
    · rw [putK_new y e]; exact h2 e
/-- a view of a dict's values -/
def viewO (p d : Addr) : HO := .ext fun h => h.IsValuesView p d
def rValues : V → List V → Hp → VK → Prop := fun x vs H Q => ∃ d kvs, x = .ref d ∧ vs = [] ∧ H d = some (.dK kvs) ∧ ∀ p, H p = none → Q (.ref p) (upd H p (viewO p d))
theorem mt_values : MtM X "dict.values" rValues := by
  intro pins s σ H x vs v us Q I rx rv h
  obtain ⟨d, kvs, rfl, rfl, hH, q⟩ := h
  cases rx
  cases rv
  obtain ⟨z, hd, ws, rel, dd⟩ := dk_of I.hok hH
  refine call_meetsIn PySem.F.slot_dict_values dd.typeIs PySem.F.entry_dict_values (PySem.F.args_dict_values_1 _) (meets_dict_values (mixKind X.prog X.w) d hd) ⟨⟨ws, dd⟩, ?_⟩
  refine ⟨.ref s.heap.objs.size, _, I.laid (o := viewO s.heap.objs.size d) (fun b u e => Heap.get?_push_of_some _ e) (Nat.le_refl _) ?_, rfl, q _ (I.hok.fresh (Nat.le_refl _))⟩
  have e := Heap.get?_push_size s.heap (o := { cls := .type "dict_values", data := .fields #[.ref d] }) rfl
  exact ⟨⟨_, e, rfl, rfl⟩, ⟨_, e⟩, fun h1 h2 ⟨o, ho, r⟩ k => ⟨o, k o ho, r⟩⟩
theorem dictAt_of {P : Program} {w : World} {h : Heap} {d : Addr} {ws : List (Key × Value)} (dd : h.DictOf (mixKind P w) d ws) : ∃ ep, h.DictAt (mixKind P w) d ws ep := by
  obtain ⟨o, es, ep, r⟩ := dd
  exact ⟨ep, o, es, r⟩
theorem vals_snd {κ : Type} : ∀ {kvs : List (κ × V)} {ws : List (κ × Value)}, KV kvs ws → Vals (kvs.map (·.2)) (ws.map (·.2))
  | _, _, .nil => .nil
  | _, _, .cons r t => .cons r.2 (vals_snd t)
theorem call_list_view (hc : X.calm = true) : CallR X (.type "list") (fun xs H Q => ∃ p d kvs, xs = [.ref p] ∧ H p = some (viewO p d) ∧ H d = some (.dK kvs) ∧ ∀ l, H l = none → Q (.ref l) (upd H l (.lst (kvs.map (·.2))))) := by
  intro pins s σ H xs us Q I r h
  obtain ⟨p, d, kvs, rfl, hp, hd, q⟩ := h
  obtain ⟨u, rfl, ru⟩ := vals1 r
  obtain rfl : u = Value.ref p := ru
  obtain ⟨hv, _, _⟩ := (show ObjOk X.prog X.w H s.heap p (viewO p d) from I.hok p _ hp)
  obtain ⟨z, hds, ws, rel, dd⟩ := dk_of I.hok hd
  obtain ⟨ep, da⟩ := dictAt_of dd
  have hl : ws.length = kvs.length := rel.length.symm
  refine PySem.W.kdl_call (PySem.W.kdl_values (knd := mixKind X.prog X.w) (kvs := ws) (ep := ep) (r := p) (d := d)) (I.ok.hd hc) ⟨hv, da⟩ (by omega) fun h' tk acc c' hk hS ha => ?_
  have ea : acc.toList = ws.map (·.2) := by
    refine List.ext_getElem? fun i => ?_
    cases e : acc.toList[i]? with
    | none =>
      have : ws.length ≤ i := by
        have := List.getElem?_eq_none_iff.mp e
        rw [Array.length_toList, ha.1] at this
        exact this
      rw [List.getElem?_eq_none_iff.mpr (by rw [List.length_map]; exact this)]
    | some v =>
      obtain ⟨k, ek⟩ := ha.2 i v (by simpa using e)
      rw [List.getElem?_map, ek]
      rfl
  refine ⟨.ref s.heap.objs.size, _, I.laid (o := .lst (kvs.map (·.2))) hk (Nat.le_refl _) ⟨by rw [List.length_map]; exact z, acc.toList, c', ?_, by rw [hS]⟩, rfl, q _ (I.hok.fresh (Nat.le_refl _))⟩
  rw [ea]
  exact vals_snd rel
end

/-! ### == to any depth -/
/-- the answer of x == y by the abstract heap, down to depth n -/
inductive EqD (K : PySem.W.Frag) (H : Hp) : Nat → V → V → Bool → Prop
  | flat {n : Nat} {x y : V} (fx : flatV x = true) (fy : flatV y = true) : EqD K H n x y (eqV x y)
  | lsts {n : Nat} {a b : Addr} {xs ys : List V} {e : Nat → Bool} (ha : SqL K H a xs) (hb : SqL K H b ys) (hl : xs.length = ys.length) (h : ∀ i x y, xs[i]? = some x → ys[i]? = some y → EqD K H n x y (e i)) : EqD K H (n + 1) (.ref a) (.ref b) ((List.range xs.length).all e)
  | lens {n : Nat} {a b : Addr} {xs ys : List V} (ha : SqL K H a xs) (hb : SqL K H b ys) (hl : xs.length ≠ ys.length) : EqD K H (n + 1) (.ref a) (.ref b) false
  | tups {n : Nat} {a b : Addr} {xs ys : List V} {e : Nat → Bool} (ha : SqT K H a xs) (hb : SqT K H b ys) (h : ∀ i x y, xs[i]? = some x → ys[i]? = some y → EqD K H n x y (e i)) :
      EqD K H (n + 1) (.ref a) (.ref b) ((List.range (min xs.length ys.length)).all e && xs.length == ys.length)
theorem eqV_self {x : V} (h : flatV x = true) : eqV x x = true := by
  cases x <;> first | rfl | (simp [eqV]; done) | exact absurd (show false = true from h) Bool.false_ne_true
section
variable {X : Cx} {pins : List (Addr × Obj)} {σ : St} {H : Hp} {s : Shared}
theorem Vals.at {xs : List V} {us : List Value} {j : Nat} (r : Vals xs us) (h : j < us.length) : ∃ x, xs[j]? = some x ∧ RelV x us[j] := by
  have hl := r.length
  have hx : xs[j]? = some (xs[j]'(by omega)) := List.getElem?_eq_getElem (by omega)
  obtain ⟨u, e, ru⟩ := r.get hx
  rw [List.getElem?_eq_getElem h] at e
  cases e
  exact ⟨_, hx, ru⟩
/-- a thing and itself -/
theorem EqD.self {n : Nat} {x y : V} {b : Bool} (q : EqD X.K H n x y b) (I : Inv X pins σ H s) : x = y → b = true := by
  induction q with
  | flat fx fy => intro e; subst e; exact eqV_self fx
  | @lsts n a b xs ys e ha hb hl h ih =>
    intro z
    cases z
    have e1 : xs = ys := I.list_inj ha hb
    subst e1
    rw [List.all_eq_true]
    intro i hi
    have hx : xs[i]? = some (xs[i]'(List.mem_range.mp hi)) := List.getElem?_eq_getElem _
    exact ih i _ _ hx hx rfl
  | @lens n a b xs ys ha hb hl =>
    intro z
    cases z
    exact absurd (congrArg List.length (I.list_inj ha hb)) hl
  | @tups n a b xs ys e ha hb h ih =>
    intro z
    cases z
    have e1 : xs = ys := I.tuple_inj ha hb
    subst e1
    rw [Nat.min_self, Bool.and_eq_true, List.all_eq_true]
    refine ⟨fun i hi => ?_, by simp⟩
    have hx : xs[i]? = some (xs[i]'(List.mem_range.mp hi)) := List.getElem?_eq_getElem _
    exact ih i _ _ hx hx rfl
theorem EqD.at {n : Nat} {x y : V} {b : Bool} (q : EqD X.K H n x y b) (I : Inv X pins σ H s) : ∀ {A : Around} {u v : Value}, A.units + n < cLine → RelV x u → RelV y v → SeqAt.EqAt A s u v b := by
  induction q with
  | flat fx fy => intro A u v _ ru rv; exact eqAt_V ru rv fx fy
  | @lsts n a b xs ys e ha hb hl h ih =>
    intro A u v hu ru rv
    obtain rfl : u = Value.ref a := ru
    obtain rfl : v = Value.ref b := rv
    by_cases hab : a = b
    · have z := EqD.self (EqD.lsts ha hb hl h) I (congrArg V.ref hab)
      rw [z, hab]
      exact SeqAt.EqAt.same _
    obtain ⟨us, rx, px, _⟩ := I.list ha
    obtain ⟨vs, ry, py, _⟩ := I.list hb
    have l1 := rx.length
    have l2 := ry.length
    have z := SeqAt.RcAt.lists (A := A) (s := s) (e := e) px.isList py.isList (by rw [List.size_toArray, List.size_toArray]; omega) (by omega) fun j h1 h2 => by
      obtain ⟨x, ex, rx'⟩ := rx.at (j := j) (by simpa using h1)
      obtain ⟨y, ey, ry'⟩ := ry.at (j := j) (by simpa using h2)
      exact ih j x y ex ey (A := A.in1) (by show A.units + 1 + n < cLine; omega) (by simpa using rx') (by simpa using ry')
    rw [List.size_toArray, ← l1] at z
    exact SeqAt.EqAt.of_refs hab z
  | @lens n a b xs ys ha hb hl =>
    intro A u v hu ru rv
    obtain rfl : u = Value.ref a := ru
    obtain rfl : v = Value.ref b := rv
    obtain ⟨us, rx, px, _⟩ := I.list ha
    obtain ⟨vs, ry, py, _⟩ := I.list hb
    have l1 := rx.length
    have l2 := ry.length
    have hab : a ≠ b := fun z => by
      subst z
      exact hl (congrArg List.length (I.list_inj ha hb))
    exact SeqAt.EqAt.of_refs hab (SeqAt.RcAt.lists_lengths px.isList py.isList (by rw [List.size_toArray, List.size_toArray]; simp; omega) (by omega))
  | @tups n a b xs ys e ha hb h ih =>
    intro A u v hu ru rv
    obtain rfl : u = Value.ref a := ru
    obtain rfl : v = Value.ref b := rv
    by_cases hab : a = b
    · have z := EqD.self (EqD.tups ha hb h) I (congrArg V.ref hab)
      rw [z, hab]
      exact SeqAt.EqAt.same _
    obtain ⟨us, rx, px, _⟩ := I.tuple ha
    obtain ⟨vs, ry, py, _⟩ := I.tuple hb
    have l1 := rx.length
    have l2 := ry.length
    have z := SeqAt.RcAt.tuples (A := A) (s := s) (e := e) (show s.heap.IsTuple a us.toArray from px) (show s.heap.IsTuple b vs.toArray from py) (by omega) fun j h1 h2 => by
      obtain ⟨x, ex, rx'⟩ := rx.at (j := j) (by simpa using h1)
      obtain ⟨y, ey, ry'⟩ := ry.at (j := j) (by simpa using h2)
      exact ih j x y ex ey (A := A.in1) (by show A.units + 1 + n < cLine; omega) (by simpa using rx') (by simpa using ry')
    rw [List.size_toArray, List.size_toArray, ← l1, ← l2] at z
    exact SeqAt.EqAt.of_refs hab z
end
section
variable {X : Cx}
/-- x == y, x != y of two lists or two tuples -/
def rEqD (K : PySem.W.Frag) (neg : Bool) : R2 := fun x y H Q => ∃ n b p q, x = .ref p ∧ y = .ref q ∧ n ≤ 6 ∧ EqD K H n x y b ∧ Q (.bl (if neg then !b else b)) H
theorem op_eqD (hu : X.A.units + 8 < cLine) : OpR X (compareOp .Eq) (rEqD X.K false) := by
  intro pins s σ H x y u v Q I ru rv h
  obtain ⟨n, b, p, q, rfl, rfl, hn, d, hq⟩ := h
  obtain rfl : u = Value.ref p := ru
  obtain rfl : v = Value.ref q := rv
  have fin : EP X pins σ Q (.bool b) s := ⟨.bl b, H, I, rfl, hq⟩
  cases d with
  | flat fx fy => exact absurd (show false = true from fx) Bool.false_ne_true
  | @lsts n _ _ xs ys e ha hb hl h =>
    obtain ⟨us, rx, px, _⟩ := I.list ha
    obtain ⟨vs, ry, py, _⟩ := I.list hb
    have l1 := rx.length
    have l2 := ry.length
    refine SeqAt.eq_listAt (e := e) px.isList py.isList (by rw [List.size_toArray, List.size_toArray]; omega) (by omega) (fun j h1 h2 => ?_) (by rw [List.size_toArray, ← l1]; exact fin)
    obtain ⟨x, ex, rx'⟩ := rx.at (j := j) (by simpa using h1)
    obtain ⟨y, ey, ry'⟩ := ry.at (j := j) (by simpa using h2)
    exact (h j x y ex ey).at I (A := X.A.in1) (by show X.A.units + 1 + n < cLine; omega) (by simpa using rx') (by simpa using ry')
  | @lens n _ _ xs ys ha hb hl =>
    obtain ⟨us, rx, px, _⟩ := I.list ha
    obtain ⟨vs, ry, py, _⟩ := I.list hb
    have l1 := rx.length
    have l2 := ry.length
    exact SeqAt.eq_list_lengthsAt px.isList py.isList (by rw [List.size_toArray, List.size_toArray]; simp; omega) (by omega) fin
  | @tups n _ _ xs ys e ha hb h =>
    obtain ⟨us, rx, px, _⟩ := I.tuple ha
    obtain ⟨vs, ry, py, _⟩ := I.tuple hb
    have l1 := rx.length
    have l2 := ry.length
    refine SeqAt.eq_tupleAt (e := e) (show s.heap.IsTuple p us.toArray from px) (show s.heap.IsTuple q vs.toArray from py) (by omega) (fun j h1 h2 => ?_) (by rw [List.size_toArray, List.size_toArray, ← l1, ← l2]; exact fin)
    obtain ⟨x, ex, rx'⟩ := rx.at (j := j) (by simpa using h1)
    obtain ⟨y, ey, ry'⟩ := ry.at (j := j) (by simpa using h2)
    exact (h j x y ex ey).at I (A := X.A.in1) (by show X.A.units + 1 + n < cLine; omega) (by simpa using rx') (by simpa using ry')
theorem op_neD (hu : X.A.units + 8 < cLine) : OpR X (compareOp .NotEq) (rEqD X.K true) := by
  intro pins s σ H x y u v Q I ru rv h
  obtain ⟨n, b, p, q, rfl, rfl, hn, d, hq⟩ := h
  obtain rfl : u = Value.ref p := ru
  obtain rfl : v = Value.ref q := rv
  have fin : EP X pins σ Q (.bool (!b)) s := ⟨.bl (!b), H, I, rfl, hq⟩
  cases d with
  | flat fx fy => exact absurd (show false = true from fx) Bool.false_ne_true
  | @lsts n _ _ xs ys e ha hb hl h =>
    obtain ⟨us, rx, px, _⟩ := I.list ha
    obtain ⟨vs, ry, py, _⟩ := I.list hb
    have l1 := rx.length
    have l2 := ry.length
    refine SeqAt.RcNeAt.lists (e := e) px.isList py.isList (by rw [List.size_toArray, List.size_toArray]; omega) (by omega) (fun j h1 h2 => ?_) _ _ _ _ (by rw [List.size_toArray, ← l1]; exact fin)
    obtain ⟨x, ex, rx'⟩ := rx.at (j := j) (by simpa using h1)
    obtain ⟨y, ey, ry'⟩ := ry.at (j := j) (by simpa using h2)
    exact (h j x y ex ey).at I (A := X.A.in1) (by show X.A.units + 1 + n < cLine; omega) (by simpa using rx') (by simpa using ry')
  | @lens n _ _ xs ys ha hb hl =>
    obtain ⟨us, rx, px, _⟩ := I.list ha
    obtain ⟨vs, ry, py, _⟩ := I.list hb
    have l1 := rx.length
    have l2 := ry.length
    exact SeqAt.RcNeAt.lists_lengths px.isList py.isList (by rw [List.size_toArray, List.size_toArray]; simp; omega) (by omega) _ _ _ _ fin
  | @tups n _ _ xs ys e ha hb h =>
    obtain ⟨us, rx, px, _⟩ := I.tuple ha
    obtain ⟨vs, ry, py, _⟩ := I.tuple hb
    have l1 := rx.length
    have l2 := ry.length
    refine SeqAt.RcNeAt.tuples (e := e) (show s.heap.IsTuple p us.toArray from px) (show s.heap.IsTuple q vs.toArray from py) (by omega) (fun j h1 h2 => ?_) _ _ _ _ (by rw [List.size_toArray, List.size_toArray, ← l1, ← l2]; exact fin)
    obtain ⟨x, ex, rx'⟩ := rx.at (j := j) (by simpa using h1)
    obtain ⟨y, ey, ry'⟩ := ry.at (j := j) (by simpa using h2)
    exact (h j x y ex ey).at I (A := X.A.in1) (by show X.A.units + 1 + n < cLine; omega) (by simpa using rx') (by simpa using ry')
end
end L2

/-! ## own words over the layer: heaps, pairs, webs, loops over lists and tuples -/
namespace My
open PySem L2
abbrev IL (ns : List Int) : List V := ns.map V.int
theorem il_length (ns : List Int) : (IL ns).length = ns.length := List.length_map ..
theorem il_append (a b : List Int) : IL (a ++ b) = IL a ++ IL b := List.map_append ..
theorem il_snoc (a : List Int) (r : Int) : IL (a ++ [r]) = IL a ++ [.int r] := List.map_append ..
theorem il_take (a : List Int) (n : Nat) : IL (a.take n) = (IL a).take n := List.map_take ..
theorem il_at {ns : List Int} {i : Nat} {z : Int} (h : ns[i]? = some z) : (IL ns)[i]? = some (.int z) := by rw [List.getElem?_map, h]; rfl
theorem il_get {ns : List Int} {i : Nat} {x : V} (h : (IL ns)[i]? = some x) : ∃ z, x = .int z ∧ ns[i]? = some z := by
  rw [List.getElem?_map] at h
  cases e : ns[i]? with
  | none => rw [e] at h; cases h
  | some z => rw [e] at h; exact ⟨z, (Option.some.inj h).symm, rfl⟩
theorem same_upd {H H2 : Hp} {a : Addr} {o : HO} (hn : H a = none) (s : Same H H2) : Same H (upd H2 a o) := fun b u e => by rw [upd_ne (ne_of_none e hn)]; exact s b u e
theorem same_new {H H2 : Hp} {p : Addr} {o : HO} (s : Same H H2) (hp : H2 p = none) : Same H (upd H2 p o) := same_upd (s.free hp) s
theorem same_at {H : Hp} {p : Addr} {o : HO} (hp : H p = none) : Same H (upd H p o) := same_new (Same.refl H) hp
theorem sqT_same {K : PySem.W.Frag} {H H' : Hp} {a : Addr} {xs : List V} (e : Same H H') (h : SqT K H a xs) : SqT K H' a xs := by
  rcases h with (h | ⟨o, h⟩) | h
  · exact .inl (.inl (e _ _ h))
  · exact .inl (.inr ⟨o, e _ _ h⟩)
  · exact .inr h
theorem small60 {n : Nat} (h : n ≤ 1000000) : n ≤ sizeLine := Nat.le_trans h (by decide)
theorem small60' {n : Nat} (h : n ≤ 1000000) : n < sizeLine := Nat.lt_of_le_of_lt h (by decide)
theorem hu8 {A : Around} {k : Nat} (hr : Room k A) : A.units + 8 < cLine := Nat.lt_of_le_of_lt (Nat.add_le_add_left (by decide : 8 ≤ 64) _) hr.units
/-- a list's item by a reckoned index -/
theorem atI_of {α : Type} {xs : List α} {i : Int} {n : Nat} {x : α} (hi : i = (n : Int)) (h : xs[n]? = some x) : atI xs i = some x := by
  subst hi
  have hn : n < xs.length := (List.getElem?_eq_some_iff.mp h).1
  unfold atI ixN
  rw [if_pos (Int.natCast_nonneg n), if_pos (by omega)]
  simpa using h
/-! ### tests -/
theorem itd {c A B : Prop} [Decidable c] (hc : c) (h : A) : if decide c = true then A else B := by rw [if_pos (decide_eq_true hc)]; exact h
theorem itdn {c A B : Prop} [Decidable c] (hc : ¬ c) (h : B) : if decide c = true then A else B := by rw [if_neg (by simp [hc])]; exact h
theorem itn {c A B : Prop} [Decidable c] (hc : c) (h : B) : if (!decide c) = true then A else B := by rw [if_neg (by simp [hc])]; exact h
theorem itnn {c A B : Prop} [Decidable c] (hc : ¬ c) (h : A) : if (!decide c) = true then A else B := by rw [if_pos (by simp [hc])]; exact h
theorem itd2 {c A B : Prop} [Decidable c] (h1 : c → A) (h2 : ¬ c → B) : if decide c = true then A else B := by
  by_cases h : c
  · exact itd h (h1 h)
  · exact itdn h (h2 h)
theorem itn2 {c A B : Prop} [Decidable c] (h1 : c → B) (h2 : ¬ c → A) : if (!decide c) = true then A else B := by
  by_cases h : c
  · exact itn h (h1 h)
  · exact itnn h (h2 h)
theorem itb {b : Bool} {A B : Prop} (h1 : b = true → A) (h2 : b = false → B) : if b = true then A else B := by
  cases b with
  | true => exact iteT (h1 rfl)
  | false => exact iteF (h2 rfl)
theorem itnb {b : Bool} {A B : Prop} (h1 : b = true → B) (h2 : b = false → A) : if (!b) = true then A else B := by
  cases b with
  | true => exact iteF (h1 rfl)
  | false => exact iteT (h2 rfl)
/-! ### lists or tuples -/
/-- a list (false) or a tuple (true) -/
def SqK (k : Bool) (K : PySem.W.Frag) (H : Hp) (a : Addr) (xs : List V) : Prop := match k with
  | false => SqL K H a xs
  | true => SqT K H a xs
theorem SqK.same {k : Bool} {K : PySem.W.Frag} {H H' : Hp} {a : Addr} {xs : List V} (e : Same H H') (h : SqK k K H a xs) : SqK k K H' a xs := by
  cases k with
  | false => exact e.seq h
  | true => exact sqT_same e h
theorem SqK.or {k : Bool} {K : PySem.W.Frag} {H : Hp} {a : Addr} {xs : List V} (h : SqK k K H a xs) : SqL K H a xs ∨ SqT K H a xs := by
  cases k with
  | false => exact .inl h
  | true => exact .inr h
def iSeq (K : PySem.W.Frag) (tl : TE) : TI := fun σ H R => tl σ H fun x H1 => ∃ a, x = .ref a ∧ (((∃ xs, SqL K H1 a xs) ∧ R (Itl K a) H1) ∨ ((∃ xs, SqT K H1 a xs) ∧ R (Itt K a) H1))
theorem pi_seq {X : Cx} {tg : Expr} {l : Expr} {tl : TE} (hl : PE X l tl) : PI X tg l (iSeq X.K tl) := by
  intro pins s σ H R I h
  refine thn (hl pins s σ H _ I h) fun v s1 ⟨x, H1, I1, r1, q1⟩ => ?_
  obtain ⟨a, e, q⟩ := q1
  subst e
  cases r1
  rcases q with ⟨⟨xs, hq⟩, q⟩ | ⟨⟨xs, hq⟩, q⟩
  · obtain ⟨its, rv, p, hz⟩ := I1.list hq
    refine wpAny_pyIter_list p.isList ?_
    refine ⟨s1.heap.objs.size, [s1.heap.objs.size], _, _, H1, rfl, I1.kept (t' := s1.toks) fun b o e => Heap.get?_push_of_some _ e, turn_list a _, ⟨_, Heap.get?_push_size _ rfl, rfl, rfl⟩, fun b hb => ?_, q⟩
    have e : b = s1.heap.objs.size := by simpa using hb
    subst e
    exact I1.fpOk (Nat.le_refl _) (I1.hok.fresh (Nat.le_refl _))
  · obtain ⟨its, rv, p, hz⟩ := I1.tuple hq
    refine wpAny_pyIter_tuple (show s1.heap.IsTuple a its.toArray from p) ?_
    refine ⟨s1.heap.objs.size, [s1.heap.objs.size], _, _, H1, rfl, I1.kept (t' := s1.toks) fun b o e => Heap.get?_push_of_some _ e, turn_tuple a _, ⟨_, Heap.get?_push_size _ rfl, rfl, rfl⟩, fun b hb => ?_, q⟩
    have e : b = s1.heap.objs.size := by simpa using hb
    subst e
    exact I1.fpOk (Nat.le_refl _) (I1.hok.fresh (Nat.le_refl _))
/-- a loop over a list or a tuple that the body leaves as it is -/
theorem for_seq {K : PySem.W.Frag} {k : Bool} {a : Addr} {xs : List V} {g : TG} {tb : TS} {D : Ends} {σ : St} {H : Hp} (Pv : Nat → St → Hp → Prop) (h0 : Pv 0 σ H) (hl : ∀ i σ H, i ≤ xs.length → Pv i σ H → SqK k K H a xs)
    (hs : ∀ i x σ H, xs[i]? = some x → Pv i σ H → g x σ H fun σ2 H2 => tb { D with nx := Pv (i + 1), ct := Pv (i + 1), bk := D.nx } σ2 H2) (hd : ∀ σ H, Pv xs.length σ H → D.nx σ H) :
    (((∃ xs, SqL K H a xs) ∧ ∃ W : Nat → Nat → St → Hp → Prop, (∃ m, W 0 m σ H) ∧ ∀ i m σ H, W i m σ H →
      ((Itl K a).stop i H ∧ D.nx σ H) ∨ ((Itl K a).go i H ∧ ∃ N : St → Hp → Prop, (∀ σ' H', N σ' H' → ∃ m', m' < m ∧ W (i + 1) m' σ' H') ∧ ∀ x H', (Itl K a).yld i H x H' → g x σ H' fun σ2 H2 => tb { D with nx := N, ct := N, bk := D.nx } σ2 H2)) ∨
     ((∃ xs, SqT K H a xs) ∧ ∃ W : Nat → Nat → St → Hp → Prop, (∃ m, W 0 m σ H) ∧ ∀ i m σ H, W i m σ H →
      ((Itt K a).stop i H ∧ D.nx σ H) ∨ ((Itt K a).go i H ∧ ∃ N : St → Hp → Prop, (∀ σ' H', N σ' H' → ∃ m', m' < m ∧ W (i + 1) m' σ' H') ∧ ∀ x H', (Itt K a).yld i H x H' → g x σ H' fun σ2 H2 => tb { D with nx := N, ct := N, bk := D.nx } σ2 H2))) := by
  cases k with
  | false => exact .inl ⟨⟨xs, hl 0 σ H (Nat.zero_le _) h0⟩, for_list (K := K) (a := a) (xs := xs) Pv h0 hl hs hd⟩
  | true => exact .inr ⟨⟨xs, hl 0 σ H (Nat.zero_le _) h0⟩, for_tup (K := K) (a := a) (xs := xs) Pv h0 hl hs hd⟩
/-! ### pairs of ints -/
def PairV (H : Hp) (v : V) (p : Int × Int) : Prop := ∃ t, v = .ref t ∧ H t = some (.tup [.int p.1, .int p.2])
def PairsV (H : Hp) (xs : List V) (ps : List (Int × Int)) : Prop := xs.length = ps.length ∧ ∀ (i : Nat) (p : Int × Int), ps[i]? = some p → ∃ v, xs[i]? = some v ∧ PairV H v p
theorem PairV.same {H H' : Hp} {v : V} {p : Int × Int} (s : Same H H') (h : PairV H v p) : PairV H' v p := let ⟨t, e, q⟩ := h; ⟨t, e, s _ _ q⟩
theorem PairsV.same {H H' : Hp} {xs : List V} {ps : List (Int × Int)} (s : Same H H') (h : PairsV H xs ps) : PairsV H' xs ps := ⟨h.1, fun i p e => let ⟨v, e1, q⟩ := h.2 i p e; ⟨v, e1, q.same s⟩⟩
theorem PairsV.at {H : Hp} {xs : List V} {ps : List (Int × Int)} (h : PairsV H xs ps) {i : Nat} {v : V} (e : xs[i]? = some v) : ∃ p, ps[i]? = some p ∧ PairV H v p := by
  have hi : i < xs.length := (List.getElem?_eq_some_iff.mp e).1
  have hp : i < ps.length := by rw [← h.1]; exact hi
  obtain ⟨v', e1, q⟩ := h.2 i ps[i] (List.getElem?_eq_getElem hp)
  rw [e] at e1
  cases e1
  exact ⟨_, List.getElem?_eq_getElem hp, q⟩
theorem PairsV.nil {H : Hp} : PairsV H [] [] := ⟨rfl, fun i p e => by simp at e⟩
theorem PairsV.snoc {H : Hp} {xs : List V} {ps : List (Int × Int)} {v : V} {p : Int × Int} (h : PairsV H xs ps) (q : PairV H v p) : PairsV H (xs ++ [v]) (ps ++ [p]) := by
  refine ⟨by rw [List.length_append, List.length_append, h.1]; rfl, fun i p' e => ?_⟩
  by_cases hi : i < ps.length
  · rw [List.getElem?_append_left hi] at e
    rw [List.getElem?_append_left (by rw [h.1]; exact hi)]
    exact h.2 i p' e
  · have hl : i = ps.length := by
      have := (List.getElem?_eq_some_iff.mp e).1
      rw [List.length_append, List.length_singleton] at this
      omega
    subst hl
    rw [List.getElem?_append_right (Nat.le_refl _), Nat.sub_self] at e
    rw [List.getElem?_append_right (by rw [h.1]; exact Nat.le_refl _), h.1, Nat.sub_self]
    have e' : p = p' := Option.some.inj e
    subst e'
    exact ⟨v, rfl, q⟩
/-! ### a Web -/
theorem pt_ne : ¬ (("places" : Str) = "ties") := by decide +kernel
def wf (n : Int) (tl : Addr) : List (Str × V) := putF "ties" (.ref tl) (putF "places" (.int n) [])
theorem wf_places (n : Int) (tl : Addr) : (wf n tl).lookup ("places" : Str) = some (.int n) := by
  unfold wf
  rw [lookup_putF, if_neg pt_ne, lookup_putF, if_pos rfl]
theorem wf_ties (n : Int) (tl : Addr) : (wf n tl).lookup ("ties" : Str) = some (.ref tl) := by
  unfold wf
  rw [lookup_putF, if_pos rfl]
/-- a Web of n places stands at w, its ties ps -/
def WebAt (C : Addr) (H : Hp) (w : Addr) (n : Int) (ps : List (Int × Int)) : Prop := ∃ dx tl xs, H w = some (.ins C dx (wf n tl)) ∧ H tl = some (.lst xs) ∧ PairsV H xs ps
theorem WebAt.same {C : Addr} {H H' : Hp} {w : Addr} {n : Int} {ps : List (Int × Int)} (s : Same H H') (h : WebAt C H w n ps) : WebAt C H' w n ps := let ⟨dx, tl, xs, a, b, c⟩ := h; ⟨dx, tl, xs, s _ _ a, s _ _ b, c.same s⟩
/-- what a web keeps to -/
def GoodW (n : Int) (ps : List (Int × Int)) : Prop := 1 ≤ n ∧ n ≤ 14 ∧ ps.length ≤ 30 ∧ ∀ p ∈ ps, 0 ≤ p.1 ∧ p.1 < n ∧ 0 ≤ p.2 ∧ p.2 < n
/-! ### what the top has made -/
def FX (K : PySem.W.Frag) (mg : Str → Option Value) (x qual : Str) (st : Stmt) : Prop := ∃ (f : Addr) (fd : FuncData), mg x = some (.ref f) ∧ Fun K x qual st f fd
theorem fx_mk {K : PySem.W.Frag} {h : Heap} {mg : Str → Option Value} {x : Str} {st : Stmt} {f : Addr} {oc : Value} {od an : Option Addr} {osl : Array (Option Value)} {kV doc pm cdv ct : Value} (X : K.In h) (G : h.Ns mainGlobals mg)
    (a : PySem.W.nsIn K mainGlobals x = some (some (.ref f))) (l : K.lookup f = some ⟨oc, od, .func (PySem.W.fnOf x x (defArgs st) (defBody st) (defScope st) .none kV doc pm an cdv ct), osl⟩) (c : PySem.W.codeIn K cdv x = true) (k : PySem.W.keepIn K (.ref f) = true) : FX K mg x x st :=
  ⟨f, _, PySem.W.mg_of X G a, fun_mk l c k⟩
def CXF (K : PySem.W.Frag) (mg : Str → Option Value) (x qual : Str) (st : Stmt) (fs : List Str) : Prop := ∃ (C f : Addr) (fd : FuncData), mg x = some (.ref C) ∧ Fun K "__init__" qual st f fd ∧ Cls K C ∧ Mk K C f ∧ ∀ a ∈ fs, NoAttr K C a
theorem cx_mk {K : PySem.W.Frag} {h : Heap} {mg : Str → Option Value} {x qual : Str} {fs : List Str} {st : Stmt} {C f : Addr} {oc : Value} {od an : Option Addr} {osl : Array (Option Value)} {kV doc pm cdv ct : Value} (X : K.In h) (G : h.Ns mainGlobals mg)
    (aC : PySem.W.nsIn K mainGlobals x = some (some (.ref C))) (a : PySem.W.findIn K (.ref C) "__init__" = some (some (.ref f))) (i : PySem.W.isFn K (.ref f) = true)
    (l : K.lookup f = some ⟨oc, od, .func (PySem.W.fnOf "__init__" qual (defArgs st) (defBody st) (defScope st) .none kV doc pm an cdv ct), osl⟩) (c : PySem.W.codeIn K cdv qual = true) (k : PySem.W.keepIn K (.ref f) = true)
    (pg : PySem.W.plainGet K C Str.empty = true) (hd : PySem.W.hasDictIn K C = true) (po : PySem.W.plainOver K C = true) (sa : PySem.W.findIn K (.ref C) "__setattr__" = some (some (.builtin "object.__setattr__"))) (mk : PySem.W.makesIn K C = true) (kc : PySem.W.keepIn K (.ref C) = true)
    (na : ∀ a ∈ fs, PySem.W.findIn K (.ref C) a = some none) : CXF K mg x qual st fs :=
  ⟨C, f, _, PySem.W.mg_of X G aC, fun_mk l c k, ⟨pg, hd, po, sa⟩, ⟨mk, a, i, kc⟩, na⟩
theorem const_mk {K : PySem.W.Frag} {h : Heap} {mg : Str → Option Value} {x : Str} {z : Int} {v : Value} (X : K.In h) (G : h.Ns mainGlobals mg) (a : PySem.W.nsIn K mainGlobals x = some (some v)) (e : ∃ tk, v = .int z tk) : ∃ tk, mg x = some (.int z tk) := by
  obtain ⟨tk, rfl⟩ := e
  exact ⟨tk, PySem.W.mg_of X G a⟩
end My

/-! ## comprehensions: the forms one uses -/
namespace My
open PySem L2
theorem nmY {i : Nat} {x : V} {σ : St} {H : Hp} {A B : St → Hp → Prop} (h : A (σ.set i (some x)) H) : gName i x σ H fun σ2 H2 => tYes σ2 H2 fun b H3 => if b = true then A σ2 H3 else B σ2 H3 :=
  (show if true = true then A (σ.set i (some x)) H else B (σ.set i (some x)) H from iteT h)
theorem nm {i : Nat} {x : V} {σ : St} {H : Hp} {Q : St → Hp → Prop} (h : Q (σ.set i (some x)) H) : gName i x σ H Q := h
section
variable {K : PySem.W.Frag} {a : Addr} {xs : List V} {g : TG} {tt : TT} {te : TE} {o : Nat} {fr : List Nat} {σ : St} {H : Hp} {Q : VK}
/-- what a turn wants, by an invariant over turn, items so far, heap -/
abbrev LcTurn (Pv : Nat → List V → Hp → Prop) (g : TG) (tt : TT) (te : TE) (o : Nat) (fr : List Nat) (σ : St) (i : Nat) (x : V) (ys : List V) (H : Hp) : Prop :=
  ∀ S : Nat → List V → Hp → Prop, (∀ ys H, Pv (i + 1) ys H → S (i + 1) ys H) → g x (σC o fr σ) H fun σ2 H2 => tt σ2 H2 fun b H3 => if b = true then te σ2 H3 fun y H4 => S (i + 1) (ys ++ [y]) H4 else S (i + 1) ys H3
theorem lc_list (Pv : Nat → List V → Hp → Prop) (h0 : Pv 0 [] H) (hz : xs.length < sizeLine) (hl : ∀ i ys H, i ≤ xs.length → Pv i ys H → SqL K H a xs ∧ ys.length ≤ i)
    (hs : ∀ i x ys H, xs[i]? = some x → Pv i ys H → LcTurn Pv g tt te o fr σ i x ys H) (hd : ∀ ys H, Pv xs.length ys H → ∀ p, H p = none → Q (.ref p) (upd H p (.lst ys))) : LcR (Itl K a) g tt te o fr σ H Q := by
  refine ⟨fun i m ys H => m = xs.length - i ∧ i ≤ xs.length ∧ Pv i ys H, ⟨xs.length, by simp, Nat.zero_le _, h0⟩, ?_⟩
  rintro i m ys H ⟨rfl, hi, p⟩
  obtain ⟨q, hy⟩ := hl i ys H hi p
  by_cases hlt : i < xs.length
  · refine .inr ⟨⟨xs, xs[i], q, by simp [hlt]⟩, by omega, fun x H' ⟨e, y⟩ => ?_⟩
    subst e
    have hx := y xs q
    exact hs i x ys _ hx p (fun j ys H => ∃ m', m' < xs.length - i ∧ m' = xs.length - j ∧ j ≤ xs.length ∧ Pv j ys H) fun ys H p' => ⟨xs.length - (i + 1), by omega, rfl, hlt, p'⟩
  · have e : i = xs.length := by omega
    subst e
    exact .inl ⟨⟨xs, q, Nat.le_refl _⟩, by omega, hd ys H p⟩
theorem lc_tup (Pv : Nat → List V → Hp → Prop) (h0 : Pv 0 [] H) (hz : xs.length < sizeLine) (hl : ∀ i ys H, i ≤ xs.length → Pv i ys H → SqT K H a xs ∧ ys.length ≤ i)
    (hs : ∀ i x ys H, xs[i]? = some x → Pv i ys H → LcTurn Pv g tt te o fr σ i x ys H) (hd : ∀ ys H, Pv xs.length ys H → ∀ p, H p = none → Q (.ref p) (upd H p (.lst ys))) : LcR (Itt K a) g tt te o fr σ H Q := by
  refine ⟨fun i m ys H => m = xs.length - i ∧ i ≤ xs.length ∧ Pv i ys H, ⟨xs.length, by simp, Nat.zero_le _, h0⟩, ?_⟩
  rintro i m ys H ⟨rfl, hi, p⟩
  obtain ⟨q, hy⟩ := hl i ys H hi p
  by_cases hlt : i < xs.length
  · refine .inr ⟨⟨xs, xs[i], q, by simp [hlt]⟩, by omega, fun x H' ⟨e, y⟩ => ?_⟩
    subst e
    have hx := y xs q
    exact hs i x ys _ hx p (fun j ys H => ∃ m', m' < xs.length - i ∧ m' = xs.length - j ∧ j ≤ xs.length ∧ Pv j ys H) fun ys H p' => ⟨xs.length - (i + 1), by omega, rfl, hlt, p'⟩
  · have e : i = xs.length := by omega
    subst e
    exact .inl ⟨⟨xs, q, Nat.le_refl _⟩, by omega, hd ys H p⟩
theorem lc_seq {k : Bool} (Pv : Nat → List V → Hp → Prop) (h0 : Pv 0 [] H) (hz : xs.length < sizeLine) (hl : ∀ i ys H, i ≤ xs.length → Pv i ys H → SqK k K H a xs ∧ ys.length ≤ i)
    (hs : ∀ i x ys H, xs[i]? = some x → Pv i ys H → LcTurn Pv g tt te o fr σ i x ys H) (hd : ∀ ys H, Pv xs.length ys H → ∀ p, H p = none → Q (.ref p) (upd H p (.lst ys))) :
    ((∃ xs, SqL K H a xs) ∧ LcR (Itl K a) g tt te o fr σ H Q) ∨ ((∃ xs, SqT K H a xs) ∧ LcR (Itt K a) g tt te o fr σ H Q) := by
  cases k with
  | false => exact .inl ⟨⟨xs, (hl 0 [] H (Nat.zero_le _) h0).1⟩, lc_list Pv h0 hz hl hs hd⟩
  | true => exact .inr ⟨⟨xs, (hl 0 [] H (Nat.zero_le _) h0).1⟩, lc_tup Pv h0 hz hl hs hd⟩
end
end My
namespace My
open PySem L2
theorem nodup_get {α : Type} {l : List α} (h : l.Nodup) {i j : Nat} {x : α} (a : l[i]? = some x) (b : l[j]? = some x) : i = j := by
  obtain ⟨h1, e1⟩ := List.getElem?_eq_some_iff.mp a
  obtain ⟨h2, e2⟩ := List.getElem?_eq_some_iff.mp b
  exact (List.getElem_inj h).mp (e1.trans e2.symm)
theorem getD_of {α : Type} {l : List α} {i : Nat} {x d : α} (h : l[i]? = some x) : l.getD i d = x := by rw [List.getD_eq_getElem?_getD, h]; rfl
theorem nd_snoc {α : Type} {l : List α} {x : α} (h : l.Nodup) (hx : x ∉ l) : (l ++ [x]).Nodup := by
  rw [List.nodup_append]
  refine ⟨h, by simp, fun a ha b hb => ?_⟩
  rw [List.mem_singleton] at hb
  subst hb
  rintro rfl
  exact hx ha
/-- for i, x in enumerate(a list that the body leaves as it is): a new pair at each turn -/
theorem for_enum {K : PySem.W.Frag} {a : Addr} {xs : List V} {g : TG} {tb : TS} {D : Ends} {σ : St} {H : Hp} (Pv : Nat → St → Hp → Prop) (h0 : Pv 0 σ H) (hl : ∀ i σ H, i ≤ xs.length → Pv i σ H → SqL K H a xs)
    (hs : ∀ (i : Nat) x σ H (p : Addr), H p = none → xs[i]? = some x → Pv i σ H → g (.ref p) σ (upd H p (.tup [.int i, x])) fun σ2 H2 => tb { D with nx := Pv (i + 1), ct := Pv (i + 1), bk := D.nx } σ2 H2) (hd : ∀ σ H, Pv xs.length σ H → D.nx σ H) :
    ∃ W : Nat → Nat → St → Hp → Prop, (∃ m, W 0 m σ H) ∧ ∀ i m σ H, W i m σ H →
      ((Ite K a).stop i H ∧ D.nx σ H) ∨ ((Ite K a).go i H ∧ ∃ N : St → Hp → Prop, (∀ σ' H', N σ' H' → ∃ m', m' < m ∧ W (i + 1) m' σ' H') ∧ ∀ x H', (Ite K a).yld i H x H' → g x σ H' fun σ2 H2 => tb { D with nx := N, ct := N, bk := D.nx } σ2 H2) := by
  refine ⟨fun i m σ H => m = xs.length - i ∧ i ≤ xs.length ∧ Pv i σ H, ⟨xs.length, by simp, Nat.zero_le _, h0⟩, ?_⟩
  rintro i m σ H ⟨rfl, hi, p⟩
  have q := hl i σ H hi p
  by_cases hlt : i < xs.length
  · refine .inr ⟨⟨xs, xs[i], q, by simp [hlt]⟩, Pv (i + 1), fun σ' H' p' => ⟨xs.length - (i + 1), by omega, rfl, hlt, p'⟩, fun x H' ⟨T, y, hT, ex, eH, hy⟩ => ?_⟩
    subst ex eH
    exact hs i y σ H T hT (hy xs q) p
  · have e : i = xs.length := by omega
    subst e
    exact .inl ⟨⟨xs, q, Nat.le_refl _⟩, hd σ H p⟩
end My
namespace My
open PySem L2
end My

/-! ## the rules that name the written part, with it named apart (for a comprehension's block) -/
namespace L2
open PySem PySem.Spec PyProof.Rows
section
variable {X : Cx} {a b o e : Expr} {es : List Expr} {ta tb te to : TE} {t : TA} {pos : Pos}
theorem ix_listK (K : PySem.W.Frag) (h : X.K = K := by rfl) : IxR X (rIxL K) := h ▸ ix_list
theorem ix_tupK (K : PySem.W.Frag) (h : X.K = K := by rfl) : IxR X (rIxT K) := h ▸ ix_tup
theorem sl_listK (K : PySem.W.Frag) (h : X.K = K := by rfl) : SlR X (rSlL K) := h ▸ sl_list
theorem op_inK (K : PySem.W.Frag) (h : X.K = K := by rfl) : OpR X (compareOp .In) (fun x y H Q => ∃ p xs, y = .ref p ∧ (SqL K H p xs ∨ SqT K H p xs) ∧ flatV x = true ∧ xs.all flatV = true ∧ Q (.bl (inV x xs)) H) := h ▸ op_in_seq
theorem op_eqDK (K : PySem.W.Frag) (hu : X.A.units + 8 < cLine) (h : X.K = K := by rfl) : OpR X (compareOp .Eq) (rEqD K false) := h ▸ op_eqD hu
theorem op_neDK (K : PySem.W.Frag) (hu : X.A.units + 8 < cLine) (h : X.K = K := by rfl) : OpR X (compareOp .NotEq) (rEqD K true) := h ▸ op_neD hu
theorem op_catTK (K : PySem.W.Frag) (h : X.K = K := by rfl) : OpR X (binaryOp .Add) (rCatT K) := h ▸ op_catT
theorem pe_fldK (K : PySem.W.Frag) {f : Str} (he : PE X e ta) (hb : attributeBase e f X.env (eval e X.env) = eval e X.env) (h : X.K = K := by rfl) : PE X (.Attribute e f pos) (tFld K ta f) := h ▸ pe_fld he hb
theorem call_lenK (K : PySem.W.Frag) (h : X.K = K := by rfl) : CallR X (.builtin "len") (fun xs H Q => ∃ p ys, xs = [.ref p] ∧ (SqL K H p ys ∨ SqT K H p ys) ∧ Q (.int ys.length) H) := h ▸ call_len_seq
theorem call_listK (K : PySem.W.Frag) (h : X.K = K := by rfl) : CallR X (.type "list") (fun xs H Q => ∃ p ys, xs = [.ref p] ∧ (SqL K H p ys ∨ SqT K H p ys) ∧ ∀ l, H l = none → Q (.ref l) (upd H l (.lst ys))) := h ▸ call_list_of
theorem call_tupleK (K : PySem.W.Frag) (h : X.K = K := by rfl) : CallR X (.type "tuple") (fun xs H Q => ∃ p ys, xs = [.ref p] ∧ ((SqL K H p ys ∧ ∀ l, H l = none → Q (.ref l) (upd H l (.tup ys))) ∨ (SqT K H p ys ∧ Q (.ref p) H))) := h ▸ call_tuple_of
theorem call_sumK (K : PySem.W.Frag) (hc : X.calm = true) (h : X.K = K := by rfl) : CallR X (.builtin "sum") (fun xs H Q => ∃ (p : Addr) (ns : List Int), xs = [.ref p] ∧ SqL K H p (ns.map V.int) ∧ Q (.int ns.sum) H) := h ▸ call_sum_ints hc
theorem call_isiK (K : PySem.W.Frag) {T : String} (h : X.K = K := by rfl) : CallR X (.builtin "isinstance") (fun xs H Q => ∃ x t b, xs = [x, .ty T] ∧ TyOf K H x t ∧ PySem.W.kitOne K t (.type T) = some b ∧ Q (.bl b) H) := h ▸ call_isi
theorem pi_listK (K : PySem.W.Frag) {tg : Expr} {l : Expr} {tl : TE} (hl : PE X l tl) (h : X.K = K := by rfl) : PI X tg l (iList K tl) := h ▸ pi_list hl
theorem pi_tupK (K : PySem.W.Frag) {tg : Expr} {l : Expr} {tl : TE} (hl : PE X l tl) (h : X.K = K := by rfl) : PI X tg l (iTup K tl) := h ▸ pi_tup hl
theorem pi_seqK (K : PySem.W.Frag) {tg : Expr} {l : Expr} {tl : TE} (hl : PE X l tl) (h : X.K = K := by rfl) : PI X tg l (My.iSeq K tl) := h ▸ My.pi_seq hl
theorem pi_enumK (K : PySem.W.Frag) {elts : List Expr} {x1 : Nat} {tpos : Pos} {a : Expr} {ta : TA} {p pos : Pos} (hg : Gl X "enumerate") (hm : X.mg "enumerate" = none) (ha : PA X [a] ta) (hs : starEach [a] X.env = [(false, eval a X.env)] := by rfl) (h : X.K = K := by rfl) :
    PI X (.Tuple elts x1 tpos) (.Call (.Name "enumerate" p) [a] [] pos) (iEnum K ta) := h ▸ pi_enum hg hm ha hs
theorem pg_tupK (K : PySem.W.Frag) {es : List Expr} {k : Nat} {t : TGs} {n : Nat} (hc : X.calm = true) (ht : PGs X es t)
    (hn : (assignEach es X.env).length = n := by rfl) (hst : (assignEach es X.env).findIdx? (·.1) = none := by rfl) (h : X.K = K := by rfl) : PG X (.Tuple es k pos) (gTup K n t) := h ▸ pg_tup hc ht hn hst
theorem pe_bmK (K : PySem.W.Frag) {name : Str} {apos cpos : Pos} {T id : String} {r : V → List V → Hp → VK → Prop} (pa : PlainAttrs T) (slot : Slot T name id) (hty : typeOf (.builtin id) = pure (.type "method_descriptor")) (hm : MtR X id r) (ho : PE X o to) (ha : PA X (e :: es) t)
    (hbase : attributeBase o name X.env (eval o X.env) = eval o X.env := by rfl)
    (hfew : ((backTo cpos (starEach (e :: es) X.env)).all (fun x => !x.1) && (backToKw cpos (keywordEach [] X.env)).all (fun x => x.1.isSome)
      && decide ((e :: es).length + ([] : List Keyword).length + (if ([] : List Keyword).isEmpty then 0 else 1) < 30)) = true := by rfl)
    (hline : (apos.endLine == cpos.line) = true := by rfl) (hs : starEach (e :: es) X.env = (false, eval e X.env) :: starEach es X.env := by rfl) (hplain : (backTo cpos (starEach es X.env)).any (·.1) = false := by rfl) (h : X.K = K := by rfl) :
    PE X (.Call (.Attribute o name apos) (e :: es) [] cpos) (tBM K T r to t) := h ▸ pe_bm pa slot hty hm ho ha hbase hfew hline hs hplain
theorem pe_bm0K (K : PySem.W.Frag) {name : Str} {apos cpos : Pos} {T id : String} {r : V → List V → Hp → VK → Prop} (pa : PlainAttrs T) (slot : Slot T name id) (hty : typeOf (.builtin id) = pure (.type "method_descriptor")) (hm : MtR X id r) (ho : PE X o to)
    (hbase : attributeBase o name X.env (eval o X.env) = eval o X.env := by rfl) (hline : (apos.endLine == cpos.line) = true := by rfl) (h : X.K = K := by rfl) : PE X (.Call (.Attribute o name apos) [] [] cpos) (tBM0 K T r to) := h ▸ pe_bm0 pa slot hty hm ho hbase hline
end
end L2

/-! ## marks: two ways to join, one partition -/
namespace My
/-- the mark at a place -/
abbrev mk (m : List Int) (i : Nat) : Int := m.getD i 0
/-- the program's step: the greater mark gives way -/
def pm (m : List Int) (a b : Nat) : List Int :=
  if min (mk m a) (mk m b) < max (mk m a) (mk m b) then m.map (fun k => if k = max (mk m a) (mk m b) then min (mk m a) (mk m b) else k) else m
/-- the other step: the second mark gives way -/
def lm (m : List Int) (a b : Nat) : List Int :=
  if mk m a ≠ mk m b then m.map (fun k => if k = mk m b then mk m a else k) else m
/-- the places fall alike -/
def SameP (m l : List Int) : Prop := m.length = l.length ∧ ∀ i j, i < m.length → j < m.length → (mk m i = mk m j ↔ mk l i = mk l j)
theorem mk_map (m : List Int) (f : Int → Int) {i : Nat} (h : i < m.length) : mk (m.map f) i = f (mk m i) := by
  simp [mk, List.getD_eq_getElem?_getD, List.getElem?_map, List.getElem?_eq_getElem h]
theorem pm_length (m : List Int) (a b : Nat) : (pm m a b).length = m.length := by unfold pm; split <;> simp
theorem lm_length (m : List Int) (a b : Nat) : (lm m a b).length = m.length := by unfold lm; split <;> simp
/-- two places are alike behind a step -/
def Mrg (m : List Int) (a b i j : Nat) : Prop := mk m i = mk m j ∨ ((mk m i = mk m a ∨ mk m i = mk m b) ∧ (mk m j = mk m a ∨ mk m j = mk m b))
theorem pm_iff {m : List Int} {a b i j : Nat} (hi : i < m.length) (hj : j < m.length) : mk (pm m a b) i = mk (pm m a b) j ↔ Mrg m a b i j := by
  unfold pm Mrg
  split
  · rename_i h
    rw [mk_map _ _ hi, mk_map _ _ hj]
    generalize mk m i = x at *
    generalize mk m j = y at *
    generalize mk m a = p at *
    generalize mk m b = q at *
    by_cases hpq : p < q
    · rw [Int.min_eq_left (by omega), Int.max_eq_right (by omega)]
      split <;> split <;> omega
    · rw [Int.min_eq_right (by omega), Int.max_eq_left (by omega)] at *
      split <;> split <;> omega
  · rename_i h
    generalize mk m i = x at *
    generalize mk m j = y at *
    generalize mk m a = p at *
    generalize mk m b = q at *
    omega
theorem lm_iff {m : List Int} {a b i j : Nat} (hi : i < m.length) (hj : j < m.length) : mk (lm m a b) i = mk (lm m a b) j ↔ Mrg m a b i j := by
  unfold lm Mrg
  split
  · rename_i h
    rw [mk_map _ _ hi, mk_map _ _ hj]
    generalize mk m i = x at *
    generalize mk m j = y at *
    generalize mk m a = p at *
    generalize mk m b = q at *
    split <;> split <;> omega
  · rename_i h
    generalize mk m i = x at *
    generalize mk m j = y at *
    generalize mk m a = p at *
    generalize mk m b = q at *
    omega
theorem SameP.step {m l : List Int} (s : SameP m l) {a b : Nat} (ha : a < m.length) (hb : b < m.length) : SameP (pm m a b) (lm l a b) := by
  obtain ⟨hl, h⟩ := s
  refine ⟨by rw [pm_length, lm_length, hl], fun i j hi hj => ?_⟩
  rw [pm_length] at hi hj
  rw [pm_iff hi hj, lm_iff (by omega) (by omega)]
  unfold Mrg
  rw [h i j hi hj, h i a hi ha, h i b hi hb, h j a hj ha, h j b hj hb]
/-- the marks behind a row of ties (their ends) -/
def pms (n : Nat) (es : List (Nat × Nat)) : List Int := es.foldl (fun m e => pm m e.1 e.2) ((List.range n).map fun (i : Nat) => (i : Int))
def lms (n : Nat) (es : List (Nat × Nat)) : List Int := es.foldl (fun m e => lm m e.1 e.2) ((List.range n).map fun (i : Nat) => (i : Int))
theorem pms_length (n : Nat) (es : List (Nat × Nat)) : (pms n es).length = n := by
  have : ∀ (es : List (Nat × Nat)) (m : List Int), (es.foldl (fun m e => pm m e.1 e.2) m).length = m.length := by
    intro es
    induction es with
    | nil => intro m; rfl
    | cons e es ih => intro m; rw [List.foldl_cons, ih, pm_length]
  unfold pms; rw [this]; simp
theorem lms_length (n : Nat) (es : List (Nat × Nat)) : (lms n es).length = n := by
  have : ∀ (es : List (Nat × Nat)) (m : List Int), (es.foldl (fun m e => lm m e.1 e.2) m).length = m.length := by
    intro es
    induction es with
    | nil => intro m; rfl
    | cons e es ih => intro m; rw [List.foldl_cons, ih, lm_length]
  unfold lms; rw [this]; simp
theorem pms_snoc (n : Nat) (es : List (Nat × Nat)) (e : Nat × Nat) : pms n (es ++ [e]) = pm (pms n es) e.1 e.2 := by unfold pms; rw [List.foldl_append]; rfl
theorem lms_snoc (n : Nat) (es : List (Nat × Nat)) (e : Nat × Nat) : lms n (es ++ [e]) = lm (lms n es) e.1 e.2 := by unfold lms; rw [List.foldl_append]; rfl
theorem same_pms {n : Nat} : ∀ {es : List (Nat × Nat)}, (∀ e ∈ es, e.1 < n ∧ e.2 < n) → SameP (pms n es) (lms n es) := by
  intro es
  have key : ∀ (es : List (Nat × Nat)) (m l : List Int), SameP m l → m.length = n → (∀ e ∈ es, e.1 < n ∧ e.2 < n) → SameP (es.foldl (fun m e => pm m e.1 e.2) m) (es.foldl (fun m e => lm m e.1 e.2) l) := by
    intro es
    induction es with
    | nil => intro m l s _ _; exact s
    | cons e es ih =>
      intro m l s hm he
      have h1 := he e List.mem_cons_self
      exact ih _ _ (s.step (by omega) (by omega)) (by rw [pm_length]; exact hm) fun x hx => he x (List.mem_cons_of_mem _ hx)
  exact key es _ _ ⟨rfl, fun i j _ _ => Iff.rfl⟩ (by simp)
end My

/-! ## places by their marks -/
namespace My
def gstep (g : List (Int × List Int)) (place k : Int) : List (Int × List Int) :=
  if k ∈ g.map (·.1) then g.map (fun kv => if kv.1 = k then (kv.1, kv.2 ++ [place]) else kv) else g ++ [(k, [place])]
def grpA (M : List Int) : Nat → List (Int × List Int)
  | 0 => []
  | i + 1 => gstep (grpA M i) (i : Int) (mk M i)
def grp (M : List Int) : List (Int × List Int) := grpA M M.length
theorem gstep_keys (g : List (Int × List Int)) (p k : Int) : (gstep g p k).map (·.1) = if k ∈ g.map (·.1) then g.map (·.1) else g.map (·.1) ++ [k] := by
  unfold gstep
  split
  · rw [List.map_map]
    refine List.map_congr_left fun kv _ => ?_
    show (if kv.1 = k then (kv.1, kv.2 ++ [p]) else kv).1 = kv.1
    split <;> rfl
  · simp
theorem gstep_nodup {g : List (Int × List Int)} {p k : Int} (h : (g.map (·.1)).Nodup) : ((gstep g p k).map (·.1)).Nodup := by
  rw [gstep_keys]
  split
  · exact h
  · rename_i hk
    rw [List.nodup_append]
    refine ⟨h, by simp, fun a ha b hb => ?_⟩
    rw [List.mem_singleton] at hb
    subst hb
    rintro rfl
    exact hk ha
theorem grpA_nodup (M : List Int) : ∀ i, ((grpA M i).map (·.1)).Nodup
  | 0 => by simp [grpA]
  | i + 1 => gstep_nodup (grpA_nodup M i)
/-- what stands in the groups -/
theorem grpA_mem (M : List Int) : ∀ i kv, kv ∈ grpA M i → ∀ z : Int, z ∈ kv.2 ↔ (0 ≤ z ∧ z < (i : Int) ∧ mk M z.toNat = kv.1)
  | 0, kv, h, z => by simp [grpA] at h
  | i + 1, kv, h, z => by
    unfold grpA gstep at h
    split at h
    · rename_i hk
      obtain ⟨kv0, h0, e⟩ := List.mem_map.mp h
      have ih := grpA_mem M i kv0 h0 z
      by_cases hc : kv0.1 = mk M i
      · rw [if_pos hc] at e
        subst e
        rw [List.mem_append, ih, List.mem_singleton]
        constructor
        · rintro (⟨a, b, c⟩ | rfl)
          · exact ⟨a, by omega, c⟩
          · exact ⟨by omega, by omega, by simpa using hc.symm⟩
        · rintro ⟨a, b, c⟩
          by_cases hz : z < (i : Int)
          · exact .inl ⟨a, hz, c⟩
          · exact .inr (by omega)
      · rw [if_neg hc] at e
        subst e
        rw [ih]
        constructor
        · rintro ⟨a, b, c⟩; exact ⟨a, by omega, c⟩
        · rintro ⟨a, b, c⟩
          refine ⟨a, ?_, c⟩
          by_cases hz : z < (i : Int)
          · exact hz
          · have e : z.toNat = i := by omega
            rw [e] at c
            exact absurd c.symm hc
    · rename_i hk
      rcases List.mem_append.mp h with h0 | h0
      · have ih := grpA_mem M i kv h0 z
        rw [ih]
        constructor
        · rintro ⟨a, b, c⟩; exact ⟨a, by omega, c⟩
        · rintro ⟨a, b, c⟩
          refine ⟨a, ?_, c⟩
          by_cases hz : z < (i : Int)
          · exact hz
          · have e : z.toNat = i := by omega
            rw [e] at c
            exact absurd (List.mem_map.mpr ⟨kv, h0, c.symm⟩) hk
      · rw [List.mem_singleton] at h0
        subst h0
        simp only [List.mem_singleton]
        constructor
        · rintro rfl; exact ⟨by omega, by omega, by simp⟩
        · rintro ⟨a, b, c⟩
          by_cases hz : z < (i : Int)
          · exfalso
            have key := grpA_key M i z.toNat (by omega)
            rw [c] at key
            exact hk key
          · omega
where
  grpA_key (M : List Int) : ∀ i j, j < i → mk M j ∈ (grpA M i).map (·.1)
    | 0, j, h => absurd h (Nat.not_lt_zero j)
    | i + 1, j, h => by
      show mk M j ∈ (gstep (grpA M i) (i : Int) (mk M i)).map (·.1)
      rw [gstep_keys]
      by_cases hj : j < i
      · have := grpA_key M i j hj
        split
        · exact this
        · exact List.mem_append_left _ this
      · have e : j = i := by omega
        subst e
        split
        · assumption
        · simp
theorem grpA_key {M : List Int} {i j : Nat} (h : j < i) : mk M j ∈ (grpA M i).map (·.1) := grpA_mem.grpA_key M i j h
theorem grpA_of_key (M : List Int) : ∀ i k, k ∈ (grpA M i).map (·.1) → ∃ j, j < i ∧ mk M j = k
  | 0, k, h => by simp [grpA] at h
  | i + 1, k, h => by
    have h : k ∈ (gstep (grpA M i) (i : Int) (mk M i)).map (·.1) := h
    rw [gstep_keys] at h
    have old : k ∈ (grpA M i).map (·.1) → ∃ j, j < i + 1 ∧ mk M j = k := fun q => by
      obtain ⟨j, hj, e⟩ := grpA_of_key M i k q
      exact ⟨j, by omega, e⟩
    split at h
    · exact old h
    · rcases List.mem_append.mp h with q | q
      · exact old q
      · rw [List.mem_singleton] at q
        exact ⟨i, by omega, q.symm⟩
/-- one group just where all places are alike -/
theorem grp_one {M : List Int} (hM : 1 ≤ M.length) : (grp M).length = 1 ↔ ∀ i j, i < M.length → j < M.length → mk M i = mk M j := by
  unfold grp
  constructor
  · intro h i j hi hj
    obtain ⟨kv, e⟩ := List.length_eq_one_iff.mp h
    have h1 := grpA_key (M := M) hi
    have h2 := grpA_key (M := M) hj
    rw [e] at h1 h2
    rw [List.map_singleton, List.mem_singleton] at h1 h2
    rw [h1, h2]
  · intro h
    have nd := grpA_nodup M M.length
    have h0 := grpA_key (M := M) (i := M.length) (j := 0) (by omega)
    generalize hg : (grpA M M.length) = g at *
    match g, hg with
    | [], _ => simp at h0
    | [kv], _ => rfl
    | a :: b :: r, hg =>
      exfalso
      obtain ⟨i, hi, e1⟩ := grpA_of_key M M.length a.1 (by rw [hg]; simp)
      obtain ⟨j, hj, e2⟩ := grpA_of_key M M.length b.1 (by rw [hg]; simp)
      have e3 := h i j hi hj
      have : a.1 = b.1 := by rw [← e1, ← e2, e3]
      simp [this] at nd
/-- one value in a list just where all are alike -/
theorem SameP.one {m l : List Int} (s : SameP m l) : (∀ i j, i < m.length → j < m.length → mk m i = mk m j) ↔ (∀ i j, i < l.length → j < l.length → mk l i = mk l j) := by
  obtain ⟨hl, h⟩ := s
  rw [← hl]
  constructor
  · intro q i j hi hj; exact (h i j hi hj).mp (q i j hi hj)
  · intro q i j hi hj; exact (h i j hi hj).mpr (q i j hi hj)
end My
namespace My
theorem grpA_len {M : List Int} : ∀ {i : Nat} {kv : Int × List Int}, kv ∈ grpA M i → kv.2.length ≤ i
  | 0, kv, h => by simp [grpA] at h
  | i + 1, kv, h => by
    unfold grpA gstep at h
    split at h
    · obtain ⟨kv0, h0, e⟩ := List.mem_map.mp h
      have ih := grpA_len h0
      by_cases hc : kv0.1 = mk M i
      · rw [if_pos hc] at e
        subst e
        rw [List.length_append, List.length_singleton]
        omega
      · rw [if_neg hc] at e
        subst e
        omega
    · rcases List.mem_append.mp h with h0 | h0
      · have ih := grpA_len h0
        omega
      · rw [List.mem_singleton] at h0
        subst h0
        simp
end My

/-! ## sets of ints, in, isinstance -/
namespace My
open PySem L2 PyProof.Rows
theorem kit_same {K : PySem.W.Frag} {t : Value} : PySem.W.kitOne K t t = some true := by
  unfold PySem.W.kitOne
  rw [if_pos (beq_self_eq_true t)]
theorem dec_int {a b : Int} : decide (V.int a = V.int b) = decide (a = b) := by
  by_cases h : a = b
  · subst h; simp
  · have h' : ¬ V.int a = V.int b := fun z => h (V.int.inj z)
    rw [decide_eq_false h, decide_eq_false h']
theorem dec_bl {a b : Bool} : decide (V.bl a = V.bl b) = decide (a = b) := by
  by_cases h : a = b
  · subst h; simp
  · have h' : ¬ V.bl a = V.bl b := fun z => h (V.bl.inj z)
    rw [decide_eq_false h, decide_eq_false h']
end My

/-! ## own words about sets of ties, marks and groups -/
namespace My
open PySem L2
/-! from is_set.txt -/
/-- ascending numbers of ties -/
def IsSet (m : Nat) (ns : List Int) : Prop := ∀ i z, ns[i]? = some z → 0 ≤ z ∧ z < (m : Int) ∧ ∀ y, i ≠ 0 → ns[i - 1]? = some y → y < z
/-! from piece_marks.txt -/
/-- the ends of ties -/
def endsOf (ps : List (Int × Int)) (ns : List Int) : List (Nat × Nat) := ns.map fun z => ((ps.getD z.toNat (0, 0)).1.toNat, (ps.getD z.toNat (0, 0)).2.toNat)
theorem endsOf_snoc {ps : List (Int × Int)} {ns : List Int} {i : Nat} {z : Int} (h : ns[i]? = some z) : endsOf ps (ns.take (i + 1)) = endsOf ps (ns.take i) ++ [((ps.getD z.toNat (0, 0)).1.toNat, (ps.getD z.toNat (0, 0)).2.toNat)] := by
  unfold endsOf
  rw [List.take_succ, h]
  simp
theorem mk_some {m : List Int} {i : Nat} (h : i < m.length) : m[i]? = some (mk m i) := by
  rw [List.getElem?_eq_getElem h]
  simp [mk, List.getD_eq_getElem?_getD, List.getElem?_eq_getElem h]
theorem rngI_zero (n : Int) : rngI 0 n = (List.range n.toNat).map fun (i : Nat) => (i : Int) := by
  unfold rngI
  rw [Int.sub_zero]
  refine List.map_congr_left fun i _ => ?_
  omega
/-! from pieces_of.txt -/
/-- a dict of groups: as the addresses of its lists -/
def gkv (g : List (Int × List Int)) (as : List Addr) : List (Key × V) := List.zipWith (fun kv a => ((Sum.inl kv.1 : Key), V.ref a)) g as
theorem gkv_length {g : List (Int × List Int)} {as : List Addr} (h : as.length = g.length) : (gkv g as).length = g.length := by unfold gkv; rw [List.length_zipWith]; omega
theorem gkv_snd : ∀ {g : List (Int × List Int)} {as : List Addr}, as.length = g.length → (gkv g as).map (·.2) = as.map V.ref
  | [], [], _ => rfl
  | [], _ :: _, h => by simp at h
  | _ :: _, [], h => by simp at h
  | kv :: g, a :: as, h => by
    show V.ref a :: (gkv g as).map (·.2) = V.ref a :: as.map V.ref
    rw [gkv_snd (Nat.succ.inj h)]
theorem gkv_keys : ∀ {g g' : List (Int × List Int)} {as : List Addr}, g.map (·.1) = g'.map (·.1) → gkv g as = gkv g' as
  | [], [], _, _ => rfl
  | [], _ :: _, _, h => by simp at h
  | _ :: _, [], _, h => by simp at h
  | kv :: g, kv' :: g', [], _ => rfl
  | kv :: g, kv' :: g', a :: as, h => by
    rw [List.map_cons, List.map_cons, List.cons.injEq] at h
    show ((Sum.inl kv.1 : Key), V.ref a) :: gkv g as = ((Sum.inl kv'.1 : Key), V.ref a) :: gkv g' as
    rw [h.1, gkv_keys h.2]
theorem gkv_snoc : ∀ {g : List (Int × List Int)} {as : List Addr} {kv : Int × List Int} {a : Addr}, as.length = g.length → gkv (g ++ [kv]) (as ++ [a]) = gkv g as ++ [((Sum.inl kv.1 : Key), V.ref a)]
  | [], [], _, _, _ => rfl
  | [], _ :: _, _, _, h => by simp at h
  | _ :: _, [], _, _, h => by simp at h
  | x :: g, y :: as, kv, a, h => by
    show _ :: gkv (g ++ [kv]) (as ++ [a]) = _ :: (gkv g as ++ _)
    rw [gkv_snoc (Nat.succ.inj h)]
theorem gkv_val : ∀ {g : List (Int × List Int)} {as : List Addr} {k : Int}, as.length = g.length →
    (valV (gkv g as) (Sum.inl k : Key) = none ∧ k ∉ g.map (·.1)) ∨ ∃ (j : Nat) (kv : Int × List Int) (a : Addr), g[j]? = some kv ∧ as[j]? = some a ∧ kv.1 = k ∧ valV (gkv g as) (Sum.inl k : Key) = some (.ref a)
  | [], [], k, _ => .inl ⟨rfl, by simp⟩
  | [], _ :: _, _, h => by simp at h
  | _ :: _, [], _, h => by simp at h
  | kv :: g, a :: as, k, h => by
    by_cases e : kv.1 = k
    · refine .inr ⟨0, kv, a, rfl, rfl, e, ?_⟩
      show valV (((Sum.inl kv.1 : Key), V.ref a) :: gkv g as) _ = _
      rw [valV_pos (by rw [e])]
    · have e' : ¬ ((Sum.inl kv.1 : Key) = Sum.inl k) := fun z => e (Sum.inl.inj z)
      have ev : valV (gkv (kv :: g) (a :: as)) (Sum.inl k : Key) = valV (gkv g as) (Sum.inl k : Key) := valV_neg (p := ((Sum.inl kv.1 : Key), V.ref a)) e'
      rcases gkv_val (g := g) (as := as) (k := k) (Nat.succ.inj h) with ⟨h1, h2⟩ | ⟨j, kv', a', h1, h2, h3, h4⟩
      · refine .inl ⟨by rw [ev]; exact h1, ?_⟩
        rw [List.map_cons, List.mem_cons]
        rintro (z | z)
        · exact e z.symm
        · exact h2 z
      · exact .inr ⟨j + 1, kv', a', by simpa using h1, by simpa using h2, h3, by rw [ev]; exact h4⟩
/-- the groups' lists stand apart, and none of them stood ahead of the call -/
structure GrpAt (H0 H : Hp) (g : List (Int × List Int)) (as : List Addr) : Prop where
  len : as.length = g.length
  nd : as.Nodup
  at_ : ∀ (i : Nat) (kv : Int × List Int) (a : Addr), g[i]? = some kv → as[i]? = some a → H a = some (.lst (IL kv.2))
  new : ∀ a ∈ as, H0 a = none
theorem GrpAt.same {H0 H H' : Hp} {g : List (Int × List Int)} {as : List Addr} (s : Same H H') (h : GrpAt H0 H g as) : GrpAt H0 H' g as := ⟨h.len, h.nd, fun i kv a e1 e2 => s _ _ (h.at_ i kv a e1 e2), h.new⟩
theorem GrpAt.mem {H0 H : Hp} {g : List (Int × List Int)} {as : List Addr} (h : GrpAt H0 H g as) {a : Addr} (ha : a ∈ as) : ∃ l, H a = some (.lst l) := by
  obtain ⟨i, hi, e⟩ := List.getElem_of_mem ha
  have hg : i < g.length := by rw [← h.len]; exact hi
  exact ⟨_, h.at_ i g[i] a (List.getElem?_eq_getElem hg) (by rw [List.getElem?_eq_getElem hi, e])⟩
theorem IsSet.all {m : Nat} {ns : List Int} (h : IsSet m ns) : ∀ z ∈ ns, 0 ≤ z ∧ z < (m : Int) := fun z hz => by
  obtain ⟨i, hi, e⟩ := List.getElem_of_mem hz
  obtain ⟨a, b, _⟩ := h i z (by rw [List.getElem?_eq_getElem hi, e])
  exact ⟨a, b⟩
/-! from _law_some.txt -/
theorem IsSet.nil (m : Nat) : IsSet m [] := fun i z e => by simp at e
theorem IsSet.len {m : Nat} : ∀ {ns : List Int}, IsSet m ns → ns.length ≤ m := fun {ns} h => by
  have key : ∀ (i : Nat) (z : Int), ns[i]? = some z → (i : Int) ≤ z := by
    intro i
    induction i with
    | zero => intro z e; exact (h 0 z e).1
    | succ i ih =>
      intro z e
      have hi : i < ns.length := by have := (List.getElem?_eq_some_iff.mp e).1; omega
      have e2 : ns[i]? = some ns[i] := List.getElem?_eq_getElem hi
      have := ih _ e2
      have := (h (i + 1) z e).2.2 ns[i] (by omega) (by rw [Nat.add_sub_cancel]; exact e2)
      omega
  by_cases h0 : ns.length = 0
  · omega
  · have e : ns[ns.length - 1]? = some (ns[ns.length - 1]'(by omega)) := List.getElem?_eq_getElem _
    have a := key _ _ e
    have b := (h _ _ e).2.1
    omega
end My

/-! ## list.index, all and any over a list of bools, == of known data -/
namespace L2
open PySem PySem.Spec PyProof.Rows
section
variable {X : Cx}
end
end L2
namespace My
open PySem L2
section
variable {K : PySem.W.Frag} {H : Hp} {α : Type} [DecidableEq α]
/-- the values bear the data, place by place -/
def Bears (R : V → α → Prop) (xs : List V) (l : List α) : Prop := xs.length = l.length ∧ ∀ (i : Nat) (a : α), l[i]? = some a → ∃ x, xs[i]? = some x ∧ R x a
theorem Bears.at {R : V → α → Prop} {xs : List V} {l : List α} (h : Bears R xs l) {i : Nat} {x : V} (e : xs[i]? = some x) : ∃ a, l[i]? = some a ∧ R x a := by
  have hi : i < xs.length := (List.getElem?_eq_some_iff.mp e).1
  have hl : i < l.length := by rw [← h.1]; exact hi
  obtain ⟨x', e1, q⟩ := h.2 i l[i] (List.getElem?_eq_getElem hl)
  rw [e] at e1
  cases e1
  exact ⟨_, List.getElem?_eq_getElem hl, q⟩
theorem all_dec {l m : List α} (h : l.length = m.length) : (List.range l.length).all (fun i => decide (l[i]? = m[i]?)) = decide (l = m) := by
  rw [Bool.eq_iff_iff, List.all_eq_true, decide_eq_true_iff]
  constructor
  · intro q
    refine List.ext_getElem? fun i => ?_
    by_cases hi : i < l.length
    · exact of_decide_eq_true (q i (List.mem_range.mpr hi))
    · rw [List.getElem?_eq_none (by omega), List.getElem?_eq_none (by omega)]
  · rintro rfl i _
    simp
theorem eqd_lists {R : V → α → Prop} {n : Nat} {p q : Addr} {xs ys : List V} {l m : List α} (hp : SqL K H p xs) (hq : SqL K H q ys) (h1 : Bears R xs l) (h2 : Bears R ys m) (hR : ∀ x y a b, R x a → R y b → EqD K H n x y (decide (a = b))) : EqD K H (n + 1) (.ref p) (.ref q) (decide (l = m)) := by
  by_cases hl : xs.length = ys.length
  · have e := all_dec (l := l) (m := m) (by rw [← h1.1, ← h2.1, hl])
    rw [← e, ← h1.1]
    refine EqD.lsts hp hq hl fun i x y ex ey => ?_
    obtain ⟨a, ea, ra⟩ := h1.at ex
    obtain ⟨b, eb, rb⟩ := h2.at ey
    rw [ea, eb, show decide (some a = some b) = decide (a = b) by simp]
    exact hR x y a b ra rb
  · have e : decide (l = m) = false := decide_eq_false fun z => hl (by rw [h1.1, h2.1, z])
    rw [e]
    exact EqD.lens hp hq hl
theorem eqd_tups {R : V → α → Prop} {n : Nat} {p q : Addr} {xs ys : List V} {l m : List α} (hp : SqT K H p xs) (hq : SqT K H q ys) (h1 : Bears R xs l) (h2 : Bears R ys m) (hR : ∀ x y a b, R x a → R y b → EqD K H n x y (decide (a = b))) : EqD K H (n + 1) (.ref p) (.ref q) (decide (l = m)) := by
  have key := EqD.tups (e := fun i => decide (l[i]? = m[i]?)) hp hq fun i x y ex ey => by
    obtain ⟨a, ea, ra⟩ := h1.at ex
    obtain ⟨b, eb, rb⟩ := h2.at ey
    rw [ea, eb, show decide (some a = some b) = decide (a = b) by simp]
    exact hR x y a b ra rb
  by_cases hl : xs.length = ys.length
  · have e := all_dec (l := l) (m := m) (by rw [← h1.1, ← h2.1, hl])
    rw [← hl, Nat.min_self, h1.1, e, show (l.length == l.length) = true by simp, Bool.and_true] at key
    exact key
  · have e : decide (l = m) = false := decide_eq_false fun z => hl (by rw [h1.1, h2.1, z])
    rw [show (xs.length == ys.length) = false by simpa using hl, Bool.and_false] at key
    rw [e]
    exact key
theorem bears_ints (ns : List Int) : Bears (fun x (z : Int) => x = .int z) (IL ns) ns := ⟨il_length ns, fun i z e => ⟨_, il_at e, rfl⟩⟩
theorem eqd_int {n : Nat} {x y : V} {a b : Int} (hx : x = .int a) (hy : y = .int b) : EqD K H n x y (decide (a = b)) := by
  subst hx hy
  have e : decide (a = b) = eqV (.int a) (.int b) := by
    show decide (a = b) = (a == b)
    rw [Bool.beq_eq_decide_eq]
  rw [e]
  exact EqD.flat rfl rfl
theorem eqd_ints {p q : Addr} {ns ms : List Int} (hp : SqL K H p (IL ns)) (hq : SqL K H q (IL ms)) : EqD K H 1 (.ref p) (.ref q) (decide (ns = ms)) :=
  eqd_lists hp hq (bears_ints ns) (bears_ints ms) fun _ _ _ _ => eqd_int
theorem eqd_tints {p q : Addr} {ns ms : List Int} (hp : SqT K H p (IL ns)) (hq : SqT K H q (IL ms)) : EqD K H 1 (.ref p) (.ref q) (decide (ns = ms)) :=
  eqd_tups hp hq (bears_ints ns) (bears_ints ms) fun _ _ _ _ => eqd_int
end
end My

/-! ## the groups by first places -/
namespace My
def fstB (M : List Int) (p : Nat) : Bool := (List.range p).all fun i => decide (mk M i ≠ mk M p)
def posA (M : List Int) (k : Int) (i : Nat) : List Int := ((List.range i).filter fun j => decide (mk M j = k)).map fun (j : Nat) => (j : Int)
def fstA (M : List Int) (i : Nat) : List Nat := (List.range i).filter (fstB M)
theorem fstB_iff {M : List Int} {p : Nat} : fstB M p = true ↔ ∀ i, i < p → mk M i ≠ mk M p := by
  unfold fstB
  rw [List.all_eq_true]
  constructor
  · intro h i hi; exact of_decide_eq_true (h i (List.mem_range.mpr hi))
  · intro h i hi; exact decide_eq_true (h i (List.mem_range.mp hi))
theorem posA_succ (M : List Int) (k : Int) (i : Nat) : posA M k (i + 1) = posA M k i ++ (if mk M i = k then [(i : Int)] else []) := by
  unfold posA
  rw [List.range_succ, List.filter_append, List.map_append]
  congr 1
  by_cases h : mk M i = k
  · rw [if_pos h, List.filter_cons, if_pos (by simpa using h)]; rfl
  · rw [if_neg h, List.filter_cons, if_neg (by simpa using h)]; rfl
theorem fstA_succ (M : List Int) (i : Nat) : fstA M (i + 1) = fstA M i ++ (if fstB M i = true then [i] else []) := by
  unfold fstA
  rw [List.range_succ, List.filter_append]
  congr 1
  by_cases h : fstB M i = true
  · rw [if_pos h, List.filter_cons, if_pos h]; rfl
  · rw [if_neg h, List.filter_cons, if_neg h]; rfl
theorem grpA_eq (M : List Int) : ∀ i, grpA M i = (fstA M i).map fun p => (mk M p, posA M (mk M p) i)
  | 0 => rfl
  | i + 1 => by
    have ih := grpA_eq M i
    show gstep (grpA M i) (i : Int) (mk M i) = _
    have hk : (mk M i ∈ (grpA M i).map (·.1)) ↔ fstB M i ≠ true := by
      constructor
      · intro h q
        obtain ⟨j, hj, e⟩ := grpA_of_key M i _ h
        exact fstB_iff.mp q j hj e
      · intro h
        by_cases q : ∃ j, j < i ∧ mk M j = mk M i
        · obtain ⟨j, hj, e⟩ := q
          rw [← e]
          exact grpA_key hj
        · exact absurd (fstB_iff.mpr fun j hj e => q ⟨j, hj, e⟩) h
    unfold gstep
    by_cases h : mk M i ∈ (grpA M i).map (·.1)
    · have hf := hk.mp h
      rw [if_pos h, fstA_succ, if_neg hf, List.append_nil, ih, List.map_map]
      refine List.map_congr_left fun p _ => ?_
      show (if mk M p = mk M i then (mk M p, posA M (mk M p) i ++ [(i : Int)]) else (mk M p, posA M (mk M p) i)) = (mk M p, posA M (mk M p) (i + 1))
      rw [posA_succ]
      by_cases e : mk M p = mk M i
      · rw [if_pos e, if_pos e.symm]
      · rw [if_neg e, if_neg (fun z => e z.symm), List.append_nil]
    · have hf : fstB M i = true := by
        cases q : fstB M i with
        | true => rfl
        | false => exact absurd (hk.mpr (by rw [q]; exact Bool.false_ne_true)) h
      rw [if_neg h, fstA_succ, if_pos hf, List.map_append, ih]
      congr 1
      · refine List.map_congr_left fun p hp => ?_
        have hpi : p < i := List.mem_range.mp (List.mem_filter.mp hp).1
        rw [posA_succ, if_neg (fun z => fstB_iff.mp hf p hpi z.symm), List.append_nil]
      · show [(mk M i, [(i : Int)])] = [(mk M i, posA M (mk M i) (i + 1))]
        rw [posA_succ, if_pos rfl]
        have e0 : posA M (mk M i) i = [] := by
          unfold posA
          rw [List.filter_eq_nil_iff.mpr fun j hj => by simpa using fstB_iff.mp hf j (List.mem_range.mp hj)]
          rfl
        rw [e0]
        rfl
end My

/-! ## more own words -/
namespace My
open PySem L2
theorem Bears.snoc {α : Type} [DecidableEq α] {R : V → α → Prop} {xs : List V} {l : List α} {x : V} {a : α} (h : Bears R xs l) (hx : R x a) : Bears R (xs ++ [x]) (l ++ [a]) := by
  refine ⟨by rw [List.length_append, List.length_append, h.1]; rfl, fun i b e => ?_⟩
  by_cases hi : i < l.length
  · rw [List.getElem?_append_left hi] at e
    rw [List.getElem?_append_left (by rw [h.1]; exact hi)]
    exact h.2 i b e
  · have hl : i = l.length := by
      have := (List.getElem?_eq_some_iff.mp e).1
      rw [List.length_append, List.length_singleton] at this
      omega
    subst hl
    rw [List.getElem?_append_right (Nat.le_refl _), Nat.sub_self] at e
    rw [List.getElem?_append_right (by rw [h.1]; exact Nat.le_refl _), h.1, Nat.sub_self]
    have e' : a = b := Option.some.inj e
    subst e'
    exact ⟨x, rfl, hx⟩
theorem Bears.imp {α : Type} [DecidableEq α] {R R' : V → α → Prop} {xs : List V} {l : List α} (h : Bears R xs l) (f : ∀ x a, R x a → R' x a) : Bears R' xs l := ⟨h.1, fun i a e => let ⟨x, e1, r⟩ := h.2 i a e; ⟨x, e1, f x a r⟩⟩
end My

/-! ## exceptions of own classes: raised, passing a def, caught by a try -/
namespace L2
open PySem PySem.Spec PyProof.Rows
theorem ObjOk.there {P : Program} {w : World} {H : Hp} {h : Heap} {a : Addr} {o : HO} (x : ObjOk P w H h a o) : ∃ u, h.get? a = some u := by
  cases o with
  | lst xs => obtain ⟨_, _, _, _, e⟩ := x; exact ⟨_, e⟩
  | tup xs => obtain ⟨_, _, _, o, e, _⟩ := x; exact ⟨_, e⟩
  | dK kvs => obtain ⟨_, _, _, _, o, _, _, e, _⟩ := x; exact ⟨_, e⟩
  | dT kvs => obtain ⟨_, _, _, _, o, _, _, e, _⟩ := x; exact ⟨_, e⟩
  | set S n => obtain ⟨o, _, _, _, e, _⟩ := x; exact ⟨_, e⟩
  | ins C dx fs => obtain ⟨_, _, _, e, _⟩ := x; exact ⟨_, e⟩
  | own y => exact x
  | xd fs => obtain ⟨_, ⟨_, _, _, e, _⟩, _⟩ := x; exact ⟨_, e⟩
  | rng lo hi => obtain ⟨_, _, _, e⟩ := x; exact ⟨_, e⟩
  | frz ob u => obtain ⟨e, _⟩ := x; exact ⟨_, e⟩
  | tbl ps => exact ⟨_, x⟩
  | met f y => exact ⟨_, x⟩
  | ext φ => obtain ⟨_, e, _⟩ := x; exact e
/-- an exception in flight at e, of the class C: it and its last entry are new and not tracked -/
structure Fly (h0 : Heap) (H : Hp) (e C : Addr) (h : Heap) : Prop where
  ex : ∃ oe vs T oT ts a0, h.get? e = some oe ∧ oe.cls = .ref C ∧ oe.data = .fields vs ∧ vs[0]? = some a0 ∧ vs[1]? = some (.ref T) ∧ T ≠ e ∧ h.get? T = some oT ∧ oT.data = .fields ts ∧ ts[3]? = some .none ∧ h0.get? T = none ∧ H T = none
  new : h0.get? e = none
  free : H e = none
/-- how it lies behind a call -/
def CXW (P : Program) (w : World) : CXT := fun outer H s E ev s' => ∃ (e C : Addr) (H' : Hp), ev = Value.ref e ∧ s'.os = s.os ∧ AllBare s'.gens ∧ Un (frs outer) [] H H' s.heap s'.heap ∧ HOk P w H' s'.heap ∧ Fly s.heap H' e C s'.heap ∧ E (.ref C) none H'
section
variable {X : Cx} {pins : List (Addr × Obj)} {σ : St} {H : Hp} {s : Shared} {e C : Addr}
/-- the ground that a step of an exception leaves as it is -/
abbrev grd (X : Cx) (h : Heap) (ns : List Addr) : Heap := PySem.W.hideAll h (frs X.stack ++ ns)
theorem grd_get {h : Heap} {ns : List Addr} {b : Addr} {o : Obj} (q : h.get? b = some o) (h1 : b ∉ frs X.stack) (h2 : b ∉ ns) : (grd X h ns).get? b = some o :=
  PySem.W.hideAll_get _ q fun z => (List.mem_append.mp z).elim h1 h2
theorem grd_of {h : Heap} {ns : List Addr} : (grd X h ns).StaysIn h := fun _ _ q => PySem.W.of_hideAll _ q
theorem Inv.was (I : Inv X pins σ H s) (hex : X.ex = []) {b : Addr} (h : s.heap.get? b = none) : X.s₀.heap.get? b = none := by
  cases q : X.s₀.heap.get? b with
  | none => rfl
  | some o =>
    obtain ⟨o', e⟩ := I.base.there b o q (by rw [hex]; simp)
    rw [h] at e; cases e
/-- what is kept where the ground stays -/
theorem hok_grd {P : Program} {w : World} {h' : Heap} {ns : List Addr} {h : Heap} (ok : HOk P w H h) (hf : ∀ b ∈ frs X.stack, H b = none) (hns : ∀ b ∈ ns, H b = none) (k : (grd X h ns).StaysIn h') : HOk P w H h' := fun a o q =>
  (ok a o q).stay (fun b u hb g => k b u (grd_get g (fun z => by
    have := hf b z
    rcases hb with rfl | hb
    · rw [q] at this; cases this
    · rw [hb] at this; cases this) fun z => by
    have := hns b z
    rcases hb with rfl | hb
    · rw [q] at this; cases this
    · rw [hb] at this; cases this)) (fun _ z => z) fun _ _ z => z
theorem frs_stack (hst : X.stack = X.env :: X.outer) (hfr : X.env.frame = some X.env.locals) : frs X.stack = X.env.locals :: frs X.outer := by
  rw [hst]
  unfold frs
  rw [List.filterMap_cons, hfr]
/-- behind the step by which it leaves the frame -/
theorem cx_left (hst : X.stack = X.env :: X.outer) (hfr : X.env.frame = some X.env.locals) (hex : X.ex = []) (I : Inv X pins σ H s) {ns : List Addr} (hns : ∀ b ∈ ns, X.s₀.heap.get? b = none ∧ H b = none) {h' : Heap} {a0 : Value} {E : XK} {s' : Shared}
    (hfl : Heap.FlyingW (grd X s.heap ns) X.outer e (.ref C) a0 h') (up : s.heap.UpToSlots h') (ne : X.s₀.heap.get? e = none) (fe : H e = none) (hE : E (.ref C) none H) (hs : s'.heap = h') (ho : s'.os = s.os) (hg : s'.gens = s.gens) :
    CXW X.prog X.w X.outer X.H₀ X.s₀ E (.ref e) s' := by
  subst hs
  have fst := frs_stack (X := X) hst hfr
  have noL : ∀ b o, X.s₀.heap.get? b = some o → b ≠ X.env.locals := fun b o q => Nat.ne_of_lt (Nat.lt_of_lt_of_le (Heap.lt_size q) I.ok.above)
  have nns : ∀ b o, X.s₀.heap.get? b = some o → b ∉ ns := fun b o q z => by rw [(hns b z).1] at q; cases q
  have nfs : ∀ b o, X.s₀.heap.get? b = some o → b ∉ frs X.outer → b ∉ frs X.stack := fun b o q n z => by
    rw [fst] at z
    rcases List.mem_cons.mp z with z | z
    · exact noL b o q z
    · exact n z
  have nex : ∀ b, b ∉ X.ex := fun b z => by rw [hex] at z; cases z
  have keep : ∀ b o u, X.s₀.heap.get? b = some o → b ∉ frs X.outer → s.heap.get? b = some u → s'.heap.get? b = some u := fun b o u q n g => hfl.1 b u (grd_get g (nfs b o q n) (nns b o q))
  have slot : ∀ b u, b ∈ frs X.outer → s.heap.get? b = some u → ∃ sl, s'.heap.get? b = some { u with slots := sl } := fun b u hb g => by
    obtain ⟨_, o', ho', hd⟩ := I.funs.mem hb
    rw [g] at ho'
    cases ho'
    exact up b u g hd
  refine ⟨e, C, H, rfl, ho.trans I.os, hg ▸ I.bare, ⟨fun b o q n hb _ => ?_, fun b o q n hb _ => ?_, fun b o q n _ => I.base.free b o q n (nex b), fun b o q _ => ?_, I.base.tups, I.base.frzs, I.base.tbls⟩, hok_grd I.hok I.stkFree (fun b hb => (hns b hb).2) hfl.1, ⟨?_, ne, fe⟩, hE⟩
  · exact keep b o o q hb (I.base.keep b o q n hb (nex b))
  · obtain ⟨sl, g⟩ := I.base.slot b o q n hb (nex b)
    obtain ⟨sl', g'⟩ := slot b _ hb g
    exact ⟨sl', g'⟩
  · obtain ⟨u, g⟩ := I.base.there b o q (nex b)
    by_cases hb : b ∈ frs X.outer
    · obtain ⟨sl, g'⟩ := slot b u hb g
      exact ⟨_, g'⟩
    · exact ⟨u, keep b o u q hb g⟩
  · obtain ⟨f1, f2, f3, oe, vs, T, oT, ts, he, ⟨hc, h0⟩, hd, h1, hnT, hTe, hT, hdT, h3⟩ := hfl
    refine ⟨oe, vs, T, oT, ts, a0, he, hc, hd, h0, h1, hTe, hT, hdT, h3, ?_, ?_⟩
    · cases q : X.s₀.heap.get? T with
      | none => rfl
      | some o =>
        obtain ⟨u, g⟩ := I.base.there T o q (nex T)
        by_cases hb : T ∈ frs X.outer
        · obtain ⟨_, o', ho', hd'⟩ := f3.mem hb
          rw [hT] at ho'
          cases ho'
          exact absurd hdT (hd' ts)
        · rw [grd_get g (nfs T o q hb) (nns T o q)] at hnT
          cases hnT
    · cases q : H T with
      | none => rfl
      | some ho =>
        obtain ⟨u, g⟩ := (I.hok T ho q).there
        rw [grd_get g (fun z => by rw [I.stkFree T z] at q; cases q) (fun z => by rw [(hns T z).2] at q; cases q)] at hnT
        cases hnT
theorem fly_base (hst : X.stack = X.env :: X.outer) (I : Inv X pins σ H s) {h0 : Heap} (F : Fly h0 H e C s.heap) : ∃ T a0, Heap.FlyingW (grd X s.heap [e, T]) X.stack e (.ref C) a0 s.heap ∧ h0.get? T = none ∧ H T = none := by
  obtain ⟨oe, vs, T, oT, ts, a0, he, hc, hd, h0', h1, hTe, hT, hdT, h3, nT, fT⟩ := F.ex
  refine ⟨T, a0, ⟨grd_of, PySem.W.hideAll_none _ (by simp), ?_, oe, vs, T, oT, ts, he, ⟨hc, h0'⟩, hd, h1, PySem.W.hideAll_none _ (by simp), hTe, hT, hdT, h3⟩, nT, fT⟩
  exact PySem.W.funFrames_hide I.stack fun env henv a hf => List.mem_append_left _ (List.mem_filterMap.mpr ⟨env, henv, hf⟩)
/-- it leaves the frame on its way -/
theorem leave_fly (hst : X.stack = X.env :: X.outer) (hfr : X.env.frame = some X.env.locals) (hex : X.ex = []) (I : Inv X pins σ H s) (F : Fly X.s₀.heap H e C s.heap) {E : XK} (hE : E (.ref C) none H) {E' : Value → Shared → Prop} :
    wpAny (model X.prog X.w) X.A (leaving X.env (.ref e)) (fun _ s'' => CXW X.prog X.w X.outer X.H₀ X.s₀ E (.ref e) s'') E' s := by
  obtain ⟨T, a0, fl, nT, fT⟩ := fly_base hst I F
  rw [hst] at fl
  refine wpAny_leaves_onW (by rw [I.ok.frames, hst]) hfr fl fun h' fl' up => ?_
  refine cx_left hst hfr hex I (fun b hb => ?_) fl' up F.new F.free hE rfl rfl rfl
  rcases List.mem_cons.mp hb with rfl | hb
  · exact ⟨F.new, F.free⟩
  · rw [List.mem_singleton.mp hb]; exact ⟨nT, fT⟩
/-- it is raised here and leaves the frame -/
theorem leave_made (hst : X.stack = X.env :: X.outer) (hfr : X.env.frame = some X.env.locals) (hex : X.ex = []) (I : Inv X pins σ H s) {h' : Heap} {vs : List Value} (hm : Heap.MadeExcOf s.heap h' e (.ref C) vs) {E : XK} (hE : E (.ref C) none H) {E' : Value → Shared → Prop} :
    wpAny (model X.prog X.w) X.A (leaving X.env (.ref e)) (fun _ s'' => CXW X.prog X.w X.outer X.H₀ X.s₀ E (.ref e) s'') E' { s with heap := h' } := by
  have ff : s.heap.FunFrames (grd X s.heap []) X.stack := PySem.W.funFrames_hide I.stack fun env henv a hf => List.mem_append_left _ (List.mem_filterMap.mpr ⟨env, henv, hf⟩)
  rw [hst] at ff
  refine wpAny_leaves_madeW (base := grd X s.heap []) (h := s.heap) (by rw [I.ok.frames, hst]) hfr grd_of ff hm fun h'' t fl _ _ up => ?_
  have fe : H e = none := by
    cases q : H e with
    | none => rfl
    | some ho =>
      obtain ⟨u, g⟩ := (I.hok e ho q).there
      rw [hm.new] at g
      cases g
  exact cx_left (s' := { s with heap := h'' }) hst hfr hex I (fun b hb => by cases hb) fl ((Heap.UpToSlots.of_keeps hm.keeps).trans up) (I.was hex hm.new) fe hE rfl rfl rfl
/-- the state behind a call that ended in an exception -/
theorem Inv.flown {E : XK} {ev : Value} {s' : Shared} (I : Inv X pins σ H s) (h : CXW X.prog X.w X.stack H s E ev s') : ∃ e C H', ev = Value.ref e ∧ Inv X pins σ H' s' ∧ Fly s.heap H' e C s'.heap ∧ E (.ref C) none H' := by
  obtain ⟨e, C, H', rfl, ho, hg, u, ok, F, hE⟩ := h
  exact ⟨e, C, H', rfl, I.call' (ch := []) ho u ok hg (fun _ z => nomatch z), F, hE⟩
theorem Fly.older {h0 h1 h : Heap} (F : Fly h0 H e C h) (k : ∀ b, h0.get? b = none → h1.get? b = none) : Fly h1 H e C h := by
  obtain ⟨oe, vs, T, oT, ts, a0, he, hc, hd, h0', h1', hTe, hT, hdT, h3, nT, fT⟩ := F.ex
  exact ⟨⟨oe, vs, T, oT, ts, a0, he, hc, hd, h0', h1', hTe, hT, hdT, h3, k _ nT, fT⟩, k _ F.new, F.free⟩
end
section
variable {P : Program} {w : World} {K : PySem.W.Frag} {mg : Str → Option Value} {base : Heap}
/-- a callee's exception passes a def -/
theorem pxs {N : List Str} {qual : Str} {scope : Scope} {f : Addr} {cd : Value} {A : Around} {outer : List Env} {s : Shared} {H : Hp} {E : XK} : Passes (CXW P w) (cxOf (CXW P w) P w K mg base N qual scope f cd A outer s H E) E := by
  intro pins σ H1 s1 ev s' I h
  obtain ⟨e, C, H', rfl, J, F, hE⟩ := I.flown h
  exact leave_fly rfl rfl rfl J (F.older fun b hb => I.was rfl hb) hE
/-- THE RULE for a def that may raise -/
theorem Fun.okX {x qual : Str} {st : Stmt} {f : Addr} {fd : FuncData} {N ps : List Str} {k : Nat} {sp : Sp} (F : Fun K x qual st f fd) (S : FnScope N ps (defScope st)) (len : ∀ vs H Q E, sp vs H Q E → vs.length = ps.length)
    (hbody : ∀ (cdv : Value) (A : Around) (outer : List Env) (s : Shared) (H : Hp) (vs : List V) (Q : VK) (E : XK), Room k (A.deeper (envOfC qual (defScope st) s.heap.objs.size f cdv)) → sp vs H Q E →
      ∃ t, PSs (cxOf (CXW P w) P w K mg base N qual (defScope st) f cdv A outer s H E) (defBody st) t ∧ t { nx := fun _ H' => Q .non H', rt := Q } (start N vs) H) : FnOk P w K mg base (CXW P w) (k + 1) f fd ps sp := by
  obtain ⟨oc, od, kV, doc, pm, an, cdv, ct, osl, rfl, lk, hcd⟩ := F.ex
  exact fn_of lk hcd S len fun A outer s H vs Q E hr hsp => hbody cdv A outer s H vs Q E hr hsp
end
/-- what of the text an own exception's class must have -/
structure XCls (K : PySem.W.Frag) (C : Addr) : Prop where
  ex : PySem.W.excIn K C [.type "ValueError", .type "Exception", .type "BaseException", .type "object"] "ValueError.__new__" = true
  ga : PySem.W.findIn K (.ref C) "__getattribute__" = some (some (.builtin "BaseException.__getattribute__"))
  gh : PySem.W.findIn K (.ref C) "__getattr__" = some none
  cl : PySem.W.findIn K (.ref C) "__class__" = some (some (.builtin "object.__class__"))
  ob : PySem.W.mroIn K C (.type "object") = some true
  bx : PySem.W.mroIn K C (.type "BaseException") = some true
theorem XCls.obj {K : PySem.W.Frag} {C : Addr} {h : Heap} (c : XCls K C) (X : K.In h) : ∃ bm N nm q bs hdct sn sub ab col dd k0 k1 k2 k3 k5 mN, h.get? C = some (excClassObj nm q C N bs bm hdct sn sub ab col dd k0 k1 k2 k3 k5 "ValueError.__new__") ∧ h.Ns N mN ∧ mN "__init__" = none ∧ OwnTail h [.type "ValueError", .type "Exception", .type "BaseException", .type "object"] bm := by
  have q := c.ex
  unfold PySem.W.excIn at q
  split at q
  · rename_i dd cd sl ho
    split at q
    · rename_i C' bm k0 k1 k2 k3 n k5 hm hs
      simp only [Bool.and_eq_true, beq_iff_eq, Bool.not_eq_true'] at q
      obtain ⟨⟨⟨⟨⟨rfl, rfl⟩, hdel⟩, ht⟩, hok⟩, hni⟩ := q
      obtain ⟨nm, bs, mro, ns, qn, hd, sn, sub, ab, col, del⟩ := cd
      dsimp only at hm hdel hok hni
      subst hm hdel
      have hsl : sl = #[k0, k1, k2, k3, some (.builtin "ValueError.__new__"), k5] := by
        obtain ⟨l⟩ := sl
        simp only at hs
        rw [hs]
      subst hsl
      exact ⟨bm, ns, nm, qn, bs, hd, sn, sub, ab, col, dd, k0, k1, k2, k3, k5, _, X _ _ ho, .of_isNs (PySem.W.isNs_of_in X hok), PySem.W.nsMap_none_of_in X hok hni, PySem.W.tail_of_in X ht⟩
    · cases q
  · cases q
/-- raise C(e, ..) -/
def tRaise (C : Addr) (E : XK) (t : TA) : TS := fun _ σ H => t σ H fun vs H1 => vs.length ≤ sizeLine ∧ E (.ref C) none H1
theorem ps_raise {P : Program} {w : World} {K : PySem.W.Frag} {mg : Str → Option Value} {base : Heap} {N : List Str} {qual : Str} {scope : Scope} {f : Addr} {cd : Value} {A : Around} {outer : List Env} {s0 : Shared} {H0 : Hp} {E : XK} {C : Addr} {x : Str} {np cpos pos : Pos} {e₀ : Expr} {rest : List Expr} {t : TA}
    (c : XCls K C) (hm : mg x = some (.ref C)) (ha : PA (cxOf (CXW P w) P w K mg base N qual scope f cd A outer s0 H0 E) (e₀ :: rest) t)
    (hg : Gl (cxOf (CXW P w) P w K mg base N qual scope f cd A outer s0 H0 E) x := by rfl) (hd : (x == ("__debug__" : Str)) = false := by decide)
    (he : starEach (e₀ :: rest) (cxOf (CXW P w) P w K mg base N qual scope f cd A outer s0 H0 E).env = (false, eval e₀ (cxOf (CXW P w) P w K mg base N qual scope f cd A outer s0 H0 E).env) :: starEach rest (cxOf (CXW P w) P w K mg base N qual scope f cd A outer s0 H0 E).env := by rfl)
    (hplain : (backTo cpos (starEach rest (cxOf (CXW P w) P w K mg base N qual scope f cd A outer s0 H0 E).env)).any (·.1) = false := by rfl) :
    PS (cxOf (CXW P w) P w K mg base N qual scope f cd A outer s0 H0 E) (.Raise (some (.Call (.Name x np) (e₀ :: rest) [] cpos)) none pos) (tRaise C E t) := by
  intro pins s σ H D I h
  obtain ⟨tl, NN, nm, q, bs, hdct, sn, sub, ab, col, dd, k0, k1, k2, k3, k5, mN, hC, hN, hni, T⟩ := c.obj I.ok.mod.kin
  refine wpAny_Raise_call_subT (C := C) (nm := nm) (q := q) (N := NN) (bs := bs) (bm := tl) (hdct := hdct) (sn := sn) (sub := sub) (ab := ab) (col := col) (dd := dd) (k0 := k0) (k1 := k1) (k2 := k2) (k3 := k3) (k5 := k5)
    PySem.F.excBase_ValueError (mN := mN) (T.hasType PySem.F.excBase_ValueError.hasBase) (I.ok.hd rfl) (by rw [he]; show (false || (backTo cpos (starEach rest _)).any (·.1)) = false; rw [hplain]; rfl) hni (ld_glob I hg hm ⟨rfl, ?_⟩ hd)
  have h := ha cpos pins s σ H _ I h
  rw [he] at h ⊢
  refine Calls.evalArgs_plain (wpAny_mono h (fun vs s₂ h₂ => ?_) fun _ _ y => y)
  obtain ⟨zs, H2, I2, rz, hz, hE⟩ := h₂
  refine ⟨rfl, by rw [← rz.length]; exact hz, I2.bk _ _ hC, hN.keeps I2.bk, T.keeps I2.bk, fun h' e hme => ?_⟩
  exact leave_made rfl rfl rfl I2 hme hE
end L2

/-! ## try, except C as e; isinstance of a caught exception -/
namespace L2
open PySem PySem.Spec PyProof.Rows
section
variable {X : Cx} {pins : List (Addr × Obj)} {σ : St} {H : Hp} {s : Shared} {e C : Addr}
/-- the state where the ground stays, some new records and slots of frames aside -/
theorem Inv.held (I : Inv X pins σ H s) {ns : List Addr} {h' : Heap} {tk : Nat} (hns : ∀ b ∈ ns, X.s₀.heap.get? b = none ∧ H b = none ∧ (∀ p ∈ X.pn ++ pins, p.1 ≠ b)) (k : (grd X s.heap ns).StaysIn h') (up : s.heap.UpToSlots h') : Inv X pins σ H { s with heap := h', toks := tk } := by
  have nns : ∀ b o, X.s₀.heap.get? b = some o → b ∉ ns := fun b o q z => by rw [(hns b z).1] at q; cases q
  have noL : ∀ b o, X.s₀.heap.get? b = some o → b ≠ X.env.locals := fun b o q => Nat.ne_of_lt (Nat.lt_of_lt_of_le (Heap.lt_size q) I.ok.above)
  have nfs : ∀ b, b ≠ X.env.locals → b ∉ X.fs → b ∉ frs X.stack := fun b h1 h2 z => (List.mem_cons.mp (I.stkSub b z)).elim h1 h2
  have slot : ∀ b u, b ∈ X.fs → s.heap.get? b = some u → ∃ sl, h'.get? b = some { u with slots := sl } := fun b u hb g => by
    obtain ⟨_, o', ho', hd⟩ := I.funs.mem hb
    rw [g] at ho'
    cases ho'
    exact up b u g hd
  have cellK : ∀ c v, s.heap.IsCell c v → h'.IsCell c v := fun c v ⟨o, ho, hd⟩ => by
    obtain ⟨sl, g⟩ := up c o ho fun vs q => by rw [hd] at q; cases q
    exact ⟨_, g, hd⟩
  refine ⟨I.ok, I.os, I.bare, ⟨fun b o q n hb hx => ?_, fun b o q n hb hx => ?_, I.base.free, fun b o q hx => ?_, I.base.tups, I.base.frzs, I.base.tbls⟩, ?_, fun x c q => ?_, I.free, I.freeC, fun p hp => ?_, hok_grd I.hok I.stkFree (fun b hb => (hns b hb).2.1) k, I.len⟩
  · exact k b o (grd_get (I.base.keep b o q n hb hx) (nfs b (noL b o q) hb) (nns b o q))
  · obtain ⟨sl, g⟩ := I.base.slot b o q n hb hx
    obtain ⟨sl', g'⟩ := slot b _ hb g
    exact ⟨sl', g'⟩
  · obtain ⟨u, g⟩ := I.base.there b o q hx
    by_cases hb : b ∈ X.fs
    · obtain ⟨sl, g'⟩ := slot b u hb g
      exact ⟨_, g'⟩
    · exact ⟨u, k b u (grd_get g (nfs b (noL b o q) hb) (nns b o q))⟩
  · obtain ⟨m, hn, hl⟩ := I.loc
    refine ⟨m, up.ns hn, fun i x v e1 e2 e3 => ?_⟩
    obtain ⟨u, r, l⟩ := hl i x v e1 e2 e3
    refine ⟨u, r, ?_⟩
    rcases l with l | ⟨kk, c, q, z⟩
    · exact .inl l
    · exact .inr ⟨kk, c, q, cellK c _ z⟩
  · obtain ⟨v, z⟩ := I.cell x c q
    exact ⟨v, cellK c v z⟩
  · obtain ⟨q, n, ne, nf, d⟩ := I.pin p hp
    exact ⟨k p.1 p.2 (grd_get q (nfs p.1 ne nf) fun z => (hns p.1 z).2.2 p hp rfl), n, ne, nf, d⟩
/-- a name of the def is gone -/
theorem Inv.gone (I : Inv X pins σ H s) (hN : X.N.Nodup) {i : Nat} {n : Str} {h' : Heap} {tk : Nat} {m : Str → Option Value} {v : Option Value} (hi : X.N[i]? = some n) (hn : s.heap.Ns X.env.locals m)
    (hn' : h'.Ns X.env.locals (fun x => if x = n then v else m x)) (hs : Heap.SameBut X.env.locals s.heap h') : Inv X pins (σ.set i none) H { s with heap := h', toks := tk } := by
  obtain ⟨m0, hn0, hl⟩ := id I.loc
  have em : m0 = m := by
    funext x
    obtain ⟨o, es, ep, ho, hd, _, hf⟩ := hn0
    obtain ⟨o', es', ep', ho', hd', _, hf'⟩ := hn
    rw [ho] at ho'
    cases ho'
    rw [hd] at hd'
    cases hd'
    rw [← hf, ← hf']
  subst em
  have cne := I.cne
  have hiσ : i < σ.length := by rw [I.len]; exact (List.getElem?_eq_some_iff.mp hi).1
  obtain ⟨oL, _, _, hoL, _⟩ := id hn
  refine ⟨I.ok, I.os, I.bare, ⟨fun b o q n hb hx => ?_, fun b o q n hb hx => ?_, I.base.free, fun b o q hx => ?_, I.base.tups, I.base.frzs, I.base.tbls⟩, ⟨_, hn', fun j y v' e1 e2 e3 => ?_⟩, fun y c q => ?_, I.free, I.freeC, fun p hp => ?_, fun b ob q => ?_, by simpa using I.len⟩
  · exact (hs.2 b (Nat.ne_of_lt (Nat.lt_of_lt_of_le (Heap.lt_size q) I.ok.above))).trans (I.base.keep b o q n hb hx)
  · obtain ⟨sl, e1⟩ := I.base.slot b o q n hb hx
    exact ⟨sl, (hs.2 b (Nat.ne_of_lt (Nat.lt_of_lt_of_le (Heap.lt_size q) I.ok.above))).trans e1⟩
  · obtain ⟨o', e1⟩ := I.base.there b o q hx
    exact ⟨o', (hs.2 b (Nat.ne_of_lt (Nat.lt_of_lt_of_le (Heap.lt_size q) I.ok.above))).trans e1⟩
  · by_cases hj : j = i
    · subst hj
      rw [List.getElem?_set_self hiσ] at e2
      cases e2
    · rw [List.getElem?_set_ne (Ne.symm hj)] at e2
      obtain ⟨u', r', q⟩ := hl j y v' e1 e2 e3
      refine ⟨u', r', ?_⟩
      rcases q with ⟨k, e⟩ | ⟨k, c, e, z⟩
      · refine .inl ⟨k, ?_⟩
        have : y ≠ n := fun e => hj (nodup_ix hN e1 (e ▸ hi))
        simp [this, e]
      · exact .inr ⟨k, c, e, z.sameBut hs (cne y c e)⟩
  · obtain ⟨w', z⟩ := I.cell y c q
    exact ⟨w', z.sameBut hs (cne y c q)⟩
  · obtain ⟨q, n, ne, nf, d⟩ := I.pin p hp
    exact ⟨(hs.2 p.1 ne).trans q, n, ne, nf, d⟩
  · refine (I.hok b ob q).stay (fun c w' hc q' => (hs.2 c ?_).trans q') (fun _ q => q) fun _ _ q => q
    rintro rfl
    rcases hc with z | hc
    · subst z
      rw [I.free] at q; cases q
    · rw [I.free] at hc; cases hc
end
/-! ### the contexts within a try -/
/-- within its body: what is wanted of an exception may hang on the names' values -/
abbrev tryCx (X : Cx) (pins : List (Addr × Obj)) (R : St → XK) : Cx := { X with pn := X.pn ++ pins, xe := fun ev s' => ∃ (σ : St) (H1 : Hp) (s1 : Shared), Inv X pins σ H1 s1 ∧ CXW X.prog X.w X.stack H1 s1 (R σ) ev s' }
/-- within an except suite: the exception stands there -/
abbrev hanCx (X : Cx) (pins : List (Addr × Obj)) (e : Addr) (oe : Obj) : Cx := { X with A := X.A.mark (some (.ref e)), calm := false, pn := X.pn ++ pins ++ [(e, oe)], xe := fun _ _ => False }
section
variable {X : Cx} {pins pins' : List (Addr × Obj)} {σ : St} {H : Hp} {s : Shared} {R : St → XK} {e C : Addr} {oe : Obj}
theorem Inv.inTry (I : Inv X pins σ H s) : Inv (tryCx X pins R) [] σ H s :=
  ⟨⟨I.ok.mod, I.ok.kind, I.ok.glob, I.ok.blt, I.ok.above, I.ok.inj, I.ok.has, I.ok.cab, I.ok.hd, I.ok.frames, I.ok.stk, I.ok.exf, I.ok.bs, I.ok.bsz, I.ok.noex, I.ok.exfs, I.ok.funs, I.ok.frf⟩, I.os, I.bare, I.base, I.loc, I.cell, I.free, I.freeC, fun p hp => I.pin p (by simpa using hp), I.hok, I.len⟩
theorem Inv.outTry (I : Inv (tryCx X pins R) pins' σ H s) : Inv X pins σ H s :=
  ⟨⟨I.ok.mod, I.ok.kind, I.ok.glob, I.ok.blt, I.ok.above, I.ok.inj, I.ok.has, I.ok.cab, I.ok.hd, I.ok.frames, I.ok.stk, I.ok.exf, I.ok.bs, I.ok.bsz, I.ok.noex, I.ok.exfs, I.ok.funs, I.ok.frf⟩, I.os, I.bare, I.base, I.loc, I.cell, I.free, I.freeC, fun p hp => I.pin p (List.mem_append_left _ hp), I.hok, I.len⟩
theorem SP.outTry {D : Ends} {f : Flow} (h : SP (tryCx X pins R) [] D f s) : SP X pins D f s := by
  cases f with
  | next => obtain ⟨σ', H', I, q⟩ := h; exact ⟨σ', H', I.outTry, q⟩
  | brk => obtain ⟨σ', H', I, q⟩ := h; exact ⟨σ', H', I.outTry, q⟩
  | cont => obtain ⟨σ', H', I, q⟩ := h; exact ⟨σ', H', I.outTry, q⟩
  | ret u => obtain ⟨v, σ', H', I, r, q⟩ := h; exact ⟨v, σ', H', I.outTry, r, q⟩
theorem Inv.inHan (I : Inv X pins σ H s) (h1 : s.heap.get? e = some oe) (h2 : H e = none) (h3 : e ≠ X.env.locals) (h4 : e ∉ X.fs) (h5 : ∀ v, oe.data ≠ .cell v) : Inv (hanCx X pins e oe) [] σ H s :=
  ⟨⟨I.ok.mod, I.ok.kind, I.ok.glob, I.ok.blt, I.ok.above, I.ok.inj, I.ok.has, I.ok.cab, (fun z => (nomatch z)), I.ok.frames, I.ok.stk, I.ok.exf, I.ok.bs, I.ok.bsz, I.ok.noex, I.ok.exfs, I.ok.funs, I.ok.frf⟩, I.os, I.bare, I.base, I.loc, I.cell, I.free, I.freeC, fun p hp => by
    rw [List.append_nil] at hp
    rcases List.mem_append.mp hp with z | z
    · exact I.pin p z
    · rw [List.mem_singleton.mp z]; exact ⟨h1, h2, h3, h4, h5⟩, I.hok, I.len⟩
theorem Inv.outHan (hd : X.calm = true → X.A.handled = none) (fr : X.A.frames = some X.stack) (I : Inv (hanCx X pins e oe) pins' σ H s) : Inv X pins σ H s :=
  ⟨⟨I.ok.mod, I.ok.kind, I.ok.glob, I.ok.blt, I.ok.above, I.ok.inj, I.ok.has, I.ok.cab, hd, fr, I.ok.stk, I.ok.exf, I.ok.bs, I.ok.bsz, I.ok.noex, I.ok.exfs, I.ok.funs, I.ok.frf⟩, I.os, I.bare, I.base, I.loc, I.cell, I.free, I.freeC, fun p hp => I.pin p (List.mem_append_left _ (List.mem_append_left _ hp)), I.hok, I.len⟩
end
/-! ### calls that may raise, by what is wanted at these names' values -/
def PassesX (CX : CXT) (X : Cx) (R : St → XK) : Prop := ∀ (pins : List (Addr × Obj)) (σ : St) (H : Hp) (s : Shared) (e : Value) (s' : Shared), Inv X pins σ H s → CX X.stack H s (R σ) e s' → X.xe e s'
theorem pxT {X : Cx} {pins : List (Addr × Obj)} {P : Program} {w : World} {R : St → XK} (hP : P = X.prog := by rfl) (hw : w = X.w := by rfl) : PassesX (CXW P w) (tryCx X pins R) R := by
  subst hP hw
  exact fun _ σ H s _ _ I h => ⟨σ, H, s, I.outTry, h⟩
def tCallX (sp : Sp) (dvs : List V) (R : St → XK) (t : TA) : TE := fun σ H Q => t σ H fun vs H1 => sp (vs ++ dvs) H1 Q (R σ)
section
variable {X : Cx} {CX : CXT} {k : Nat} {f C : Addr} {fd : FuncData} {ps : List Str} {sp : Sp} {dvs : List V} {ds : List Value} {R : St → XK} {x m : Str} {p pos apos : Pos} {e o : Expr} {es : List Expr} {ta : TE} {t : TA}
theorem run_fnX {pins : List (Addr × Obj)} {σ : St} {H : Hp} {s : Shared} {Q : VK} {us : List Value} {vs : List V} (F : FnOk X.prog X.w X.K X.mg X.base CX k f fd ps sp) (hr : Room k X.A) (hb : Binds X.K fd ps ds) (hd : Vals dvs ds) (hx : PassesX CX X R)
    (I : Inv X pins σ H s) (r : Vals vs us) (h : sp (vs ++ dvs) H Q (R σ)) : wpAny (model X.prog X.w) X.A (call (.ref f) us) (EP X pins σ Q) X.xe s := by
  have r2 : Vals (vs ++ dvs) (us ++ ds) := r.append hd
  have hl : (us ++ ds).length = ps.length := by rw [← r2.length]; exact F.len _ _ _ _ h
  refine wpAny_call (codeAny_mono (F.run X.A X.stack s H ⟨us, []⟩ (us ++ ds) (vs ++ dvs) Q (R σ) hr I.env0 (hb s us I.kIn hl) r2 h) fun r s' hq => ?_)
  cases r with
  | error e => exact hx pins σ H s e s' I hq
  | ok fl =>
    cases fl with
    | ret u => exact I.after hq
    | next => exact False.elim hq
    | brk => exact False.elim hq
    | cont => exact False.elim hq
theorem pe_callX (F : FnOk X.prog X.w X.K X.mg X.base CX k f fd ps sp) (hr : Room k X.A) (hg : Gl X x) (hm : X.mg x = some (.ref f)) (hk : PySem.W.keepIn X.K (.ref f) = true) (hb : Binds X.K fd ps ds) (hd : Vals dvs ds) (hx : PassesX CX X R)
    (ha : PA X (e :: es) t) (hdb : (x == ("__debug__" : Str)) = false := by decide) (he : starEach (e :: es) X.env = (false, eval e X.env) :: starEach es X.env := by rfl) (hpl : (backTo pos (starEach es X.env)).any (·.1) = false := by rfl) :
    PE X (.Call (.Name x p) (e :: es) [] pos) (tCallX sp dvs R t) := by
  intro pins s σ H Q I h
  refine wpAny_Call_Name_kw (ld_glob I hg hm ?_ hdb)
  refine PySem.W.callWith_K (h₀ := X.base) I.ok.mod.kin hk (thn (ha pos pins s σ H _ I h) fun us s1 ⟨vs, H1, I1, r, q⟩ => ⟨I1.kIn, ?_⟩) he hpl
  exact run_fnX F hr hb hd hx I1 r q
end
/-! ### the statement -/
def Ends.less (D : Ends) (i : Nat) : Ends := { nx := fun σ H => D.nx (σ.set i none) H, rt := D.rt, bk := fun σ H => D.bk (σ.set i none) H, ct := fun σ H => D.ct (σ.set i none) H }
/-- try: .. except W as n (n in the i-th slot): tb the body's reading, th the suite's, by the exception's address and class -/
def tTry (K : PySem.W.Frag) (W : Addr) (i : Nat) (tb : (St → XK) → TS) (th : Addr → Addr → TS) : TS := fun D σ H =>
  tb (fun σ' c _ H' => ∃ C, c = Value.ref C ∧ PySem.W.exmOne K (.ref C) (.ref W) = some true ∧ ∀ e : Addr, H' e = none → th e C (D.less i) (σ'.set i (some (.ref e))) H') D σ H
theorem ps_try {X : Cx} {W : Addr} {i : Nat} {x n : Str} {np hpos pos : Pos} {body : List Stmt} {b₀ : Stmt} {suite : List Stmt} {tb : (St → XK) → TS} {th : Addr → Addr → TS}
    (hst : X.stack = X.env :: X.outer) (hfr : X.env.frame = some X.env.locals) (hex : X.ex = []) (hN : X.N.Nodup) (hi : X.N[i]? = some n) (hl : X.env.kindOf n = some .local) (hm : X.mg x = some (.ref W)) (hg : Gl X x)
    (hb : ∀ (R : St → XK) (pins : List (Addr × Obj)), PSs (tryCx X pins R) body (tb R)) (hs : ∀ (e C : Addr) (oe : Obj) (pins : List (Addr × Obj)), oe.cls = .ref C → PSs (hanCx X pins e oe) (b₀ :: suite) (th e C)) (hdb : (x == ("__debug__" : Str)) = false := by decide) :
    PS X (.Try body [.ExceptHandler (some (.Name x np)) (some n) (b₀ :: suite) hpos] [] [] pos) (tTry X.K W i tb th) := by
  intro pins s σ H D I h
  refine wpAny_Try_except (wpAny_mono (hb _ pins [] s σ H D I.inTry h) (fun f s1 q => ?_) (fun ev s1 q => ?_))
  · have q := SP.outTry q
    cases f with
    | next => exact wpAny_execs_nil q
    | brk => exact q
    | cont => exact q
    | ret u => exact q
  · obtain ⟨σ1, H1, s0, I0, hcx⟩ := q
    obtain ⟨e, C, H', rfl, J, F, C', eC, hmt, hR⟩ := I0.flown hcx
    cases eC
    have hR := hR e F.free
    obtain ⟨T, a0, fl, nT, fT⟩ := fly_base hst J F
    have hns : ∀ b ∈ [e, T], X.s₀.heap.get? b = none ∧ H' b = none ∧ (∀ p ∈ X.pn ++ pins, p.1 ≠ b) := fun b hb => by
      have key : ∀ b, s0.heap.get? b = none → H' b = none → X.s₀.heap.get? b = none ∧ H' b = none ∧ (∀ p ∈ X.pn ++ pins, p.1 ≠ b) := fun b n0 f0 => ⟨I0.was hex n0, f0, fun p hp z => by
        have := (I0.pin p hp).1
        rw [z, n0] at this
        cases this⟩
      rcases List.mem_cons.mp hb with rfl | hb
      · exact key _ F.new F.free
      · rw [List.mem_singleton.mp hb]; exact key _ nT fT
    rw [hst] at fl
    refine wpAny_looks_onW (by rw [J.ok.frames, hst]) hfr fl fun h₄ held₄ up₄ => ?_
    refine wpAny_landsW held₄ fun h₅ fl₅ up₅' => ?_
    have up₅ := up₄.trans up₅'
    have J₅ : Inv X pins σ1 H' { s1 with heap := h₅ } := J.held (tk := s1.toks) hns fl₅.1 up₅
    obtain ⟨ob, hob, hobc⟩ := fl₅.there
    refine wpAny_handleBy_cons (codeAny_handlers_test (Calls.Name_function_global J₅.ok.kind hg (Calls.loadGlobal_global (by rw [J₅.ok.glob]; exact J₅.mod.glob.keeps J₅.bk) hm ?_) hdb)) (by intro q; cases q)
    have LT : PySem.W.Looks (model X.prog X.w) h₅ (typeOf (.ref e)) (.ref C) := by
      rw [← hobc]
      exact (PySem.W.Looks.ld hob).andThen .now
    refine (PySem.W.exm_one J₅.kIn LT hmt).here ?_
    refine codeAny_handlers_suite_as ?_
    refine lands_againW fl₅ fun h₆ fl₆ up₆ => ?_
    have J₆ : Inv X pins σ1 H' { s1 with heap := h₆ } := J.held (tk := s1.toks) hns fl₆.1 (up₅.trans up₆)
    obtain ⟨oe, ws, hoe, hoec, hoed, hoe0⟩ := fl₆.first
    have neL : e ≠ X.env.locals := fun z => by
      obtain ⟨m, ⟨o', es, ep, ho', hd', _⟩, _⟩ := J₆.loc
      rw [← z] at ho'
      have hoe' : h₆.get? e = some oe := hoe
      have ho'' : h₆.get? e = some o' := ho'
      rw [hoe'] at ho''
      cases ho''
      rw [hoed] at hd'
      cases hd'
    have nfs : e ∉ X.fs := fun z => by
      obtain ⟨_, o', ho', hd⟩ := J₆.funs.mem z
      have hoe' : h₆.get? e = some oe := hoe
      have ho'' : h₆.get? e = some o' := ho'
      rw [hoe'] at ho''
      cases ho''
      exact hd ws hoed
    refine store_ok2 J₆ hN hi (.inl hl) (v := .ref e) rfl (fun s7 J₇ hsb => ?_) (.inr hl)
    obtain ⟨a, hsame, ha⟩ := hsb
    have hea : e ≠ a := by
      rcases ha with rfl | ha
      · exact neL
      · intro z
        obtain ⟨v, o', ho', hd'⟩ := J₆.cell _ _ ha
        rw [← z] at ho'
        have hoe' : h₆.get? e = some oe := hoe
        have ho'' : h₆.get? e = some o' := ho'
        rw [hoe'] at ho''
        cases ho''
        rw [hoed] at hd'
        cases hd'
    have hoe7 : s7.heap.get? e = some oe := (hsame.2 e hea).trans hoe
    have JH := J₇.inHan (oe := oe) hoe7 F.free neL nfs (fun v z => by rw [hoed] at z; cases z)
    refine wpAny_mono (hs e C oe pins hoec [] s7 _ H' (D.less i) JH hR) (fun f s8 q => ?_) fun _ _ z => False.elim z
    have hp : (X.env.scope.kind == .class || (X.env.scope.kind == .module && X.env.locals != X.env.globals)) = false := by rw [J.ok.kind]; rfl
    have fin : ∀ {σ8 : St} {H8 : Hp}, Inv (hanCx X pins e oe) [] σ8 H8 s8 → ∀ {Q : Flow → Shared → Prop}, (∀ s9, Inv X pins (σ8.set i none) H8 s9 → Q f s9) → wpAny (model X.prog X.w) X.A (do bindName X.env n .none; unbindBehindTheSuite X.env n hpos) (fun _ s9 => Q f s9) X.xe s8 := fun {σ8 H8} J8 {Q} k => by
      have J9 := J8.outHan I.ok.hd I.ok.frames
      obtain ⟨m, hn, _⟩ := id J9.loc
      exact wpAny_nameGoes_keeps hl hn hp fun h' v hn' hsm => k _ (J9.gone hN hi hn hn' hsm)
    cases f with
    | next => obtain ⟨σ8, H8, J8, q⟩ := q; exact fin J8 fun s9 J9 => ⟨_, H8, J9, q⟩
    | brk => obtain ⟨σ8, H8, J8, q⟩ := q; exact fin J8 fun s9 J9 => ⟨_, H8, J9, q⟩
    | cont => obtain ⟨σ8, H8, J8, q⟩ := q; exact fin J8 fun s9 J9 => ⟨_, H8, J9, q⟩
    | ret u => obtain ⟨v, σ8, H8, J8, r, q⟩ := q; exact fin J8 fun s9 J9 => ⟨v, _, H8, J9, r, q⟩
end L2

/-! ## isinstance of a caught exception -/
namespace L2
open PySem PySem.Spec PyProof.Rows PySem.W PySem.Calls Builtin Builtin.ObjectAttr Builtin.Getset_descriptor
section
variable {prog : Program} {w : World} {A : Around} {E : Value → Shared → Prop} {K : PySem.W.Frag} {x C : Addr} {ox : Obj}
theorem xc_get {R : Result → Shared → Prop} {s : Shared} {tp : Value} (X : K.In s.heap) (hx : s.heap.get? x = some ox) (hc : ox.cls = .ref C) (hm : mroIn K C (.type "object") = some true)
    (h : R (.ok (.ret (.ref C))) s) : codeAny (model prog w) A (.call (.builtin "getset_descriptor.__get__") ⟨[.builtin "object.__class__", .ref x, tp], []⟩) R s := by
  obtain ⟨hh, g, dr, t, os⟩ := s
  have L0 : Looks (model prog w) hh (typeOf (.ref x)) (.ref C) := by
    rw [← hc]
    exact (Looks.ld hx).andThen .now
  have L1 := looks_mroIn (M := model prog w) X hm
  refine codeAny_call_builtin KF.slot_gs.plain KF.entry_gs (KF.slot_gs.check _ _ _ _ _ _ _ _ KF.type_class (KF.args_gs _ _ _) ?_)
  unfold Builtin.«getset_descriptor.__get__» descrGet
  rw [dga_obj]
  refine wpAny_bind (wpAny_pure ?_)
  unfold descrGetter descrCheckInstance descrNameAndClass isInstance
  simp only [KF.owner_class]
  repeat lk
  refine ⟨Code.quiet_builtin _ (by decide +kernel), codeAny_builtin KF.entry_class ?_⟩
  unfold Builtin.«object.__class__» shownTypeOf
  repeat lk
  exact h
theorem xc_entry {tk : Tok} {Q : Fin → Shared → Prop} {s : Shared} (X : K.In s.heap) (hx : s.heap.get? x = some ox) (hc : ox.cls = .ref C) (c : XCls K C) (hq : Q (.done (.ret (.ref C))) s) :
    wpAny (model prog w) A (Builtin.«object.__getattribute__» ⟨[.ref x, .str "__class__" tk], []⟩) Q E s := by
  obtain ⟨hh, g, dr, t, os⟩ := s
  have L0 : Looks (model prog w) hh (typeOf (.ref x)) (.ref C) := by
    rw [← hc]
    exact (Looks.ld hx).andThen .now
  have L1 := looks_findIn (M := model prog w) X c.cl
  have hT5 : (⟨hh, g, dr, t, os⟩ : Shared).TypeIs (.builtin "object.__class__") "getset_descriptor" := F.typeOf_object_class
  have f5 := F.typeOf_object_class
  have f6 := F.slot_gs_get.lookup
  have f7 := F.slot_gs_set.lookup
  repeat (any_goals (first | assumption | (with_reducible refine L0.at ?_) | (with_reducible refine L1.at ?_) | wp_step))
  refine xc_get (s := ⟨hh, g, dr, t, os⟩) X hx hc c.ob ?_
  exact wpAny_pure hq
theorem xc_check {M : Model} {nameV : Value} {Q : Unit → Shared → Prop} {s : Shared} (X : K.In s.heap) (hx : s.heap.get? x = some ox) (hc : ox.cls = .ref C) (c : XCls K C) (hq : Q () s) :
    wpAny M A (checkBuiltinCall "BaseException.__getattribute__" ⟨[.ref x, nameV], []⟩) Q E s := by
  obtain ⟨hh, g, dr, t, os⟩ := s
  have hk : builtinKind "BaseException.__getattribute__" = some .slot := by decide +kernel
  have hsplit : splitId "BaseException.__getattribute__" = some ("BaseException", "__getattribute__") := by decide +kernel
  have ha := PySem.F.args_bexc_ga (.ref x) nameV
  have L0 : Looks M hh (typeOf (.ref x)) (.ref C) := by
    rw [← hc]
    exact (Looks.ld hx).andThen .now
  have L1 := looks_mroIn (M := M) X c.bx
  simp only [checkBuiltinCall, hk, hsplit]
  refine wpAny_bind ?_
  refine wpAny_bind (L0.at (L1.at ?_))
  repeat (any_goals (first | assumption | wp_step))
theorem xc_call {tk : Tok} {R : Result → Shared → Prop} {s : Shared} (X : K.In s.heap) (hx : s.heap.get? x = some ox) (hc : ox.cls = .ref C) (c : XCls K C) (hq : R (.ok (.ret (.ref C))) s) :
    codeAny (model prog w) A (.call (.builtin "BaseException.__getattribute__") ⟨[.ref x, .str "__class__" tk], []⟩) R s :=
  codeAny_call_builtin PySem.F.attr_ValueError.ga.plain PySem.F.entry_bexc_ga (xc_check X hx hc c (xc_entry X hx hc c hq))
theorem xc_by {tk : Tok} {Q : Value → Shared → Prop} {s : Shared} (X : K.In s.heap) (hx : s.heap.get? x = some ox) (hc : ox.cls = .ref C) (c : XCls K C) (hq : Q (.ref C) s) :
    wpAny (model prog w) A (getAttrBy (.ref x) (.str "__class__" tk) false) Q E s := by
  obtain ⟨hh, g, dr, t, os⟩ := s
  have f3 := PySem.F.attr_ValueError.ga.bind (.ref x)
  have hx2 : (Value.builtin "BaseException.__getattribute__" == Value.builtin "object.__getattribute__") = false := by decide +kernel
  have hx1 : (onTheHeap (Value.ref C) && Value.builtin "BaseException.__getattribute__" == Value.builtin "object.__getattribute__") = false := by rw [hx2]; rfl
  have L0 : Looks (model prog w) hh (typeOf (.ref x)) (.ref C) := by
    rw [← hc]
    exact (Looks.ld hx).andThen .now
  have L1 := looks_findIn (M := model prog w) X c.ga
  have L2 := looks_findIn (M := model prog w) X c.gh
  repeat (any_goals (first | assumption | (with_reducible refine L0.at ?_) | (with_reducible refine L1.at ?_) | (with_reducible refine L2.at ?_) | wp_step))
  refine xc_call (s := ⟨hh, g, dr, t, os⟩) X hx hc c ?_
  repeat (any_goals (first | assumption | wp_step))
theorem xc_attr {Q : Option Value → Shared → Prop} {s : Shared} (X : K.In s.heap) (hx : s.heap.get? x = some ox) (hc : ox.cls = .ref C) (c : XCls K C) (hq : Q (some (.ref C)) { s with toks := s.toks + 1 }) :
    wpAny (model prog w) A (getAttr? (.ref x) "__class__") Q E s := by
  obtain ⟨hh, g, dr, t, os⟩ := s
  unfold getAttr? getAttrBy?
  repeat (any_goals (first | assumption | with_reducible refine xc_by (s := ⟨hh, g, dr, _, os⟩) X hx hc c ?_ | wp_step))
theorem kitx_exc (c : XCls K C) (hcl : (clsIn K C).isSome = true) (hc : ox.cls = .ref C) : KitX K (.ref x) (.ref C) (fun h => h.get? x = some ox) where
  ty := fun _ _ _ hx => by
    rw [← hc]
    exact (Looks.ld hx).andThen .now
  it := fun _ _ X _ => by
    unfold clsIn at hcl
    split at hcl
    · rename_i c' d' cd' sl' ho
      intro A' Q' E' s' k q
      unfold isType loadHead
      exact wpAny_bind (wpAny_loadPart (k _ _ (X _ _ ho)) (wpAny_pure q))
    · cases hcl
  ne := fun h tp dd its n sl X htp => by
    refine Bool.eq_false_iff.mpr fun q => ?_
    have e : C = tp := Value.ref.inj (beq_iff_eq.mp q)
    subst e
    unfold clsIn at hcl
    split at hcl
    · rename_i c' d' cd' sl' ho
      have := X _ _ ho
      rw [htp] at this
      cases this
    · cases hcl
  ca := fun {_ _ _ _ _ s} X hx hq => xc_attr X hx hc c hq
end
theorem XCls.isSome {K : PySem.W.Frag} {C : Addr} (c : XCls K C) : (clsIn K C).isSome = true := by
  have q := c.ex
  unfold excIn at q
  unfold clsIn
  split at q
  · rename_i dd cd sl ho
    rw [ho]
    rfl
  · cases q
section
variable {X : Cx}
/-- isinstance(e, D) of a pinned exception, by what is known of its class -/
theorem call_isiX (K : PySem.W.Frag) {e C : Addr} {oe : Obj} (hp : (e, oe) ∈ X.pn) (hc : oe.cls = .ref C) (h : X.K = K := by rfl) : CallR X (.builtin "isinstance") (fun xs H Q => ∃ (d : V) (u : Value) (b : Bool), xs = [.ref e, d] ∧ (∀ z, RelV d z → z = u) ∧ XCls K C ∧ kitOne K (.ref C) u = some b ∧ Q (.bl b) H) := by
  subst h
  intro pins s σ H xs us Q I r h
  obtain ⟨d, u, b, rfl, hd, c, hk, q⟩ := h
  obtain ⟨u1, v, rfl, ru, rv⟩ := vals_two r
  obtain rfl : u1 = Value.ref e := ru
  obtain rfl := hd v rv
  have hx := (I.pin (e, oe) (List.mem_append_left _ hp)).1
  exact kia_one (kitx_exc c c.isSome hc) I.kIn hx hk (fun z => nomatch z) fun tk => ⟨.bl b, H, I.tok tk, rfl, q⟩
end
end L2

/-! ## f-texts of ints -/
namespace L2
open PySem PySem.Spec PyProof.Rows
section
variable {X : Cx} {es : List Expr} {e : Expr} {te : TE} {t : St → Hp → (Hp → Prop) → Prop} {pos : Pos}
end
end L2

namespace L2
open PySem PySem.Spec PyProof.Rows
/-- no exception is let through -/
theorem passN {P : Program} {w : World} {X : Cx} : Passes (CXW P w) X E0 := fun _ _ _ _ _ _ _ h => by
  obtain ⟨_, _, _, _, _, _, _, _, _, z⟩ := h
  exact z.elim
end L2

/-! ## lists of ints: slices, sums of lists -/
namespace My
open PySem L2
end My

/-! ## what the laws share: the web made, the number of turns -/
namespace My
open PySem L2
theorem xI {α : Type} {p : α → Prop} {w : α} (h : p w) : ∃ x, p x := ⟨w, h⟩
end My

/-! ## sorted(ints), reversed(list), list(reversed(list)) -/
namespace L2
open PySem PySem.Spec PyProof.Rows
theorem vals_of_ints : ∀ {us : List Value} {ns : List Int}, IntsAre us ns → Vals (ns.map V.int) us
  | [], [], _ => .nil
  | _ :: _, [], h => by cases h
  | [], _ :: _, h => by cases h
  | u :: us, n :: ns, h => by
    cases h with
    | cons _ _ t => exact .cons ⟨_, rfl⟩ (vals_of_ints t)
section
variable {X : Cx}
theorem call_sortedK (K : PySem.W.Frag) (hk : X.K = K := by rfl) : CallR X (.builtin "sorted") (fun xs H Q => ∃ (p : Addr) (ns : List Int), xs = [.ref p] ∧ SqL K H p (ns.map V.int) ∧ ns.length < 64 ∧
    ∀ ms : List Int, ms.Perm ns → ms.Pairwise (· ≤ ·) → ∀ l, H l = none → Q (.ref l) (upd H l (.lst (ms.map V.int)))) := by
  subst hk
  intro pins s σ H xs us Q I r h
  obtain ⟨p, ns, rfl, hq, hn, q⟩ := h
  obtain ⟨u, rfl, ru⟩ := vals1 r
  obtain rfl : u = Value.ref p := ru
  obtain ⟨its, rv, pl, hz⟩ := I.list hq
  have hi := ints_of_vals rv
  have hl : its.length = ns.length := by rw [← rv.length, List.length_map]
  refine sorted_ints pl.isList hi (by omega) fun out ms h1 h2 h3 => ?_
  obtain ⟨e, he⟩ := sortedAll_at s.heap its out
  have hml : ms.length = ns.length := h2.length_eq
  refine ⟨.ref (s.heap.objs.size + 1), _, I.laid (t' := s.toks) (o := .lst (ms.map V.int)) (fun b o g => sortedAll_old g) (Nat.le_succ _) ⟨?_, out.toList, e, vals_of_ints h1, ?_⟩, rfl, q ms h2 h3 _ (I.hok.fresh (Nat.le_succ _))⟩
  · rw [List.length_map, hml]
    have : sizeLine = 16777216 := sizeLine_eq
    omega
  · exact he
end
/-! ### reversed(list) -/
section
variable {X : Cx}
section
variable {prog : Program} {w : World} {A : Around} {E : Value → Shared → Prop} {s : Shared} {it a : Addr} {items : Array Value}
end
end
section
variable {X : Cx} {p p2 pos pos2 : Pos} {e : Expr} {t : TA}
end
end L2

/-! ## sets of ties: ascending lists -/
namespace My
open PySem L2
theorem isSet_iff {m : Nat} {ns : List Int} : IsSet m ns ↔ (∀ z ∈ ns, 0 ≤ z ∧ z < (m : Int)) ∧ ns.Pairwise (· < ·) := by
  constructor
  · intro h
    refine ⟨h.all, ?_⟩
    rw [List.pairwise_iff_getElem]
    intro i j hi hj hij
    induction j with
    | zero => exact absurd hij (Nat.not_lt_zero i)
    | succ j ih =>
      have hj' : j < ns.length := by omega
      have key := (h (j + 1) ns[j + 1] (List.getElem?_eq_getElem hj)).2.2 ns[j] (by omega) (by rw [Nat.add_sub_cancel]; exact List.getElem?_eq_getElem hj')
      by_cases e : i = j
      · subst e; exact key
      · have := ih hj' (by omega)
        omega
  · rintro ⟨ha, hp⟩ i z hz
    obtain ⟨hi, ei⟩ := List.getElem?_eq_some_iff.mp hz
    have hm := ha z (List.mem_of_getElem? hz)
    refine ⟨hm.1, hm.2, fun y h0 hy => ?_⟩
    obtain ⟨hi', ei'⟩ := List.getElem?_eq_some_iff.mp hy
    have := List.pairwise_iff_getElem.mp hp (i - 1) i hi' hi (by omega)
    rw [ei, ei'] at this
    exact this
theorem lt_nodup {ns : List Int} (h : ns.Pairwise (· < ·)) : ns.Nodup := h.imp fun hab e => by omega
theorem IsSet.nodup {m : Nat} {ns : List Int} (h : IsSet m ns) : ns.Nodup := lt_nodup (isSet_iff.mp h).2
end My

/-! ## joined places: the closure of the ties; how many pieces there are -/
namespace My
theorem snoc_ind {α : Type} {P : List α → Prop} (h0 : P []) (h1 : ∀ l x, P l → P (l ++ [x])) : ∀ l, P l := by
  intro l
  rw [← List.reverse_reverse l]
  induction l.reverse with
  | nil => exact h0
  | cons x r ih =>
    rw [List.reverse_cons]
    exact h1 _ _ ih
/-- two places are joined over ties -/
inductive Conn (es : List (Nat × Nat)) : Nat → Nat → Prop
  | refl (i : Nat) : Conn es i i
  | edge {a b : Nat} (h : (a, b) ∈ es) : Conn es a b
  | symm {i j : Nat} : Conn es i j → Conn es j i
  | trans {i j k : Nat} : Conn es i j → Conn es j k → Conn es i k
theorem Conn.mono {es fs : List (Nat × Nat)} (h : ∀ e ∈ es, e ∈ fs) {i j : Nat} (c : Conn es i j) : Conn fs i j := by
  induction c with
  | refl i => exact .refl i
  | edge q => exact .edge (h _ q)
  | symm _ ih => exact .symm ih
  | trans _ _ i1 i2 => exact .trans i1 i2
theorem mk_range {n i : Nat} (h : i < n) : mk ((List.range n).map fun (i : Nat) => (i : Int)) i = (i : Int) := by
  rw [mk_map' h]
where
  mk_map' {n i : Nat} (h : i < n) : mk ((List.range n).map fun (i : Nat) => (i : Int)) i = (i : Int) := by
    simp [mk, List.getD_eq_getElem?_getD, List.getElem?_map, List.getElem?_range h]
def InN (n : Nat) (es : List (Nat × Nat)) : Prop := ∀ e ∈ es, e.1 < n ∧ e.2 < n
theorem InN.snoc {n : Nat} {es : List (Nat × Nat)} {e : Nat × Nat} (h : InN n (es ++ [e])) : InN n es ∧ e.1 < n ∧ e.2 < n := ⟨fun x hx => h x (List.mem_append_left _ hx), h e (by simp)⟩
theorem lms_edge {n : Nat} : ∀ es : List (Nat × Nat), InN n es → ∀ e ∈ es, mk (lms n es) e.1 = mk (lms n es) e.2 := by
  refine snoc_ind (fun _ e h => by cases h) fun es x ih hn e he => ?_
  obtain ⟨h1, h2, h3⟩ := hn.snoc
  have hl := lms_length n es
  have hx := hn e he
  rw [lms_snoc]
  refine (lm_iff (by omega) (by omega)).mpr ?_
  rcases List.mem_append.mp he with q | q
  · exact .inl (ih h1 e q)
  · rw [List.mem_singleton.mp q]
    exact .inr ⟨.inl rfl, .inr rfl⟩
theorem lms_conn {n : Nat} : ∀ es : List (Nat × Nat), InN n es → ∀ i j, i < n → j < n → mk (lms n es) i = mk (lms n es) j → Conn es i j := by
  refine snoc_ind (fun _ i j hi hj h => ?_) fun es x ih hn i j hi hj h => ?_
  · have h : mk ((List.range n).map fun (i : Nat) => (i : Int)) i = mk ((List.range n).map fun (i : Nat) => (i : Int)) j := h
    rw [mk_range hi, mk_range hj] at h
    have : i = j := by omega
    subst this
    exact .refl i
  · obtain ⟨h1, h2, h3⟩ := hn.snoc
    have hl := lms_length n es
    have up : ∀ {i j : Nat}, Conn es i j → Conn (es ++ [x]) i j := fun c => c.mono fun e he => List.mem_append_left _ he
    have ex : Conn (es ++ [x]) x.1 x.2 := .edge (by simp)
    rw [lms_snoc] at h
    rcases (lm_iff (by omega) (by omega)).mp h with q | ⟨q1, q2⟩
    · exact up (ih h1 i j hi hj q)
    · have ci : Conn (es ++ [x]) i x.1 := by
        rcases q1 with q | q
        · exact up (ih h1 i _ hi h2 q)
        · exact (up (ih h1 i _ hi h3 q)).trans ex.symm
      have cj : Conn (es ++ [x]) j x.1 := by
        rcases q2 with q | q
        · exact up (ih h1 j _ hj h2 q)
        · exact (up (ih h1 j _ hj h3 q)).trans ex.symm
      exact ci.trans cj.symm
theorem conn_lms {n : Nat} {es : List (Nat × Nat)} (hn : InN n es) {i j : Nat} (c : Conn es i j) : i = j ∨ (i < n ∧ j < n ∧ mk (lms n es) i = mk (lms n es) j) := by
  induction c with
  | refl i => exact .inl rfl
  | edge q => exact .inr ⟨(hn _ q).1, (hn _ q).2, lms_edge es hn _ q⟩
  | symm _ ih =>
    rcases ih with e | ⟨a, b, c⟩
    · exact .inl e.symm
    · exact .inr ⟨b, a, c.symm⟩
  | trans _ _ i1 i2 =>
    rcases i1 with e | ⟨a, b, c⟩
    · rw [e]; exact i2
    · rcases i2 with e | ⟨a', b', c'⟩
      · rw [← e]; exact .inr ⟨a, b, c⟩
      · exact .inr ⟨a, b', c.trans c'⟩
theorem lms_iff {n : Nat} {es : List (Nat × Nat)} (hn : InN n es) {i j : Nat} (hi : i < n) (hj : j < n) : mk (lms n es) i = mk (lms n es) j ↔ Conn es i j := by
  constructor
  · exact lms_conn es hn i j hi hj
  · intro c
    rcases conn_lms hn c with e | ⟨_, _, e⟩
    · rw [e]
    · exact e
theorem pms_iff {n : Nat} {es : List (Nat × Nat)} (hn : InN n es) {i j : Nat} (hi : i < n) (hj : j < n) : mk (pms n es) i = mk (pms n es) j ↔ Conn es i j := by
  rw [← lms_iff hn hi hj]
  have s := same_pms (n := n) (es := es) hn
  exact s.2 i j (by rw [pms_length]; exact hi) (by rw [pms_length]; exact hj)
/-! ### how many pieces -/
def cnt (M : List Int) : Nat := (fstA M M.length).length
theorem fst_ex (M : List Int) {i : Nat} : ∃ p, p ≤ i ∧ mk M p = mk M i ∧ fstB M p = true := by
  induction i using Nat.strongRecOn with
  | ind i ih =>
    by_cases h : fstB M i = true
    · exact ⟨i, Nat.le_refl _, rfl, h⟩
    · have : ∃ j, j < i ∧ mk M j = mk M i := by
        by_cases q : ∃ j, j < i ∧ mk M j = mk M i
        · exact q
        · exact absurd (fstB_iff.mpr fun j hj e => q ⟨j, hj, e⟩) h
      obtain ⟨j, hj, e⟩ := this
      obtain ⟨p, h1, h2, h3⟩ := ih j hj
      exact ⟨p, by omega, h2.trans e, h3⟩
theorem count_less {p q : Nat → Bool} {x n : Nat} (hx : x < n) (hpx : p x = true) (h : ∀ y, y < n → q y = (p y && !decide (y = x))) : ((List.range n).filter q).length + 1 = ((List.range n).filter p).length := by
  induction n with
  | zero => exact absurd hx (Nat.not_lt_zero x)
  | succ n ih =>
    rw [List.range_succ, List.filter_append, List.filter_append, List.length_append, List.length_append]
    by_cases e : x = n
    · subst e
      have e1 : (List.range x).filter q = (List.range x).filter p := List.filter_congr fun y hy => by
        have hy := List.mem_range.mp hy
        rw [h y (by omega), show decide (y = x) = false from decide_eq_false (by omega)]
        simp
      have e2 : q x = false := by rw [h x (by omega)]; simp
      rw [e1]
      simp [List.filter_cons, e2, hpx]
    · have hq : q n = p n := by rw [h n (by omega), show decide (n = x) = false from decide_eq_false (fun z => e z.symm)]; simp
      have := ih (by omega) fun y hy => h y (by omega)
      simp only [List.filter_cons, List.filter_nil, hq]
      omega
theorem fst_uniq {M : List Int} {p q : Nat} (hp : fstB M p = true) (hq : fstB M q = true) (e : mk M p = mk M q) : p = q := by
  rcases Nat.lt_trichotomy p q with h | h | h
  · exact absurd e (fstB_iff.mp hq p h)
  · exact h
  · exact absurd e.symm (fstB_iff.mp hp q h)
theorem cnt_step {m : List Int} {a b : Nat} (ha : a < m.length) (hb : b < m.length) (hne : mk m a ≠ mk m b) : cnt (lm m a b) + 1 = cnt m := by
  obtain ⟨A, hA1, hA2, hA3⟩ := fst_ex m (i := a)
  obtain ⟨B, hB1, hB2, hB3⟩ := fst_ex m (i := b)
  have hAB : A ≠ B := fun e => hne (by rw [← hA2, ← hB2, e])
  unfold cnt fstA
  rw [lm_length]
  refine count_less (x := max A B) (by omega) ?_ fun y hy => ?_
  · rcases Nat.le_total A B with h | h
    · rw [Nat.max_eq_right h]; exact hB3
    · rw [Nat.max_eq_left h]; exact hA3
  · rw [Bool.eq_iff_iff, Bool.and_eq_true, fstB_iff, fstB_iff]
    have key : ∀ i, i < y → (mk (lm m a b) i = mk (lm m a b) y ↔ Mrg m a b i y) := fun i hi => lm_iff (by omega) hy
    have nmax : (!decide (y = max A B)) = true ↔ y ≠ max A B := by simp
    rw [nmax]
    constructor
    · intro q
      refine ⟨fun i hi e => q i hi ((key i hi).mpr (.inl e)), fun e => ?_⟩
      -- the other one is ahead
      rcases Nat.lt_or_gt_of_ne hAB with h | h
      · have ey : y = B := by omega
        subst ey
        exact q A h ((key A h).mpr (.inr ⟨.inl hA2, .inr hB2⟩))
      · have ey : y = A := by omega
        subst ey
        exact q B h ((key B h).mpr (.inr ⟨.inr hB2, .inl hA2⟩))
    · rintro ⟨q1, q2⟩ i hi e
      rcases (key i hi).mp e with e | ⟨e1, e2⟩
      · exact q1 i hi e
      · have fy : fstB m y = true := fstB_iff.mpr q1
        rcases e2 with e2 | e2
        · have ey : y = A := fst_uniq fy hA3 (e2.trans hA2.symm)
          rcases e1 with e1 | e1
          · exact q1 i hi (e1.trans e2.symm)
          · obtain ⟨p, p1, p2, p3⟩ := fst_ex m (i := i)
            have : p = B := fst_uniq p3 hB3 (by rw [p2, e1, hB2])
            omega
        · have ey : y = B := fst_uniq fy hB3 (e2.trans hB2.symm)
          rcases e1 with e1 | e1
          · obtain ⟨p, p1, p2, p3⟩ := fst_ex m (i := i)
            have : p = A := fst_uniq p3 hA3 (by rw [p2, e1, hA2])
            omega
          · exact q1 i hi (e1.trans e2.symm)
theorem cnt_range (n : Nat) : cnt ((List.range n).map fun (i : Nat) => (i : Int)) = n := by
  unfold cnt fstA
  rw [List.length_map, List.length_range]
  have e : (List.range n).filter (fstB ((List.range n).map fun (i : Nat) => (i : Int))) = List.range n := by
    refine List.filter_eq_self.mpr fun p hp => fstB_iff.mpr fun i hi e => ?_
    have hp := List.mem_range.mp hp
    rw [mk_range (by omega), mk_range hp] at e
    omega
  rw [e, List.length_range]
theorem cnt_one {M : List Int} (hM : 1 ≤ M.length) : cnt M = 1 ↔ ∀ i j, i < M.length → j < M.length → mk M i = mk M j := by
  have e : cnt M = (grp M).length := by
    unfold cnt grp
    rw [grpA_eq, List.length_map]
  rw [e]
  exact grp_one hM
end My

/-! ## trees -/
namespace My
open PySem L2
def IsTree (n : Int) (ps : List (Int × Int)) (ns : List Int) : Prop := IsSet ps.length ns ∧ (ns.length : Int) = n - 1 ∧ ∀ i j, i < n.toNat → j < n.toNat → Conn (endsOf ps ns) i j
theorem ends_in {n : Int} {ps : List (Int × Int)} {ns : List Int} (g : GoodW n ps) (h : ∀ z ∈ ns, 0 ≤ z ∧ z < (ps.length : Int)) : InN n.toNat (endsOf ps ns) := fun e he => by
  obtain ⟨z, hz, rfl⟩ := List.mem_map.mp he
  obtain ⟨z0, z1⟩ := h z hz
  have hp : ps[z.toNat]? = some (ps[z.toNat]'(by omega)) := List.getElem?_eq_getElem _
  rw [getD_of hp]
  obtain ⟨b1, b2, b3, b4⟩ := g.2.2.2 _ (List.mem_of_getElem? hp)
  exact ⟨by omega, by omega⟩
theorem ends_sub {ps : List (Int × Int)} {ns ms : List Int} (h : ∀ z ∈ ns, z ∈ ms) : ∀ e ∈ endsOf ps ns, e ∈ endsOf ps ms := fun e he => by
  obtain ⟨z, hz, rfl⟩ := List.mem_map.mp he
  exact List.mem_map.mpr ⟨z, h z hz, rfl⟩
/-- all places have one mark -/
theorem one_conn {n : Nat} {es : List (Nat × Nat)} (h : InN n es) : (∀ i j, i < (lms n es).length → j < (lms n es).length → mk (lms n es) i = mk (lms n es) j) ↔ ∀ i j, i < n → j < n → Conn es i j := by
  rw [lms_length]
  constructor
  · intro q i j hi hj; exact (lms_iff h hi hj).mp (q i j hi hj)
  · intro q i j hi hj; exact (lms_iff h hi hj).mpr (q i j hi hj)
theorem grp_conn {n : Nat} {es : List (Nat × Nat)} (hn : 1 ≤ n) (h : InN n es) : (grp (pms n es)).length = 1 ↔ ∀ i j, i < n → j < n → Conn es i j := by
  rw [grp_one (by rw [pms_length]; exact hn), (same_pms h).one]
  exact one_conn h
theorem conn_perm {ps : List (Int × Int)} {ns ms : List Int} (h : ∀ z, z ∈ ns ↔ z ∈ ms) {i j : Nat} : Conn (endsOf ps ns) i j ↔ Conn (endsOf ps ms) i j :=
  ⟨fun c => c.mono (ends_sub fun z hz => (h z).mp hz), fun c => c.mono (ends_sub fun z hz => (h z).mpr hz)⟩
end My

/-! ## comprehensions over enumerate; cuts -/
namespace My
open PySem L2
section
variable {K : PySem.W.Frag} {a : Addr} {xs : List V} {g : TG} {tt : TT} {te : TE} {o : Nat} {fr : List Nat} {σ : St} {H : Hp} {Q : VK}
theorem lc_enum (Pv : Nat → List V → Hp → Prop) (h0 : Pv 0 [] H) (hz : xs.length < sizeLine) (hl : ∀ i ys H, i ≤ xs.length → Pv i ys H → SqL K H a xs ∧ ys.length ≤ i)
    (hs : ∀ (i : Nat) x ys H (p : Addr), H p = none → xs[i]? = some x → Pv i ys H → LcTurn Pv g tt te o fr σ i (.ref p) ys (upd H p (.tup [.int i, x]))) (hd : ∀ ys H, Pv xs.length ys H → ∀ p, H p = none → Q (.ref p) (upd H p (.lst ys))) : LcR (Ite K a) g tt te o fr σ H Q := by
  refine ⟨fun i m ys H => m = xs.length - i ∧ i ≤ xs.length ∧ Pv i ys H, ⟨xs.length, by simp, Nat.zero_le _, h0⟩, ?_⟩
  rintro i m ys H ⟨rfl, hi, p⟩
  obtain ⟨q, hy⟩ := hl i ys H hi p
  by_cases hlt : i < xs.length
  · refine .inr ⟨⟨xs, xs[i], q, by simp [hlt]⟩, by omega, fun x H' ⟨T, y, hT, ex, eH, hyy⟩ => ?_⟩
    subst ex eH
    exact hs i y ys H T hT (hyy xs q) p (fun j ys H => ∃ m', m' < xs.length - i ∧ m' = xs.length - j ∧ j ≤ xs.length ∧ Pv j ys H) fun ys H p' => ⟨xs.length - (i + 1), by omega, rfl, hlt, p'⟩
  · have e : i = xs.length := by omega
    subst e
    exact .inl ⟨⟨xs, q, Nat.le_refl _⟩, by omega, hd ys H p⟩
end
/-- the numbers of the ties whose ends have unlike marks -/
def unlike (M : List Int) (ps : List (Int × Int)) (i : Nat) : List Int := ((List.range i).filter fun k => decide (mk M (ps.getD k (0, 0)).1.toNat ≠ mk M (ps.getD k (0, 0)).2.toNat)).map fun (k : Nat) => (k : Int)
/-- the ties other than one -/
def wo (ns : List Int) (z : Int) : List Int := ns.filter fun y => decide (y ≠ z)
theorem wo_mem {ns : List Int} {z y : Int} : y ∈ wo ns z ↔ y ∈ ns ∧ y ≠ z := by unfold wo; rw [List.mem_filter]; simp
end My

/-! ## rings -/
namespace My
open PySem L2
/-- the ties of a tree whose cut has the tie -/
def ringA (n : Int) (ps : List (Int × Int)) (ns : List Int) (z : Int) (l : List Int) : List Int := l.filter fun y => decide (z ∈ unlike (lms n.toNat (endsOf ps (wo ns y))) ps ps.length)
theorem unlike_mem {M : List Int} {ps : List (Int × Int)} {z : Int} (h0 : 0 ≤ z) (h1 : z < (ps.length : Int)) : z ∈ unlike M ps ps.length ↔ mk M (ps.getD z.toNat (0, 0)).1.toNat ≠ mk M (ps.getD z.toNat (0, 0)).2.toNat := by
  unfold unlike
  rw [List.mem_map]
  constructor
  · rintro ⟨k, hk, rfl⟩
    have := of_decide_eq_true (List.mem_filter.mp hk).2
    rw [Int.toNat_natCast]
    exact this
  · intro h
    exact ⟨z.toNat, List.mem_filter.mpr ⟨List.mem_range.mpr (by omega), decide_eq_true h⟩, by omega⟩
/-- two ascending rows of the same numbers are one -/
theorem sorted_uniq {a b : List Int} (h : a.Perm b) (h1 : a.Pairwise (· ≤ ·)) (h2 : b.Pairwise (· ≤ ·)) : a = b := by
  induction a generalizing b with
  | nil => exact (List.Perm.nil_eq h)
  | cons x a ih =>
    cases b with
    | nil => exact absurd h.length_eq (by simp)
    | cons y b =>
      obtain ⟨hx, ha⟩ := List.pairwise_cons.mp h1
      obtain ⟨hy, hb⟩ := List.pairwise_cons.mp h2
      have e : x = y := by
        have m1 : y ∈ x :: a := h.mem_iff.mpr List.mem_cons_self
        have m2 : x ∈ y :: b := h.mem_iff.mp List.mem_cons_self
        rcases List.mem_cons.mp m1 with e1 | e1
        · exact e1.symm
        · rcases List.mem_cons.mp m2 with e2 | e2
          · exact e2
          · have := hx y e1; have := hy x e2; omega
      subst e
      rw [ih (List.Perm.cons_inv h) ha hb]
end My

/-! ## sorted(tuple of ints) -/
namespace L2
open PySem PySem.Spec PyProof.Rows
section
variable {prog : Program} {w : World} {A : Around} {E : Value → Shared → Prop} {s : Shared}
end
section
variable {X : Cx}
end
end L2

/-! ## t + u, either may be empty -/
namespace L2
open PySem PySem.Spec PyProof.Rows
section
variable {X : Cx}
/-- t + u: where one of them is empty the other one itself -/
def rCatU (K : PySem.W.Frag) : R2 := fun x y H Q => ∃ a b xs ys, x = .ref a ∧ y = .ref b ∧ SqT K H a xs ∧ SqT K H b ys ∧ xs.length + ys.length ≤ sizeLine ∧
  (xs = [] → Q (.ref b) H) ∧ (xs ≠ [] → ys = [] → Q (.ref a) H) ∧ (xs ≠ [] → ys ≠ [] → ∀ p, H p = none → Q (.ref p) (upd H p (.tup (xs ++ ys))))
theorem op_catU (K : PySem.W.Frag) (hk : X.K = K := by rfl) : OpR X (binaryOp .Add) (rCatU K) := by
  intro pins s σ H x y v u Q I rx ry h
  obtain ⟨a, b, xs, ys, e1, e2, ha, hb, hz, q0, q1, q2⟩ := id h
  by_cases hx : xs = []
  · subst hk e1 e2
    cases rx
    cases ry
    obtain ⟨its, r1, p1, _⟩ := I.tuple ha
    obtain ⟨its2, r2, p2, _⟩ := I.tuple hb
    have hi : its = [] := r1.nil_iff.mpr hx
    obtain ⟨⟨cls, dd, data, sl⟩, ho, hc, n, hd⟩ := id p1
    obtain ⟨⟨cls2, dd2, data2, sl2⟩, ho2, hc2, n2, hd2⟩ := id p2
    simp only at hc hd hc2 hd2
    subst hc hd hc2 hd2
    exact concat_meets ⟨_, ho, rfl⟩ ⟨_, ho2, rfl⟩ noFill_tuple_add seq_tuple_add PySem.F.slot_tuple_add PySem.F.entry_tuple_add (PySem.F.args_tuple_add_2 _ _)
      (tuple_addW0 a b its.toArray its2.toArray n n2 dd dd2 sl sl2 (by simp [hi])) ⟨ho, ho2, ⟨.ref b, H, I, rfl, q0 hx⟩⟩
  · exact op_catTK K hk pins s σ H x y v u Q I rx ry ⟨a, b, xs, ys, e1, e2, ha, hb, hx, hz, q1 hx, q2 hx⟩
end
end L2

/-! ## exchanges -/
namespace My
open PySem L2
theorem lm_id {m : List Int} {a b : Nat} (h : mk m a = mk m b) : lm m a b = m := by unfold lm; rw [if_neg (fun z => z h)]
theorem cnt_less {m : List Int} {a b : Nat} (ha : a < m.length) (hb : b < m.length) : cnt m ≤ cnt (lm m a b) + 1 := by
  by_cases e : mk m a = mk m b
  · rw [lm_id e]; omega
  · have := cnt_step ha hb e; omega
theorem cnt_lms {n : Nat} : ∀ es : List (Nat × Nat), InN n es → n ≤ cnt (lms n es) + es.length := by
  refine snoc_ind (fun _ => ?_) fun es x ih hn => ?_
  · have : cnt (lms n []) = n := cnt_range n
    omega
  · obtain ⟨h1, h2, h3⟩ := hn.snoc
    have hl := lms_length n es
    have := cnt_less (m := lms n es) (a := x.1) (b := x.2) (by omega) (by omega)
    have := ih h1
    rw [lms_snoc, List.length_append, List.length_cons, List.length_nil]
    omega
theorem cnt_pos {M : List Int} (h : 1 ≤ M.length) : 1 ≤ cnt M := by
  unfold cnt fstA
  refine List.length_pos_of_mem (a := 0) (List.mem_filter.mpr ⟨List.mem_range.mpr (by omega), fstB_iff.mpr fun i hi => absurd hi (Nat.not_lt_zero i)⟩)
theorem cnt_conn {n : Nat} {es : List (Nat × Nat)} (hn : 1 ≤ n) (h : InN n es) : cnt (lms n es) = 1 ↔ ∀ i j, i < n → j < n → Conn es i j := by
  rw [cnt_one (by rw [lms_length]; exact hn)]
  exact one_conn h
/-- an item once in a row -/
theorem wo_length {ts : List Int} {o : Int} (hn : ts.Nodup) (ho : o ∈ ts) : (wo ts o).length + 1 = ts.length := by
  induction ts with
  | nil => cases ho
  | cons x r ih =>
    obtain ⟨h1, h2⟩ := List.nodup_cons.mp hn
    unfold wo
    rw [List.filter_cons]
    by_cases e : x = o
    · subst e
      rw [if_neg (by simp)]
      have : r.filter (fun y => decide (y ≠ x)) = r := List.filter_eq_self.mpr fun y hy => decide_eq_true fun e => h1 (e ▸ hy)
      rw [this]; rfl
    · rw [if_pos (decide_eq_true e)]
      have := ih h2 ((List.mem_cons.mp ho).resolve_left fun z => e z.symm)
      unfold wo at this
      rw [List.length_cons, List.length_cons]
      omega
/-- the ends of a tie -/
def endOf (ps : List (Int × Int)) (z : Int) : Nat × Nat := ((ps.getD z.toNat (0, 0)).1.toNat, (ps.getD z.toNat (0, 0)).2.toNat)
theorem ends_snoc (ps : List (Int × Int)) (ns : List Int) (z : Int) : endsOf ps (ns ++ [z]) = endsOf ps ns ++ [endOf ps z] := by unfold endsOf endOf; rw [List.map_append]; rfl
theorem end_in {n : Int} {ps : List (Int × Int)} {z : Int} (g : GoodW n ps) (z0 : 0 ≤ z) (z1 : z < (ps.length : Int)) : (endOf ps z).1 < n.toNat ∧ (endOf ps z).2 < n.toNat := by
  have := ends_in (ns := [z]) g (fun y hy => by rw [List.mem_singleton.mp hy]; exact ⟨z0, z1⟩)
  exact this (endOf ps z) (by unfold endsOf endOf; simp)
theorem wo_all {n : Int} {ps : List (Int × Int)} {ts : List Int} {o : Int} (hT : IsTree n ps ts) : ∀ y ∈ wo ts o, 0 ≤ y ∧ y < (ps.length : Int) := fun y hy => hT.1.all y (wo_mem.mp hy).1
/-- a tree with one tie for another is joined where the other one's ends are in two pieces without the one -/
theorem exch {n : Int} {ps : List (Int × Int)} {ts : List Int} {o z : Int} (g : GoodW n ps) (hT : IsTree n ps ts) (ho : o ∈ ts) (z0 : 0 ≤ z) (z1 : z < (ps.length : Int)) :
    (∀ i j, i < n.toNat → j < n.toNat → Conn (endsOf ps (wo ts o ++ [z])) i j) ↔ ¬ Conn (endsOf ps (wo ts o)) (endOf ps z).1 (endOf ps z).2 := by
  have hn : 1 ≤ n.toNat := by have := g.1; omega
  have hw := wo_length hT.1.nodup ho
  have hl : (ts.length : Int) = n - 1 := hT.2.1
  have i0 : InN n.toNat (endsOf ps (wo ts o)) := ends_in g (wo_all hT)
  have hz := end_in g z0 z1
  have ob := hT.1.all o ho
  have hoe := end_in g ob.1 ob.2
  have i1 : InN n.toNat (endsOf ps (wo ts o) ++ [endOf ps z]) := fun e he => (List.mem_append.mp he).elim (i0 e) fun q => by rw [List.mem_singleton.mp q]; exact hz
  have i2 : InN n.toNat (endsOf ps (wo ts o) ++ [endOf ps o]) := fun e he => (List.mem_append.mp he).elim (i0 e) fun q => by rw [List.mem_singleton.mp q]; exact hoe
  have hL := lms_length n.toNat (endsOf ps (wo ts o))
  have le : (endsOf ps (wo ts o)).length = (wo ts o).length := by unfold endsOf; rw [List.length_map]
  rw [ends_snoc]
  constructor
  · intro hc c
    have h1 : cnt (lms n.toNat (endsOf ps (wo ts o) ++ [endOf ps z])) = 1 := (cnt_conn hn i1).mpr hc
    rw [lms_snoc, lm_id ((lms_iff i0 hz.1 hz.2).mpr c)] at h1
    have := cnt_lms _ i0
    omega
  · intro hc
    have h2 : cnt (lms n.toNat (endsOf ps (wo ts o) ++ [endOf ps o])) = 1 := by
      refine (cnt_conn hn i2).mpr fun i j hi hj => ?_
      rw [← ends_snoc]
      refine (conn_perm fun y => ?_).mp (hT.2.2 i j hi hj)
      rw [List.mem_append, wo_mem, List.mem_singleton]
      constructor
      · intro hy
        by_cases e : y = o
        · exact .inr e
        · exact .inl ⟨hy, e⟩
      · rintro (q | q)
        · exact q.1
        · rw [q]; exact ho
    rw [lms_snoc] at h2
    have h3 := cnt_less (m := lms n.toNat (endsOf ps (wo ts o))) (a := (endOf ps o).1) (b := (endOf ps o).2) (by omega) (by omega)
    have h4 := cnt_step (m := lms n.toNat (endsOf ps (wo ts o))) (a := (endOf ps z).1) (b := (endOf ps z).2) (by omega) (by omega) (fun e => hc ((lms_iff i0 hz.1 hz.2).mp e))
    have h5 := cnt_pos (M := lm (lms n.toNat (endsOf ps (wo ts o))) (endOf ps z).1 (endOf ps z).2) (by rw [lm_length]; omega)
    refine (cnt_conn hn i1).mp ?_
    rw [lms_snoc]
    omega
/-- the cut of a tie of a tree -/
def cutT (n : Int) (ps : List (Int × Int)) (ts : List Int) (o : Int) : List Int := unlike (lms n.toNat (endsOf ps (wo ts o))) ps ps.length
theorem unlike_bnd {M : List Int} {ps : List (Int × Int)} {i : Nat} {z : Int} (h : z ∈ unlike M ps i) : 0 ≤ z ∧ z < (i : Int) := by
  unfold unlike at h
  obtain ⟨k, hk, rfl⟩ := List.mem_map.mp h
  have := List.mem_range.mp (List.mem_filter.mp hk).1
  omega
theorem cutT_mem {n : Int} {ps : List (Int × Int)} {ts : List Int} {o z : Int} (g : GoodW n ps) (hT : IsTree n ps ts) (z0 : 0 ≤ z) (z1 : z < (ps.length : Int)) : z ∈ cutT n ps ts o ↔ ¬ Conn (endsOf ps (wo ts o)) (endOf ps z).1 (endOf ps z).2 := by
  have hz := end_in g z0 z1
  unfold cutT
  rw [unlike_mem z0 z1]
  exact not_congr (lms_iff (ends_in g (wo_all hT)) hz.1 hz.2)
def exg (n : Int) (ps : List (Int × Int)) (ts : List Int) (o z : Int) : Prop := o ∈ ts ∧ z ≠ o ∧ z ∈ cutT n ps ts o
instance (n : Int) (ps : List (Int × Int)) (ts : List Int) (o z : Int) : Decidable (exg n ps ts o z) := by unfold exg; infer_instance
theorem exg_iff {n : Int} {ps : List (Int × Int)} {ts : List Int} {o z : Int} (g : GoodW n ps) (hT : IsTree n ps ts) :
    exg n ps ts o z ↔ o ∈ ts ∧ z ∉ ts ∧ 0 ≤ z ∧ z < (ps.length : Int) ∧ ∀ i j, i < n.toNat → j < n.toNat → Conn (endsOf ps (wo ts o ++ [z])) i j := by
  constructor
  · rintro ⟨h1, h2, h3⟩
    obtain ⟨z0, z1⟩ := unlike_bnd h3
    have hc := (cutT_mem g hT z0 z1).mp h3
    refine ⟨h1, fun hz => hc ?_, z0, z1, (exch g hT h1 z0 z1).mpr hc⟩
    refine .edge ?_
    exact List.mem_map.mpr ⟨z, wo_mem.mpr ⟨hz, h2⟩, rfl⟩
  · rintro ⟨h1, h2, z0, z1, hc⟩
    exact ⟨h1, fun e => h2 (e ▸ h1), (cutT_mem g hT z0 z1).mpr ((exch g hT h1 z0 z1).mp hc)⟩
/-! ### the list of exchanges -/
theorem flat_filter {α β : Type} (p : α → Bool) (G : α → List β) : ∀ l : List α, (l.flatMap fun a => if p a = true then G a else []) = (l.filter p).flatMap G
  | [] => rfl
  | x :: l => by
    rw [List.flatMap_cons, flat_filter p G l, List.filter_cons]
    by_cases h : p x = true
    · rw [if_pos h, if_pos h, List.flatMap_cons]
    · rw [if_neg h, if_neg h]; rfl
end My

/-! ## lists of pairs, a list changed -/
namespace My
open PySem L2
theorem PairsV.mut {H : Hp} {l : Addr} {ys zs xs : List V} {ps : List (Int × Int)} (hP : PairsV H xs ps) (hl : H l = some (.lst ys)) : PairsV (upd H l (.lst zs)) xs ps := by
  refine ⟨hP.1, fun j p e => ?_⟩
  obtain ⟨v, e1, tt, e2, e3⟩ := hP.2 j p e
  exact ⟨v, e1, tt, e2, by rw [upd_ne (ne_of e3 hl (fun z => nomatch z))]; exact e3⟩
end My

/-! ## list(reversed(tuple)) -/
namespace L2
open PySem PySem.Spec PyProof.Rows
/-! ### the iterator of reversed(tuple) -/
def IsRv (h : Heap) (r l : Addr) (i : Int) : Prop := ∃ o, h.get? r = some o ∧ o.cls = .type "reversed" ∧ o.data = .fields #[.ref l, rawInt i]
theorem IsRv.keep {h h' : Heap} {r l : Addr} {i : Int} (x : IsRv h r l i) (e : ∀ o, h.get? r = some o → h'.get? r = some o) : IsRv h' r l i := let ⟨o, a, b⟩ := x; ⟨o, e _ a, b⟩
section
variable {prog : Program} {w : World} {A : Around} {E : Value → Shared → Prop} {s : Shared}
end
section
variable {prog : Program} {w : World} {A : Around} {E : Value → Shared → Prop} {s : Shared} {it a : Addr} {items : Array Value}
end
section
variable {X : Cx} {p p2 pos pos2 : Pos} {e : Expr} {t : TA}
end
end L2

/-! ## t[lo:hi], also the whole -/
namespace L2
open PySem PySem.Spec PyProof.Rows
section
variable {prog : Program} {w : World} {A : Around} {E : Value → Shared → Prop} {s : Shared}
end
section
variable {X : Cx}
end
end L2

/-! ## tuples of ints: slices -/
namespace My
open PySem L2
end My

/-! ## x in a list of objects, by what they hold -/
namespace L2
open PySem PySem.Spec PyProof.Rows
section
variable {X : Cx}
end
end L2
namespace My
open PySem L2
end My

/-! ## rings and cuts of a tree, and behind an exchange -/
namespace My
open PySem L2
/-- of the tree's own ties only the one that is left out is in the cut -/
theorem cut_own {n : Int} {ps : List (Int × Int)} {ts : List Int} {o y : Int} (g : GoodW n ps) (hT : IsTree n ps ts) (ho : o ∈ ts) (hy : y ∈ ts) : y ∈ cutT n ps ts o ↔ y = o := by
  have yb := hT.1.all y hy
  rw [cutT_mem g hT yb.1 yb.2]
  constructor
  · intro h
    by_cases e : y = o
    · exact e
    · exact absurd (.edge (List.mem_map.mpr ⟨y, wo_mem.mpr ⟨hy, e⟩, rfl⟩)) h
  · rintro rfl
    refine (exch g hT hy yb.1 yb.2).mp fun i j hi hj => (conn_perm fun z => ?_).mp (hT.2.2 i j hi hj)
    rw [List.mem_append, wo_mem, List.mem_singleton]
    constructor
    · intro hz
      by_cases e : z = y
      · exact .inr e
      · exact .inl ⟨hz, e⟩
    · rintro (q | q)
      · exact q.1
      · rw [q]; exact hy
theorem ringA_mem {n : Int} {ps : List (Int × Int)} {ts l : List Int} {z y : Int} : y ∈ ringA n ps ts z l ↔ y ∈ l ∧ z ∈ cutT n ps ts y := by
  unfold ringA
  rw [List.mem_filter, decide_eq_true_iff]
  exact Iff.rfl
/-- the tree behind an exchange -/
theorem exg_tree {n : Int} {ps : List (Int × Int)} {ts ms : List Int} {o z : Int} (g : GoodW n ps) (hT : IsTree n ps ts) (hx : exg n ps ts o z) (hpm : ms.Perm (wo ts o ++ [z])) (hpw : ms.Pairwise (· ≤ ·)) : IsTree n ps ms := by
  obtain ⟨ho, hz, z0, z1, hc⟩ := (exg_iff g hT).mp hx
  have nd : (wo ts o ++ [z]).Nodup := nd_snoc (hT.1.nodup.sublist List.filter_sublist) fun h => hz (wo_mem.mp h).1
  have ndm : ms.Nodup := hpm.nodup_iff.mpr nd
  have hl := wo_length hT.1.nodup ho
  have hl2 := hpm.length_eq
  rw [List.length_append, List.length_singleton] at hl2
  refine ⟨isSet_iff.mpr ⟨fun y hy => ?_, (List.pairwise_and_iff.mpr ⟨hpw, ndm⟩).imp fun {x y} h => by have := h.1; have := h.2; omega⟩, by rw [hl2, hl]; exact hT.2.1, fun i j hi hj => (conn_perm fun y => hpm.mem_iff).mpr (hc i j hi hj)⟩
  rcases List.mem_append.mp (hpm.mem_iff.mp hy) with h | h
  · exact hT.1.all y (wo_mem.mp h).1
  · rw [List.mem_singleton.mp h]; exact ⟨z0, z1⟩
section
variable {n : Int} {ps : List (Int × Int)} {ts ms : List Int} {o z : Int} (g : GoodW n ps) (hT : IsTree n ps ts) (hx : exg n ps ts o z) (hpm : ms.Perm (wo ts o ++ [z])) (hpw : ms.Pairwise (· ≤ ·))
include g hT hx hpm hpw
end
end My

/-! ## the least tree: each tie that closes no ring -/
namespace My
open PySem L2
def grd (n : Nat) (ps : List (Int × Int)) : Nat → List Int
  | 0 => []
  | k + 1 => if mk (lms n (endsOf ps (grd n ps k))) (endOf ps (k : Int)).1 = mk (lms n (endsOf ps (grd n ps k))) (endOf ps (k : Int)).2 then grd n ps k else grd n ps k ++ [(k : Int)]
theorem grd_succ (n : Nat) (ps : List (Int × Int)) (k : Nat) : grd n ps (k + 1) = if mk (lms n (endsOf ps (grd n ps k))) (endOf ps (k : Int)).1 = mk (lms n (endsOf ps (grd n ps k))) (endOf ps (k : Int)).2 then grd n ps k else grd n ps k ++ [(k : Int)] := rfl
theorem grd_lt {n : Nat} {ps : List (Int × Int)} : ∀ k, ∀ z ∈ grd n ps k, 0 ≤ z ∧ z < (k : Int)
  | 0, z, h => by cases h
  | k + 1, z, h => by
    rw [grd_succ] at h
    split at h
    · have := grd_lt k z h; omega
    · rcases List.mem_append.mp h with h | h
      · have := grd_lt k z h; omega
      · rw [List.mem_singleton.mp h]; omega
theorem grd_asc {n : Nat} {ps : List (Int × Int)} : ∀ k, (grd n ps k).Pairwise (· < ·)
  | 0 => List.Pairwise.nil
  | k + 1 => by
    rw [grd_succ]
    split
    · exact grd_asc k
    · rw [List.pairwise_append]
      exact ⟨grd_asc k, List.pairwise_singleton .., fun a ha b hb => by rw [List.mem_singleton.mp hb]; exact (grd_lt k a ha).2⟩
theorem grd_set {n : Nat} {ps : List (Int × Int)} {k : Nat} (hk : k ≤ ps.length) : IsSet ps.length (grd n ps k) := isSet_iff.mpr ⟨fun z hz => by have := grd_lt k z hz; omega, grd_asc k⟩
theorem grd_in {n : Int} {ps : List (Int × Int)} (g : GoodW n ps) {k : Nat} (hk : k ≤ ps.length) : InN n.toNat (endsOf ps (grd n.toNat ps k)) := ends_in g (grd_set hk).all
/-- what an earlier turn held are the lesser ones of a later one -/
theorem grd_sub {n : Nat} {ps : List (Int × Int)} {j : Nat} : ∀ k, j ≤ k → ∀ z, z ∈ grd n ps j ↔ z ∈ grd n ps k ∧ z < (j : Int)
  | 0, h, z => by
    have : j = 0 := by omega
    subst this
    exact ⟨fun h => (by cases h), fun h => h.1⟩
  | k + 1, h, z => by
    by_cases e : j = k + 1
    · subst e
      exact ⟨fun h => ⟨h, (grd_lt _ z h).2⟩, fun h => h.1⟩
    · have ih := grd_sub (n := n) (ps := ps) (j := j) k (by omega) z
      rw [grd_succ, ih]
      split
      · exact Iff.rfl
      · rw [List.mem_append, List.mem_singleton]
        constructor
        · rintro ⟨h1, h2⟩; exact ⟨.inl h1, h2⟩
        · rintro ⟨h1 | h1, h2⟩
          · exact ⟨h1, h2⟩
          · omega
/-- a tie that was not taken was joined already -/
theorem grd_out {n : Int} {ps : List (Int × Int)} (g : GoodW n ps) {k j : Nat} (hk : k ≤ ps.length) (hj : j < k) (hn : (j : Int) ∉ grd n.toNat ps k) : Conn (endsOf ps (grd n.toNat ps j)) (endOf ps (j : Int)).1 (endOf ps (j : Int)).2 := by
  have he := end_in (z := (j : Int)) g (by omega) (by omega)
  have h1 : (j : Int) ∉ grd n.toNat ps (j + 1) := fun h => hn ((grd_sub k hj _).mp h).1
  rw [grd_succ] at h1
  split at h1
  · rename_i h
    exact (lms_iff (grd_in g (by omega)) he.1 he.2).mp h
  · exact absurd (List.mem_append_right _ (List.mem_singleton.mpr rfl)) h1
theorem grd_cnt {n : Int} {ps : List (Int × Int)} (g : GoodW n ps) : ∀ k, k ≤ ps.length → cnt (lms n.toNat (endsOf ps (grd n.toNat ps k))) + (grd n.toNat ps k).length = n.toNat
  | 0, _ => cnt_range n.toNat
  | k + 1, hk => by
    have ih := grd_cnt g k (by omega)
    have he := end_in (z := (k : Int)) g (by omega) (by omega)
    have hl := lms_length n.toNat (endsOf ps (grd n.toNat ps k))
    rw [grd_succ]
    split
    · exact ih
    · rename_i h
      rw [ends_snoc, lms_snoc, List.length_append, List.length_singleton]
      have := cnt_step (m := lms n.toNat (endsOf ps (grd n.toNat ps k))) (by omega) (by omega) h
      omega
/-- all that is joined is joined over the taken ties -/
theorem grd_conn {n : Int} {ps : List (Int × Int)} (g : GoodW n ps) {ts : List Int} (ht : ∀ z ∈ ts, 0 ≤ z ∧ z < (ps.length : Int)) {i j : Nat} (c : Conn (endsOf ps ts) i j) : Conn (endsOf ps (grd n.toNat ps ps.length)) i j := by
  induction c with
  | refl i => exact .refl i
  | symm _ ih => exact .symm ih
  | trans _ _ i1 i2 => exact .trans i1 i2
  | @edge a b h =>
    obtain ⟨z, hz, e⟩ := List.mem_map.mp h
    obtain ⟨z0, z1⟩ := ht z hz
    have ez : z = ((z.toNat : Nat) : Int) := by omega
    by_cases hm : z ∈ grd n.toNat ps ps.length
    · exact .edge (List.mem_map.mpr ⟨z, hm, e⟩)
    · rw [ez] at hm
      have c := grd_out g (Nat.le_refl _) (by omega) hm
      have c2 := c.mono (ends_sub fun y hy => ((grd_sub ps.length (by omega) y).mp hy).1)
      rw [← ez] at c2
      have ea : a = (endOf ps z).1 := (congrArg Prod.fst e).symm
      have eb : b = (endOf ps z).2 := (congrArg Prod.snd e).symm
      rw [ea, eb]
      exact c2
/-- where there is a tree, the taken ties are one -/
theorem grd_tree {n : Int} {ps : List (Int × Int)} (g : GoodW n ps) {ts : List Int} (hT : IsTree n ps ts) : IsTree n ps (grd n.toNat ps ps.length) := by
  have hc : ∀ i j, i < n.toNat → j < n.toNat → Conn (endsOf ps (grd n.toNat ps ps.length)) i j := fun i j hi hj => grd_conn g hT.1.all (hT.2.2 i j hi hj)
  have h1 := (cnt_conn (by have := g.1; omega) (grd_in g (Nat.le_refl _))).mpr hc
  have h2 := grd_cnt g ps.length (Nat.le_refl _)
  exact ⟨grd_set (Nat.le_refl _), by have := g.1; omega, hc⟩
theorem grd_full {n : Int} {ps : List (Int × Int)} (g : GoodW n ps) (h : ¬ ((grd n.toNat ps ps.length).length : Int) < n - 1) : IsTree n ps (grd n.toNat ps ps.length) := by
  have h2 := grd_cnt g ps.length (Nat.le_refl _)
  have h3 := cnt_pos (M := lms n.toNat (endsOf ps (grd n.toNat ps ps.length))) (by rw [lms_length]; have := g.1; omega)
  exact ⟨grd_set (Nat.le_refl _), by have := g.1; omega, (cnt_conn (by have := g.1; omega) (grd_in g (Nat.le_refl _))).mp (by omega)⟩
/-! ### order of rows -/
theorem lex_split : ∀ {a b : List Int}, a.length = b.length → HT.lexLt a b = true → ∃ (p : List Int) (x y : Int) (r s : List Int), a = p ++ x :: r ∧ b = p ++ y :: s ∧ x < y
  | [], [], _, h => by cases h
  | [], _ :: _, e, _ => by simp at e
  | _ :: _, [], e, _ => by simp at e
  | x :: xs, y :: ys, e, h => by
    rw [HT.lexLt_cons] at h
    by_cases q : x = y
    · subst q
      rw [if_pos rfl] at h
      obtain ⟨p, u, v, r, s, e1, e2, e3⟩ := lex_split (by simpa using e) h
      exact ⟨x :: p, u, v, r, s, by rw [e1]; rfl, by rw [e2]; rfl, e3⟩
    · rw [if_neg q] at h
      exact ⟨[], x, y, xs, ys, rfl, rfl, of_decide_eq_true h⟩
theorem lex_eq : ∀ {a b : List Int}, HT.lexLt a b = false → HT.lexLt b a = false → a = b
  | [], [], _, _ => rfl
  | [], _ :: _, h, _ => by cases h
  | _ :: _, [], _, h => by cases h
  | x :: xs, y :: ys, h1, h2 => by
    rw [HT.lexLt_cons] at h1 h2
    by_cases q : x = y
    · subst q
      rw [if_pos rfl] at h1 h2
      rw [lex_eq h1 h2]
    · rw [if_neg q] at h1
      rw [if_neg (fun e => q e.symm)] at h2
      have := of_decide_eq_false h1
      have := of_decide_eq_false h2
      omega
/-- no tree is less -/
theorem grd_least {n : Int} {ps : List (Int × Int)} (g : GoodW n ps) {ts : List Int} (hT : IsTree n ps ts) : HT.lexLt ts (grd n.toNat ps ps.length) = false := by
  have hG := grd_tree g hT
  cases h : HT.lexLt ts (grd n.toNat ps ps.length) with
  | false => rfl
  | true =>
    exfalso
    obtain ⟨p, x, y, r, s, e1, e2, hxy⟩ := lex_split (by have := hT.2.1; have := hG.2.1; omega) h
    have hx : x ∈ ts := by rw [e1]; simp
    obtain ⟨x0, x1⟩ := hT.1.all x hx
    have at1 := (isSet_iff.mp hT.1).2
    have ag := grd_asc (n := n.toNat) (ps := ps) ps.length
    rw [e1, List.pairwise_append] at at1
    rw [e2, List.pairwise_append] at ag
    have px : ∀ z ∈ p, z < x := fun z hz => at1.2.2 z hz x List.mem_cons_self
    have ys : ∀ z ∈ y :: s, x < z := fun z hz => by
      rcases List.mem_cons.mp hz with e | hz
      · rw [e]; exact hxy
      · have := (List.pairwise_cons.mp ag.2.1).1 z hz; omega
    have ex : x = ((x.toNat : Nat) : Int) := by omega
    have hn : ((x.toNat : Nat) : Int) ∉ grd n.toNat ps ps.length := by
      rw [← ex, e2, List.mem_append]
      rintro (h | h)
      · have := px x h; omega
      · have := ys x h; omega
    have c := grd_out g (Nat.le_refl _) (by omega) hn
    have c2 : Conn (endsOf ps (wo ts x)) (endOf ps x).1 (endOf ps x).2 := by
      rw [← ex] at c
      refine c.mono (ends_sub fun z hz => ?_)
      obtain ⟨h1, h2⟩ := (grd_sub ps.length (by omega) z).mp hz
      rw [← ex] at h2
      rw [e2, List.mem_append] at h1
      rcases h1 with h1 | h1
      · exact wo_mem.mpr ⟨by rw [e1]; exact List.mem_append_left _ h1, by omega⟩
      · have := ys z h1; omega
    exact (cutT_mem g hT x0 x1).mp ((cut_own g hT hx hx).mpr rfl) c2
end My

/-! ## min(list of tuples of ints) -/
namespace My
open PySem L2
theorem lex_trans : ∀ {a b c : List Int}, HT.lexLt a b = true → HT.lexLt b c = true → HT.lexLt a c = true
  | [], [], _, h, _ => by cases h
  | [], _ :: _, [], _, h => by cases h
  | [], _ :: _, _ :: _, _, _ => rfl
  | _ :: _, [], _, h, _ => by cases h
  | _ :: _, _ :: _, [], _, h => by cases h
  | x :: xs, y :: ys, z :: zs, h1, h2 => by
    rw [HT.lexLt_cons] at h1 h2 ⊢
    by_cases e1 : x = y
    · subst e1
      rw [if_pos rfl] at h1
      by_cases e2 : x = z
      · subst e2
        rw [if_pos rfl] at h2 ⊢
        exact lex_trans h1 h2
      · rw [if_neg e2] at h2 ⊢
        exact h2
    · rw [if_neg e1] at h1
      have h1 := of_decide_eq_true h1
      by_cases e2 : y = z
      · subst e2
        rw [if_neg e1]
        exact decide_eq_true h1
      · rw [if_neg e2] at h2
        have h2 := of_decide_eq_true h2
        rw [if_neg (by omega)]
        exact decide_eq_true (by omega)
theorem lex_irrefl : ∀ a : List Int, HT.lexLt a a = false
  | [] => rfl
  | x :: xs => by rw [HT.lexLt_cons, if_pos rfl]; exact lex_irrefl xs
theorem best_le (bt : Nat → Nat → Bool) : ∀ j, argBest bt j ≤ j
  | 0 => Nat.le_refl _
  | j + 1 => by
    unfold argBest
    split
    · exact Nat.le_refl _
    · have := best_le bt j; omega
end My
namespace L2
open PySem PySem.Spec PyProof.Rows
section
variable {prog : Program} {w : World} {A : Around} {I S : Addr} {fp wr : List Addr} {n : Nat} {P : Nat → Value → Prop} {St : Nat → Heap → Prop} {R : Result → Shared → Prop}
/-- the items are tuples of ints, apart from what the loop writes -/
def TupsAt (S : Addr) (wr : List Addr) (P : Nat → Value → Prop) (L : Nat → List Int) (h : Heap) : Prop := ∀ i v, P i v → ∃ a vs, v = .ref a ∧ a ≠ S ∧ a ∉ wr ∧ IsTup h a vs ∧ IntsAre vs.toList (L i)
theorem TupsAt.keep {L : Nat → List Int} {h h' : Heap} (x : TupsAt S wr P L h) (k : ∀ b o, b ≠ S → b ∉ wr → h.get? b = some o → h'.get? b = some o) : TupsAt S wr P L h' := fun i v p => by
  obtain ⟨a, vs, e, n1, n2, ⟨o, ho, z⟩, hi⟩ := x i v p
  exact ⟨a, vs, e, n1, n2, ⟨o, k a o n1 n2 ho, z⟩, hi⟩
end
section
variable {X : Cx}
end
end L2

/-! ## lists of tuples of ints; all ascending rows of a length -/
namespace My
open PySem L2
def TupV (H : Hp) (v : V) (l : List Int) : Prop := ∃ a, v = .ref a ∧ H a = some (.tup (IL l))
def TupsV (H : Hp) (xs : List V) (L : List (List Int)) : Prop := xs.length = L.length ∧ ∀ (i : Nat) (l : List Int), L[i]? = some l → ∃ v, xs[i]? = some v ∧ TupV H v l
theorem TupsV.same {H H' : Hp} {xs : List V} {L : List (List Int)} (s : Same H H') (h : TupsV H xs L) : TupsV H' xs L := ⟨h.1, fun i l e => let ⟨v, e1, a, e2, e3⟩ := h.2 i l e; ⟨v, e1, a, e2, s _ _ e3⟩⟩
theorem TupsV.at {H : Hp} {xs : List V} {L : List (List Int)} (h : TupsV H xs L) {i : Nat} {v : V} (e : xs[i]? = some v) : ∃ l, L[i]? = some l ∧ TupV H v l := by
  have hi : i < xs.length := (List.getElem?_eq_some_iff.mp e).1
  have hp : i < L.length := by rw [← h.1]; exact hi
  obtain ⟨v', e1, q⟩ := h.2 i L[i] (List.getElem?_eq_getElem hp)
  rw [e] at e1
  cases e1
  exact ⟨_, List.getElem?_eq_getElem hp, q⟩
theorem TupsV.nil {H : Hp} : TupsV H [] [] := ⟨rfl, fun i p e => by simp at e⟩
theorem TupsV.app {H : Hp} {xs ys : List V} {L M : List (List Int)} (h : TupsV H xs L) (h2 : TupsV H ys M) : TupsV H (xs ++ ys) (L ++ M) := by
  refine ⟨by rw [List.length_append, List.length_append, h.1, h2.1], fun i l e => ?_⟩
  by_cases hi : i < L.length
  · rw [List.getElem?_append_left hi] at e
    obtain ⟨v, e1, q⟩ := h.2 i l e
    exact ⟨v, by rw [List.getElem?_append_left (by rw [h.1]; exact hi)]; exact e1, q⟩
  · rw [List.getElem?_append_right (by omega)] at e
    obtain ⟨v, e1, q⟩ := h2.2 _ l e
    exact ⟨v, by rw [List.getElem?_append_right (by rw [h.1]; omega), h.1]; exact e1, q⟩
theorem TupsV.one {H : Hp} {v : V} {l : List Int} (q : TupV H v l) : TupsV H [v] [l] := ⟨rfl, fun i m e => by
  cases i with
  | zero => have e : l = m := by simpa using e
            exact ⟨v, rfl, e ▸ q⟩
  | succ i => simp at e⟩
theorem TupsV.snoc {H : Hp} {xs : List V} {L : List (List Int)} {v : V} {l : List Int} (h : TupsV H xs L) (q : TupV H v l) : TupsV H (xs ++ [v]) (L ++ [l]) := h.app (.one q)
/-! ### rows -/
def nxt (s : List Int) : Int := match s.getLast? with | none => 0 | some x => x + 1
def ext1 (m : Int) (s : List Int) : List (List Int) := (List.range (m - nxt s).toNat).map fun (i : Nat) => s ++ [nxt s + (i : Int)]
def cmb (m : Int) : Nat → List (List Int)
  | 0 => [[]]
  | k + 1 => (cmb m k).flatMap (ext1 m)
theorem nxt_snoc (s : List Int) (x : Int) : nxt (s ++ [x]) = x + 1 := by unfold nxt; rw [List.getLast?_append]; rfl
theorem ext1_mem {m : Int} {s l : List Int} : l ∈ ext1 m s ↔ ∃ t, nxt s ≤ t ∧ t < m ∧ l = s ++ [t] := by
  unfold ext1
  rw [List.mem_map]
  constructor
  · rintro ⟨i, hi, rfl⟩
    have := List.mem_range.mp hi
    exact ⟨_, by omega, by omega, rfl⟩
  · rintro ⟨t, h1, h2, rfl⟩
    exact ⟨(t - nxt s).toNat, List.mem_range.mpr (by omega), by rw [show nxt s + (((t - nxt s).toNat : Nat) : Int) = t by omega]⟩
theorem asc_snoc {m : Nat} {s : List Int} {t : Int} : IsSet m (s ++ [t]) ↔ IsSet m s ∧ nxt s ≤ t ∧ 0 ≤ t ∧ t < (m : Int) := by
  rw [isSet_iff, isSet_iff, List.pairwise_append]
  have last : (∀ a ∈ s, ∀ b ∈ [t], a < b) ∧ s.Pairwise (· < ·) → nxt s ≤ t ∨ t < 0 := by
    rintro ⟨h, _⟩
    unfold nxt
    cases e : s.getLast? with
    | none => by_cases h0 : 0 ≤ t; exact .inl h0; exact .inr (by omega)
    | some x => have := h x (List.mem_of_getLast? e) t (by simp); exact .inl (by show x + 1 ≤ t; omega)
  constructor
  · rintro ⟨h1, h2, _, h3⟩
    have ht := h1 t (by simp)
    refine ⟨⟨fun z hz => h1 z (List.mem_append_left _ hz), h2⟩, ?_, ht⟩
    rcases last ⟨h3, h2⟩ with h | h
    · exact h
    · omega
  · rintro ⟨⟨h1, h2⟩, h3, h4, h5⟩
    refine ⟨fun z hz => ?_, h2, List.pairwise_singleton .., fun a ha b hb => ?_⟩
    · rcases List.mem_append.mp hz with h | h
      · exact h1 z h
      · rw [List.mem_singleton.mp h]; exact ⟨h4, h5⟩
    · rw [List.mem_singleton.mp hb]
      have key : ∀ {s : List Int} {a : Int}, s.Pairwise (· < ·) → a ∈ s → a < nxt s := by
        refine fun {s} => snoc_ind (P := fun s => ∀ {a : Int}, s.Pairwise (· < ·) → a ∈ s → a < nxt s) (fun {a} _ h => by cases h) (fun l x ih {a} hp h => ?_) s
        rw [nxt_snoc]
        rw [List.pairwise_append] at hp
        rcases List.mem_append.mp h with h | h
        · have := hp.2.2 a h x (by simp); omega
        · rw [List.mem_singleton.mp h]; omega
      have := key h2 ha
      omega
theorem cmb_mem {m : Nat} : ∀ {k : Nat} {l : List Int}, l ∈ cmb (m : Int) k ↔ l.length = k ∧ IsSet m l
  | 0, l => by
    show l ∈ [[]] ↔ _
    rw [List.mem_singleton]
    constructor
    · rintro rfl; exact ⟨rfl, fun i z e => by simp at e⟩
    · rintro ⟨h, _⟩; exact List.length_eq_zero_iff.mp h
  | k + 1, l => by
    show l ∈ (cmb (m : Int) k).flatMap (ext1 m) ↔ _
    rw [List.mem_flatMap]
    constructor
    · rintro ⟨s, hs, hl⟩
      obtain ⟨t, h1, h2, rfl⟩ := ext1_mem.mp hl
      obtain ⟨e, hI⟩ := cmb_mem.mp hs
      have n0 : 0 ≤ nxt s := by
        unfold nxt
        cases q : s.getLast? with
        | none => exact Int.le_refl 0
        | some x => have := (hI.all x (List.mem_of_getLast? q)).1; show 0 ≤ x + 1; omega
      exact ⟨by rw [List.length_append, e]; rfl, asc_snoc.mpr ⟨hI, h1, by omega, h2⟩⟩
    · rintro ⟨e, hI⟩
      have hne : l ≠ [] := fun z => by rw [z] at e; simp at e
      obtain ⟨s, t, rfl⟩ : ∃ s t, l = s ++ [t] := ⟨l.dropLast, l.getLast hne, (List.dropLast_concat_getLast hne).symm⟩
      obtain ⟨h1, h2, h3, h4⟩ := asc_snoc.mp hI
      exact ⟨s, cmb_mem.mpr ⟨by rw [List.length_append] at e; simpa using e, h1⟩, ext1_mem.mpr ⟨t, h2, h4, rfl⟩⟩
theorem ext1_len {m : Nat} {s : List Int} (h : IsSet m s) : (ext1 (m : Int) s).length ≤ m := by
  unfold ext1
  rw [List.length_map, List.length_range]
  have n0 : 0 ≤ nxt s := by
    unfold nxt
    cases q : s.getLast? with
    | none => exact Int.le_refl 0
    | some x => have := (h.all x (List.mem_of_getLast? q)).1; show 0 ≤ x + 1; omega
  omega
theorem flat_len {m : Nat} : ∀ L : List (List Int), (∀ s ∈ L, IsSet m s) → (L.flatMap (ext1 (m : Int))).length ≤ m * L.length
  | [], _ => Nat.zero_le _
  | s :: L, h => by
    have := flat_len L fun x hx => h x (List.mem_cons_of_mem _ hx)
    have := ext1_len (h s List.mem_cons_self)
    rw [List.flatMap_cons, List.length_append, List.length_cons, Nat.mul_succ]
    omega
theorem flat_succ {α β : Type} {l : List α} {f : α → List β} {i : Nat} {y : α} (h : l[i]? = some y) : (l.take (i + 1)).flatMap f = (l.take i).flatMap f ++ f y := by
  rw [List.take_succ, h, List.flatMap_append]
  congr 1
  show List.flatMap f [y] = _
  simp
end My

/-! ## every tree is reached by exchanges -/
namespace My
open PySem L2
theorem asc_sub : ∀ {w t : List Int}, t.Pairwise (· < ·) → w.Pairwise (· < ·) → (∀ z ∈ t, z ∈ w) → t.Sublist w
  | [], [], _, _, _ => List.Sublist.slnil
  | [], x :: t, _, _, h => absurd (h x List.mem_cons_self) (by simp)
  | y :: w, [], _, _, _ => List.nil_sublist _
  | y :: w, x :: t, ht, hw, h => by
    obtain ⟨h1, h2⟩ := List.pairwise_cons.mp ht
    obtain ⟨h3, h4⟩ := List.pairwise_cons.mp hw
    by_cases e : x = y
    · subst e
      refine List.Sublist.cons₂ _ (asc_sub h2 h4 fun z hz => ?_)
      rcases List.mem_cons.mp (h z (List.mem_cons_of_mem _ hz)) with q | q
      · have := h1 z hz; omega
      · exact q
    · have hx : x ∈ w := (List.mem_cons.mp (h x List.mem_cons_self)).resolve_left e
      refine List.Sublist.cons _ (asc_sub ht h4 fun z hz => ?_)
      rcases List.mem_cons.mp (h z hz) with q | q
      · have := h3 x hx
        rcases List.mem_cons.mp hz with q2 | q2
        · rw [q2]; exact hx
        · have := h1 z q2; omega
      · exact q
/-- a tree crosses each cut of another -/
theorem cross {n : Int} {ps : List (Int × Int)} {T W : List Int} {o : Int} (g : GoodW n ps) (hT : IsTree n ps T) (hW : IsTree n ps W) (ho : o ∈ T) : ∃ z ∈ W, z ∈ cutT n ps T o := by
  refine Classical.byContradiction fun hno => ?_
  have all : ∀ i j, Conn (endsOf ps W) i j → Conn (endsOf ps (wo T o)) i j := fun i j c => by
    induction c with
    | refl i => exact .refl i
    | symm _ ih => exact .symm ih
    | trans _ _ i1 i2 => exact .trans i1 i2
    | @edge a b h =>
      obtain ⟨z, hz, e⟩ := List.mem_map.mp h
      obtain ⟨z0, z1⟩ := hW.1.all z hz
      have c : Conn (endsOf ps (wo T o)) (endOf ps z).1 (endOf ps z).2 := Classical.byContradiction fun hc => hno ⟨z, hz, (cutT_mem g hT z0 z1).mpr hc⟩
      have ea : a = (endOf ps z).1 := (congrArg Prod.fst e).symm
      have eb : b = (endOf ps z).2 := (congrArg Prod.snd e).symm
      rw [ea, eb]
      exact c
  have ob := hT.1.all o ho
  have he := end_in g ob.1 ob.2
  exact (cutT_mem g hT ob.1 ob.2).mp ((cut_own g hT ho ho).mpr rfl) (all _ _ (hW.2.2 _ _ he.1 he.2))
theorem reach {n : Int} {ps : List (Int × Int)} {W : List Int} (g : GoodW n ps) (hW : IsTree n ps W) (R : List Int → Prop)
    (close : ∀ T o z ms, R T → IsTree n ps T → exg n ps T o z → ms.Perm (wo T o ++ [z]) → ms.Pairwise (· ≤ ·) → R ms) : ∀ (k : Nat) (T : List Int), R T → IsTree n ps T → (T.filter fun y => decide (y ∉ W)).length = k → R W
  | 0, T, hR, hT, h => by
    have hsub : ∀ z ∈ T, z ∈ W := fun z hz => Classical.byContradiction fun hn => by
      have : z ∈ T.filter fun y => decide (y ∉ W) := List.mem_filter.mpr ⟨hz, decide_eq_true hn⟩
      rw [List.length_eq_zero_iff.mp h] at this
      cases this
    have := (asc_sub (isSet_iff.mp hT.1).2 (isSet_iff.mp hW.1).2 hsub).eq_of_length (by have := hT.2.1; have := hW.2.1; omega)
    exact this ▸ hR
  | k + 1, T, hR, hT, h => by
    obtain ⟨o, hof⟩ : ∃ o, o ∈ T.filter fun y => decide (y ∉ W) := List.exists_mem_of_length_pos (by omega)
    have ho := (List.mem_filter.mp hof).1
    have hoW : o ∉ W := of_decide_eq_true (List.mem_filter.mp hof).2
    obtain ⟨z, hzW, hzc⟩ := cross g hT hW ho
    have hzo : z ≠ o := fun e => hoW (e ▸ hzW)
    have hx : exg n ps T o z := ⟨ho, hzo, hzc⟩
    have hpm : ((wo T o ++ [z]).mergeSort fun a b => decide (a ≤ b)).Perm (wo T o ++ [z]) := List.mergeSort_perm ..
    have hpw : ((wo T o ++ [z]).mergeSort fun a b => decide (a ≤ b)).Pairwise (· ≤ ·) := by
      have := List.pairwise_mergeSort (le := fun (a b : Int) => decide (a ≤ b)) (fun a b c h1 h2 => by simp only [decide_eq_true_eq] at *; omega) (fun a b => by simp only [Bool.or_eq_true, decide_eq_true_eq]; omega) (wo T o ++ [z])
      exact this.imp fun h => by simpa using h
    refine reach g hW R close k _ (close T o z _ hR hT hx hpm hpw) (exg_tree g hT hx hpm hpw) ?_
    rw [(hpm.filter _).length_eq, List.filter_append]
    have e1 : [z].filter (fun y => decide (y ∉ W)) = [] := by rw [List.filter_cons, if_neg (by simpa using hzW)]; rfl
    rw [e1, List.append_nil]
    have e2 : (wo T o).filter (fun y => decide (y ∉ W)) = wo (T.filter fun y => decide (y ∉ W)) o := by
      unfold wo
      rw [List.filter_filter, List.filter_filter]
      refine List.filter_congr fun y _ => Bool.and_comm ..
    rw [e2]
    have := wo_length (hT.1.nodup.sublist List.filter_sublist) hof
    omega
end My

/-! ## marks merged, ties grown -/
namespace My
open PySem L2
def pmf (M : List Int) (es : List (Nat × Nat)) : List Int := es.foldl (fun m e => pm m e.1 e.2) M
theorem pmf_snoc (M : List Int) (es : List (Nat × Nat)) (e : Nat × Nat) : pmf M (es ++ [e]) = pm (pmf M es) e.1 e.2 := by unfold pmf; rw [List.foldl_append]; rfl
theorem pmf_length (M : List Int) : ∀ es : List (Nat × Nat), (pmf M es).length = M.length := by
  intro es
  unfold pmf
  induction es generalizing M with
  | nil => rfl
  | cons e l ih => rw [List.foldl_cons, ih, pm_length]
end My
namespace My
open PySem L2
theorem cut_upto {xs : List V} {i : Int} (h0 : 0 ≤ i) : cutV xs none (some i) = xs.take i.toNat := by
  have e : HT.sIx xs.length xs.length (some i) = min i.toNat xs.length := by
    show (if i < 0 then (i + (xs.length : Int)).toNat else min i.toNat xs.length) = _
    rw [if_neg (by omega)]
  unfold cutV
  rw [e, HT.sIx_none, List.drop_zero, Nat.sub_zero]
  by_cases h : i.toNat ≤ xs.length
  · rw [Nat.min_eq_left h]
  · rw [Nat.min_eq_right (by omega), List.take_of_length_le (Nat.le_refl _), List.take_of_length_le (by omega)]
/-- all numbers of ties -/
def rgL (m : Nat) : List Int := (List.range m).map fun (i : Nat) => (i : Int)
theorem rgL_mem {m : Nat} {z : Int} : z ∈ rgL m ↔ 0 ≤ z ∧ z < (m : Int) := by
  unfold rgL
  rw [List.mem_map]
  constructor
  · rintro ⟨i, hi, rfl⟩
    have := List.mem_range.mp hi
    omega
  · intro h
    exact ⟨z.toNat, List.mem_range.mpr (by omega), by omega⟩
theorem rgL_length (m : Nat) : (rgL m).length = m := by unfold rgL; simp
theorem rgL_asc (m : Nat) : (rgL m).Pairwise (· < ·) := by
  unfold rgL
  rw [List.pairwise_map]
  exact List.pairwise_lt_range.imp fun h => by omega
theorem rgL_set (m : Nat) : IsSet m (rgL m) := isSet_iff.mpr ⟨fun z hz => rgL_mem.mp hz, rgL_asc m⟩
theorem rngI_rgL (m : Nat) : rngI 0 (m : Int) = rgL m := by
  unfold rngI rgL
  rw [Int.sub_zero, Int.toNat_natCast]
  exact List.map_congr_left fun i _ => by omega
/-- all places are one piece over all ties -/
def Joined (n : Int) (ps : List (Int × Int)) : Prop := ∀ i j, i < n.toNat → j < n.toNat → Conn (endsOf ps (rgL ps.length)) i j
end My

/-! ## tuple(range) -/
namespace L2
open PySem PySem.Spec PyProof.Rows
section
variable {prog : Program} {w : World} {A : Around} {E : Value → Shared → Prop} {s : Shared}
theorem collect_rng {r : Addr} {a b c : Int} {t u v : Tok} {n : Nat} {Q : List Value → Shared → Prop} (hh : A.handled = none) (hr : IsRange s.heap r a b c t u v) (hm : Builtin.Range.small a b c = true) (hn : Builtin.Range.rangeSize a b c = n) (hl : n ≤ 2 ^ 24)
    (k : ∀ (h' : Heap) (tk : Nat) (acc : Array Value), (∀ b o, s.heap.get? b = some o → h'.get? b = some o) → ItemsOf (fun i v => ∃ t, v = .int (a + i * c) t) acc n → Q acc.toList { s with heap := h', toks := tk }) : wpAny (model prog w) A (collect (.ref r)) Q E s := by
  have hL1 : (s.heap.push (seqObj "list" #[] 0)).get? s.heap.objs.size = some (seqObj "list" #[] 0) := Heap.get?_push_size _ rfl
  unfold collect
  refine wpAny_bind (wpAny_runValue (codeAny_builtin entry_proto_collect' ?_))
  show wpAny _ A.in1 (do again (.builtin "list.__iadd__" ⟨[← newList [], .ref r], []⟩)) _ _ s
  refine wpAny_bind (wpAny_newList (wpAny_pure ⟨Code.quiet_builtin _ (by decide +kernel), codeAny_builtin entry_list_iadd' ?_⟩))
  show wpAny _ A.in1 (Builtin.List.listExtendWith (.ref s.heap.objs.size) (.ref r) (.ref s.heap.objs.size)) _ _ { s with heap := s.heap.push (seqObj "list" #[] 0) }
  refine wpAny_mono (wpAny_extend_range (A := A) (R := fun x s' => ∃ (h' : Heap) (tk : Nat) (acc : Array Value) (c' : Nat), x = .ok (.ret (.ref s.heap.objs.size)) ∧ s' = { s with heap := h', toks := tk } ∧ (∀ b o, s.heap.get? b = some o → h'.get? b = some o) ∧
      h'.get? s.heap.objs.size = some { cls := .type "list", dict := none, data := .seq acc c', slots := #[] } ∧ ItemsOf (fun i v => ∃ t, v = .int (a + i * c) t) acc n)
    (s := { s with heap := s.heap.push (seqObj "list" #[] 0) }) hh (Heap.get?_push_of_some _ hr) hm hn hl _ _ 0 hL1 fun h' tk acc c' k1 k2 k3 => ⟨h', tk, acc, c', rfl, rfl, fun b o e => k1 b o (Nat.ne_of_lt (Heap.lt_size e)) (Heap.get?_push_of_some _ e), k2, k3⟩) (fun fin s' z => ?_) (fun e s' z => ?_)
  · cases fin with
    | done f =>
      obtain ⟨h', tk, acc, c', e, rfl, k1, k2, k3⟩ := z
      cases e
      refine wpAny_bind (wpAny_load k2 ?_)
      exact wpAny_pure (k h' tk acc k1 k3)
    | again c' =>
      refine ⟨z.1, codeAny_mono z.2 fun x s2 z => ?_⟩
      obtain ⟨h', tk, acc, c', rfl, rfl, k1, k2, k3⟩ := z
      refine wpAny_bind (wpAny_load k2 ?_)
      exact wpAny_pure (k h' tk acc k1 k3)
  · obtain ⟨h', tk, acc, c', e, _⟩ := z
    cases e
theorem new_tuple_rng {r : Addr} {a b c : Int} {t u v : Tok} {n : Nat} (hm : Builtin.Range.small a b c = true) (hn : Builtin.Range.rangeSize a b c = n) (hl : n ≤ 2 ^ 24) :
    Meets (Builtin.«tuple.__new__» ⟨[.type "tuple", .ref r], []⟩) (fun A R s => A.handled = none ∧ IsRange s.heap r a b c t u v ∧ ∀ (h' : Heap) (tk : Nat) (acc : Array Value), (∀ b o, s.heap.get? b = some o → h'.get? b = some o) → ItemsOf (fun i v => ∃ t, v = .int (a + i * c) t) acc n →
      R (.ok (.ret (.ref h'.objs.size))) { s with heap := h'.push (seqObj "tuple" acc 0), toks := tk }) :=
  .of_wp fun prog w A R s h => by
    obtain ⟨hh, hr, h⟩ := h
    have e1 := sub_tuple_self
    have e2 := init_tuple_lookup
    have e3 := madeHere_tuple
    have hT : s.TypeIs (.ref r) "range" := ⟨_, hr, rfl⟩
    have hh1 : A.in1.handled = none := hh
    wp_walk using wpAny_typeOf hT, collect_rng hh1 hr hm hn hl
    intro h' tk acc hk hacc
    show wpAny _ _ (Builtin.Tuple.tupleExact acc.toList.toArray >>= ret) _ _ _
    unfold Builtin.Tuple.tupleExact
    have e : acc.toList.toArray = acc := by simp
    rw [e]
    refine wpAny_bind (wpAny_newObj_type ?_ (by show acc.size ≤ sizeLine; rw [hacc.1, sizeLine_eq]; exact hl))
    exact wpAny_pure ⟨_, rfl, h h' tk acc hk hacc⟩
theorem call_tuple_range {r : Addr} {a b c : Int} {t u v : Tok} {n : Nat} {Q : Value → Shared → Prop} (hh : A.handled = none) (hr : IsRange s.heap r a b c t u v) (hm : Builtin.Range.small a b c = true) (hn : Builtin.Range.rangeSize a b c = n) (hl : n ≤ 2 ^ 24)
    (k : ∀ (h' : Heap) (tk : Nat) (acc : Array Value), (∀ b o, s.heap.get? b = some o → h'.get? b = some o) → ItemsOf (fun i v => ∃ t, v = .int (a + i * c) t) acc n → Q (.ref h'.objs.size) { s with heap := h'.push (seqObj "tuple" acc 0), toks := tk }) : wpAny (model prog w) A (call (.type "tuple") [.ref r]) Q E s :=
  callType_new F.called_tuple (by decide) (F.typeCall_tuple_1 _) (F.newCall_tuple_1 _) (fun o => F.args_object_init_2 o _) F.entry_tuple_new (new_tuple_rng (t := t) (u := u) (v := v) hm hn hl)
    ⟨hh, hr, fun h' tk acc hk hacc => ⟨⟨_, Heap.get?_push_size _ rfl, rfl⟩, k h' tk acc hk hacc⟩⟩
end
section
variable {X : Cx}
theorem call_tuple_rng (hc : X.calm = true) : CallR X (.type "tuple") (fun xs H Q => ∃ p lo hi, xs = [.ref p] ∧ H p = some (.rng lo hi) ∧ (-(2 ^ 62) ≤ lo ∧ lo < 2 ^ 62 ∧ -(2 ^ 62) ≤ hi ∧ hi < 2 ^ 62) ∧ (hi - lo).toNat ≤ 16777216 ∧
    ∀ l, H l = none → Q (.ref l) (upd H l (.tup ((rngI lo hi).map V.int)))) := by
  intro pins s σ H xs us Q I r h
  obtain ⟨p, lo, hi, rfl, hp, ⟨b1, b2, b3, b4⟩, hz, q⟩ := h
  obtain ⟨u, rfl, ru⟩ := vals1 r
  obtain rfl : u = Value.ref p := ru
  obtain ⟨t, u, v, e⟩ := (show ObjOk X.prog X.w H s.heap p (.rng lo hi) from I.hok p _ hp)
  have hn : Builtin.Range.rangeSize lo hi 1 = (((hi - lo).toNat : Nat) : Int) := by rw [rangeSize_one]; split <;> omega
  refine call_tuple_range (I.ok.hd hc) (t := t) (u := u) (v := v) e (small_one b1 b2 b3 b4) hn hz fun h' tk acc hk ha => ?_
  have hl : acc.toList.length = (hi - lo).toNat := by rw [Array.length_toList]; exact ha.1
  have rv : Vals ((rngI lo hi).map V.int) acc.toList := vals_rng (lo := lo) hl fun j w ew => by
    obtain ⟨t, e⟩ := ha.2 j w (by simpa using ew)
    exact ⟨t, by rw [e, Int.mul_one]⟩
  have I1 : Inv X pins σ H { s with heap := h', toks := tk } := I.kept (t' := tk) hk
  have hz2 : ((rngI lo hi).map V.int).length ≤ sizeLine := by
    rw [List.length_map, rngI_length]
    have : sizeLine = 16777216 := sizeLine_eq
    omega
  have I2 : Inv X pins σ (upd H h'.objs.size (.tup ((rngI lo hi).map V.int))) { s with heap := h'.push (seqObj "tuple" acc.toList.toArray 0), toks := tk } :=
    I1.laid (t' := tk) (fun b o e => Heap.get?_push_of_some _ e) (Nat.le_refl _) (show ObjOk X.prog X.w _ _ _ (.tup ((rngI lo hi).map V.int)) from ⟨hz2, acc.toList, rv, IsTup.new _ _⟩)
  have ea : acc.toList.toArray = acc := by simp
  rw [ea] at I2
  exact ⟨.ref h'.objs.size, _, I2, rfl, q _ (I1.hok.fresh (Nat.le_refl _))⟩
end
end L2

/-! ## ties grown in an order: each that closes no ring -/
namespace My
open PySem L2
def gst (n : Nat) (ps : List (Int × Int)) (G : List Int) (z : Int) : List Int := if mk (lms n (endsOf ps G)) (endOf ps z).1 = mk (lms n (endsOf ps G)) (endOf ps z).2 then G else G ++ [z]
def grw (n : Nat) (ps : List (Int × Int)) (zs : List Int) : List Int := zs.foldl (gst n ps) []
theorem grw_snoc (n : Nat) (ps : List (Int × Int)) (zs : List Int) (z : Int) : grw n ps (zs ++ [z]) = gst n ps (grw n ps zs) z := by unfold grw; rw [List.foldl_append]; rfl
theorem grw_app (n : Nat) (ps : List (Int × Int)) (zs : List Int) : ∀ ys, ∃ us, grw n ps (zs ++ ys) = grw n ps zs ++ us ∧ us.Sublist ys := by
  refine snoc_ind ⟨[], by simp⟩ fun ys y ih => ?_
  obtain ⟨us, e, s⟩ := ih
  rw [← List.append_assoc, grw_snoc, e]
  unfold gst
  split
  · exact ⟨us, rfl, s.trans (List.sublist_append_left _ _)⟩
  · exact ⟨us ++ [y], by rw [List.append_assoc], s.append (List.Sublist.refl _)⟩
theorem grw_sub (n : Nat) (ps : List (Int × Int)) (zs : List Int) : (grw n ps zs).Sublist zs := by
  obtain ⟨us, e, s⟩ := grw_app n ps [] zs
  rw [List.nil_append] at e
  rw [e]
  exact s
theorem grw_range (n : Nat) (ps : List (Int × Int)) : ∀ k, grw n ps ((List.range k).map fun (i : Nat) => (i : Int)) = grd n ps k
  | 0 => rfl
  | k + 1 => by rw [List.range_succ, List.map_append, List.map_singleton, grw_snoc, grw_range n ps k, grd_succ]; rfl
theorem grw_all {n : Nat} {ps : List (Int × Int)} {zs : List Int} (h : ∀ z ∈ zs, 0 ≤ z ∧ z < (ps.length : Int)) : ∀ z ∈ grw n ps zs, 0 ≤ z ∧ z < (ps.length : Int) := fun z hz => h z ((grw_sub n ps zs).subset hz)
theorem grw_in {n : Int} {ps : List (Int × Int)} (g : GoodW n ps) {zs : List Int} (h : ∀ z ∈ zs, 0 ≤ z ∧ z < (ps.length : Int)) : InN n.toNat (endsOf ps (grw n.toNat ps zs)) := ends_in g (grw_all h)
theorem grw_cnt {n : Int} {ps : List (Int × Int)} (g : GoodW n ps) : ∀ zs : List Int, (∀ z ∈ zs, 0 ≤ z ∧ z < (ps.length : Int)) → cnt (lms n.toNat (endsOf ps (grw n.toNat ps zs))) + (grw n.toNat ps zs).length = n.toNat := by
  refine snoc_ind (fun _ => cnt_range n.toNat) fun zs z ih h => ?_
  have h1 : ∀ z ∈ zs, 0 ≤ z ∧ z < (ps.length : Int) := fun y hy => h y (List.mem_append_left _ hy)
  have ih := ih h1
  obtain ⟨z0, z1⟩ := h z (List.mem_append_right _ (List.mem_singleton.mpr rfl))
  have he := end_in (z := z) g z0 z1
  have hl := lms_length n.toNat (endsOf ps (grw n.toNat ps zs))
  rw [grw_snoc]
  unfold gst
  split
  · exact ih
  · rename_i h
    rw [ends_snoc, lms_snoc, List.length_append, List.length_singleton]
    have := cnt_step (m := lms n.toNat (endsOf ps (grw n.toNat ps zs))) (by omega) (by omega) h
    omega
theorem grw_len {n : Int} {ps : List (Int × Int)} (g : GoodW n ps) {zs : List Int} (h : ∀ z ∈ zs, 0 ≤ z ∧ z < (ps.length : Int)) : (grw n.toNat ps zs).length ≤ 14 := by
  have := grw_cnt g zs h
  have := g.2.1
  omega
end My
namespace My
open PySem L2
theorem grd_joined {n : Int} {ps : List (Int × Int)} (g : GoodW n ps) : Joined n ps ↔ ¬ ((grd n.toNat ps ps.length).length : Int) < n - 1 := by
  constructor
  · intro h
    have hc : ∀ i j, i < n.toNat → j < n.toNat → Conn (endsOf ps (grd n.toNat ps ps.length)) i j := fun i j hi hj => grd_conn g (fun z hz => rgL_mem.mp hz) (h i j hi hj)
    have h1 := (cnt_conn (by have := g.1; omega) (grd_in g (Nat.le_refl _))).mpr hc
    have h2 := grd_cnt g ps.length (Nat.le_refl _)
    have := g.1
    omega
  · intro h i j hi hj
    exact ((grd_full g h).2.2 i j hi hj).mono (ends_sub fun z hz => rgL_mem.mpr (by have := grd_lt ps.length z hz; omega))
end My

/-! ## lists sorted, however long -/
namespace PyProof.Rows
open PySem
abbrev dK : Keyed := (Value.none, Value.none)
section
variable {M : Model} {A : Around} {E : Value → Shared → Prop} {s : Shared} {O : KeyOrd} {key : Keyed → O.α} {kd : SortKind} {S : Keyed → Prop}
end
end PyProof.Rows
namespace PyProof.Rows
open PySem
section
variable {M : Model} {A : Around} {E : Value → Shared → Prop} {s : Shared} {O : KeyOrd} {key : Keyed → O.α} {kd : SortKind} {S : Keyed → Prop}
def RK (O : KeyOrd) (key : Keyed → O.α) (x y : Keyed) : Prop := O.kle (key x) (key y)
structure MI (O : KeyOrd) (key : Keyed → O.α) (la lb : List Keyed) (out : Array Keyed) (ia ib : Nat) : Prop where
  so : out.toList.Pairwise (RK O key)
  oa : ∀ x ∈ out.toList, ∀ y ∈ la.drop ia, RK O key x y
  ob : ∀ x ∈ out.toList, ∀ y ∈ lb.drop ib, RK O key x y
  pm : (out.toList ++ la.drop ia ++ lb.drop ib).Perm (la ++ lb)
abbrev LoS := Option (Array Keyed) × Array Keyed × Nat × Nat × Nat × Nat × Nat
section
variable {a b out : Array Keyed} {ia ib : Nat} {st : SortSt} {R : ForInStep LoS → SortSt → Prop}
end
section
variable {a b : Array Keyed} {st : SortSt}
end
end
end PyProof.Rows
namespace PyProof.Rows
open PySem
section
variable {M : Model} {A : Around} {E : Value → Shared → Prop} {s : Shared} {O : KeyOrd} {key : Keyed → O.α} {kd : SortKind} {S : Keyed → Prop}
structure MH (O : KeyOrd) (key : Keyed → O.α) (la lb : List Keyed) (out : Array Keyed) (na nb : Nat) : Prop where
  so : out.toList.Pairwise fun x y => RK O key y x
  oa : ∀ x ∈ la.take na, ∀ y ∈ out.toList, RK O key x y
  ob : ∀ x ∈ lb.take nb, ∀ y ∈ out.toList, RK O key x y
  pm : (la.take na ++ lb.take nb ++ out.toList).Perm (la ++ lb)
abbrev HiS := Option (Array Keyed) × Nat × Nat × Array Keyed × Nat × Nat × Nat
section
variable {a b out : Array Keyed} {na nb : Nat} {st : SortSt} {R : ForInStep HiS → SortSt → Prop}
end
section
variable {a b : Array Keyed} {st : SortSt}
end
end
end PyProof.Rows
namespace PyProof.Rows
open PySem
section
variable {M : Model} {A : Around} {E : Value → Shared → Prop} {s : Shared} {O : KeyOrd} {key : Keyed → O.α} {kd : SortKind} {S : Keyed → Prop}
end
end PyProof.Rows
namespace PyProof.Rows
open PySem
section
variable {M : Model} {A : Around} {E : Value → Shared → Prop} {s : Shared} {O : KeyOrd} {key : Keyed → O.α} {kd : SortKind} {S : Keyed → Prop}
/-- as it was, but for the order of what stands from lo on -/
def Stp (lo : Nat) (st st' : SortSt) : Prop := kindOf st' = kindOf st ∧ failedOf st' = failedOf st ∧ pendingOf st' = pendingOf st ∧ (arrOf st').Perm (arrOf st) ∧ ∀ i, i < lo → (arrOf st')[i]? = (arrOf st)[i]?
theorem Stp.refl (lo : Nat) (st : SortSt) : Stp lo st st := ⟨rfl, rfl, rfl, Array.Perm.refl _, fun _ _ => rfl⟩
theorem Stp.trans {lo : Nat} {a b c : SortSt} (h : Stp lo a b) (k : Stp lo b c) : Stp lo a c := ⟨k.1.trans h.1, k.2.1.trans h.2.1, k.2.2.1.trans h.2.2.1, k.2.2.2.1.trans h.2.2.2.1, fun i hi => (k.2.2.2.2 i hi).trans (h.2.2.2.2 i hi)⟩
theorem Stp.size {lo : Nat} {a b : SortSt} (h : Stp lo a b) : (arrOf b).size = (arrOf a).size := h.2.2.2.1.size_eq
theorem Stp.all {lo : Nat} {a b : SortSt} (h : Stp lo a b) (hS : ∀ x ∈ (arrOf a).toList, S x) : ∀ x ∈ (arrOf b).toList, S x := fun x hx => hS x ((Array.perm_iff_toList_perm.mp h.2.2.2.1).mem_iff.mp hx)
end
end PyProof.Rows
namespace PyProof.Rows
open PySem
section
variable {M : Model} {A : Around} {E : Value → Shared → Prop} {s : Shared} {O : KeyOrd} {key : Keyed → O.α} {kd : SortKind} {S : Keyed → Prop}
/-- where the runs lie -/
def offs : List (List Keyed) → Nat → List (Nat × Nat)
  | [], _ => []
  | g :: gs, o => (o, g.length) :: offs gs (o + g.length)
structure PI (O : KeyOrd) (key : Keyed → O.α) (kd : SortKind) (a₀ : Array Keyed) (st : SortSt) (segs : List (List Keyed)) (rest : List Keyed) : Prop where
  kind : kindOf st = kd
  fail : failedOf st = none
  perm : (arrOf st).Perm a₀
  arr : (arrOf st).toList = segs.flatten ++ rest
  srt : ∀ g ∈ segs, 1 ≤ g.length ∧ g.Pairwise (RK O key)
  pend : (pendingOf st).toList.map (fun p => (p.1, p.2.1)) = offs segs 0
theorem PI.size {a₀ : Array Keyed} {st : SortSt} {segs : List (List Keyed)} {rest : List Keyed} (h : PI O key kd a₀ st segs rest) : a₀.size = segs.flatten.length + rest.length := by
  rw [← h.perm.size_eq, ← Array.length_toList, h.arr, List.length_append]
end
end PyProof.Rows

/-! ## sorted(list of tuples of ints), however long -/
namespace L2
open PySem PySem.Spec PyProof.Rows
section
variable {prog : Program} {w : World} {A : Around} {E : Value → Shared → Prop} {s : Shared}
def sameBut (a : Addr) (h h' : Heap) : Prop := ∀ b o, b ≠ a → h.get? b = some o → h'.get? b = some o
/-! ### tuples of ints as keys -/
end
end L2
namespace L2
open PySem PySem.Spec PyProof.Rows My
theorem ints_uniq : ∀ {vs : List Value} {ns ms : List Int}, IntsAre vs ns → IntsAre vs ms → ns = ms
  | _, _, _, .nil, .nil => rfl
  | _, _, _, .cons n t h, .cons _ _ k => by rw [ints_uniq h k]
section
variable {X : Cx}
end
end L2

/-! ## a tuple in a list of tuples, and not in it -/
namespace L2
open PySem PySem.Spec PyProof.Rows
section
variable {X : Cx}
end
end L2
namespace My
open PySem L2
/-! ### rows in order -/
abbrev lexS (a b : List Int) : Prop := HT.lexLt a b = true
theorem lex_app : ∀ (p a b : List Int), HT.lexLt (p ++ a) (p ++ b) = HT.lexLt a b
  | [], a, b => rfl
  | x :: p, a, b => by rw [List.cons_append, List.cons_append, HT.lexLt_cons, if_pos rfl, lex_app p]
theorem lex_ext : ∀ {s t : List Int} (a b : List Int), s.length = t.length → HT.lexLt s t = true → HT.lexLt (s ++ a) (t ++ b) = true
  | [], [], a, b, _, h => by cases h
  | [], _ :: _, a, b, e, _ => by simp at e
  | _ :: _, [], a, b, e, _ => by simp at e
  | x :: s, y :: t, a, b, e, h => by
    rw [HT.lexLt_cons] at h
    rw [List.cons_append, List.cons_append, HT.lexLt_cons]
    split
    · rename_i q; rw [if_pos q] at h; exact lex_ext a b (by simpa using e) h
    · rename_i q; rw [if_neg q] at h; exact h
theorem cmb_size (m : Int) : ∀ k, ∀ l ∈ cmb m k, l.length = k
  | 0, l, h => by rw [List.mem_singleton.mp h]; rfl
  | k + 1, l, h => by
    obtain ⟨s, hs, hl⟩ := List.mem_flatMap.mp h
    obtain ⟨t, _, _, rfl⟩ := ext1_mem.mp hl
    rw [List.length_append, cmb_size m k s hs]; rfl
theorem cmb_asc (m : Int) : ∀ k, (cmb m k).Pairwise lexS
  | 0 => List.pairwise_singleton ..
  | k + 1 => by
    show ((cmb m k).flatMap (ext1 m)).Pairwise lexS
    rw [List.pairwise_flatMap]
    refine ⟨fun s _ => ?_, List.Pairwise.imp_of_mem (fun {s t} hs ht hst => ?_) (cmb_asc m k)⟩
    · unfold ext1
      rw [List.pairwise_map]
      refine List.pairwise_lt_range.imp fun {i j} hij => ?_
      show HT.lexLt _ _ = true
      rw [lex_app, HT.lexLt_cons, if_neg (by omega)]
      exact decide_eq_true (by omega)
    · intro x hx y hy
      obtain ⟨u, _, _, rfl⟩ := ext1_mem.mp hx
      obtain ⟨v, _, _, rfl⟩ := ext1_mem.mp hy
      exact lex_ext _ _ (by rw [cmb_size m k s hs, cmb_size m k t ht]) hst
end My

/-! ## a tie beside a tree has a ring -/
namespace My
open PySem L2
theorem sub_len {α : Type} [DecidableEq α] : ∀ {l m : List α}, l.Nodup → (∀ x ∈ l, x ∈ m) → l.length ≤ m.length
  | [], m, _, _ => Nat.zero_le _
  | x :: l, m, h, hs => by
    obtain ⟨h1, h2⟩ := List.nodup_cons.mp h
    have hx := hs x List.mem_cons_self
    have := sub_len (l := l) (m := m.erase x) h2 fun y hy => (List.mem_erase_of_ne (fun (e : y = x) => h1 (e ▸ hy))).mpr (hs y (List.mem_cons_of_mem _ hy))
    rw [List.length_erase_of_mem hx] at this
    have := List.length_pos_of_mem hx
    rw [List.length_cons]
    omega
end My

/-! ## greater numbers -/
namespace L2
open PySem PySem.Spec PyProof.Rows
section
variable {X : Cx}
end
end L2

/-! ## sorted(list of lists of ints) -/
namespace L2
open PySem PySem.Spec PyProof.Rows
open PySem.SeqAt
open PySem.AutoSeq1 (wpAny_loadPart')
open PySem.MeetsSeq PySem.MeetsSeq2 PySem.MeetsSeq3
end L2
namespace L2
open PySem PySem.Spec PyProof.Rows My
section
variable {prog : Program} {w : World} {A : Around} {E : Value → Shared → Prop} {s : Shared}
end
section
variable {X : Cx}
end
end L2

/-! ## greater factors -/
namespace L2
open PySem PySem.Spec PyProof.Rows
def CMulC (i j : Int) : Prop := (-(10 ^ 200) < i ∧ i < 10 ^ 200) ∧ (-(10 ^ 200) < j ∧ j < 10 ^ 200)
theorem bits_great {a : Int} (h1 : -(10 ^ 200) < a) (h2 : a < 10 ^ 200) : Builtin.Int.intBits a ≤ 1000 := by
  have h : a.natAbs < 10 ^ 200 := by omega
  exact PySem.intBits_le_iff.mpr (Nat.lt_trans h (by decide))
section
variable {X : Cx}
theorem op_mulC : OpR X (binaryOp .Mult) (rI CMulC fun i j => .int (i * j)) := opI fun _ _ _ _ _ _ _ hc q => mul_int q (.of_bits (Nat.le_trans (bits_great hc.1.1 hc.1.2) (by decide)) (Nat.le_trans (bits_great hc.2.1 hc.2.2) (by decide)))
end
end L2

/-! ## all rows of ties that are not longer than a tree -/
namespace My
open PySem L2
end My

/-! ## min(list of ints) -/
namespace L2
open PySem PySem.Spec PyProof.Rows
section
variable {X : Cx}
end
end L2

/-! ## ways from tree to tree -/
namespace My
open PySem L2
/-- the ends of a tie are joined over its ring -/
theorem ring_conn {n : Int} {ps : List (Int × Int)} {T : List Int} {z : Int} (g : GoodW n ps) (hT : IsTree n ps T) (z0 : 0 ≤ z) (z1 : z < (ps.length : Int)) : Conn (endsOf ps (ringA n ps T z T)) (endOf ps z).1 (endOf ps z).2 := by
  have he := end_in (z := z) g z0 z1
  have key : ∀ D : List Int, (∀ o ∈ D, o ∈ T ∧ z ∉ cutT n ps T o) → Conn (endsOf ps (T.filter fun y => decide (y ∉ D))) (endOf ps z).1 (endOf ps z).2 := by
    intro D
    induction D with
    | nil =>
      intro _
      have e : (T.filter fun y => decide (y ∉ ([] : List Int))) = T := List.filter_eq_self.mpr fun y _ => by simp
      rw [e]
      exact hT.2.2 _ _ he.1 he.2
    | cons o D ih =>
      intro hD
      have c := ih fun y hy => hD y (List.mem_cons_of_mem _ hy)
      obtain ⟨hoT, hoc⟩ := hD o List.mem_cons_self
      by_cases hoD : o ∈ D
      · refine c.mono (ends_sub fun y hy => ?_)
        obtain ⟨h1, h2⟩ := List.mem_filter.mp hy
        have h2 := of_decide_eq_true h2
        exact List.mem_filter.mpr ⟨h1, decide_eq_true fun h => (List.mem_cons.mp h).elim (fun e => h2 (e ▸ hoD)) h2⟩
      · refine Classical.byContradiction fun hno => ?_
        have hsub : ∀ y, y ∈ (T.filter fun y => decide (y ∉ o :: D)) → y ∈ wo T o := fun y hy => by
          obtain ⟨h1, h2⟩ := List.mem_filter.mp hy
          have h2 := of_decide_eq_true h2
          exact wo_mem.mpr ⟨h1, fun e => h2 (by rw [e]; exact List.mem_cons_self)⟩
        have c2 : Conn (endsOf ps ((T.filter fun y => decide (y ∉ o :: D)) ++ [o])) (endOf ps z).1 (endOf ps z).2 := (conn_perm fun y => by
          rw [List.mem_append, List.mem_filter, List.mem_filter, List.mem_singleton]
          simp only [decide_eq_true_eq, List.mem_cons, not_or]
          constructor
          · rintro ⟨h1, h2⟩
            by_cases e : y = o
            · exact .inr e
            · exact .inl ⟨h1, e, h2⟩
          · rintro (⟨h1, _, h2⟩ | e)
            · exact ⟨h1, h2⟩
            · rw [e]; exact ⟨hoT, hoD⟩).mp c
        have hall : ∀ y ∈ (T.filter fun y => decide (y ∉ o :: D)), 0 ≤ y ∧ y < (ps.length : Int) := fun y hy => hT.1.all y (List.mem_filter.mp hy).1
        obtain ⟨o0, o1⟩ := hT.1.all o hoT
        have hin : InN n.toNat (endsOf ps (T.filter fun y => decide (y ∉ o :: D))) := ends_in g hall
        have hin1 : InN n.toNat (endsOf ps ((T.filter fun y => decide (y ∉ o :: D)) ++ [o])) := ends_in g fun y hy => by
          rcases List.mem_append.mp hy with h | h
          · exact hall y h
          · rw [List.mem_singleton.mp h]; exact ⟨o0, o1⟩
        have hoe := end_in (z := o) g o0 o1
        have hl := lms_length n.toNat (endsOf ps (T.filter fun y => decide (y ∉ o :: D)))
        have own : ¬ Conn (endsOf ps (wo T o)) (endOf ps o).1 (endOf ps o).2 := (cutT_mem g hT o0 o1).mp ((cut_own g hT hoT hoT).mpr rfl)
        have cw : Conn (endsOf ps (wo T o)) (endOf ps z).1 (endOf ps z).2 := Classical.byContradiction fun h => hoc ((cutT_mem g hT z0 z1).mpr h)
        have up : ∀ {i j : Nat}, i < n.toNat → j < n.toNat → mk (lms n.toNat (endsOf ps (T.filter fun y => decide (y ∉ o :: D)))) i = mk (lms n.toNat (endsOf ps (T.filter fun y => decide (y ∉ o :: D)))) j → Conn (endsOf ps (wo T o)) i j := fun hi hj e => ((lms_iff hin hi hj).mp e).mono (ends_sub hsub)
        have m := (lms_iff hin1 he.1 he.2).mpr c2
        rw [ends_snoc, lms_snoc, lm_iff (by omega) (by omega)] at m
        rcases m with m | ⟨m1, m2⟩
        · exact hno ((lms_iff hin he.1 he.2).mp m)
        · rcases m1 with m1 | m1 <;> rcases m2 with m2 | m2
          · exact hno ((lms_iff hin he.1 he.2).mp (m1.trans m2.symm))
          · exact own (((up he.1 hoe.1 m1).symm.trans cw).trans (up he.2 hoe.2 m2))
          · exact own (((up he.2 hoe.1 m2).symm.trans cw.symm).trans (up he.1 hoe.2 m1))
          · exact hno ((lms_iff hin he.1 he.2).mp (m1.trans m2.symm))
  have c := key (T.filter fun y => decide (z ∉ cutT n ps T y)) fun o ho => by
    obtain ⟨h1, h2⟩ := List.mem_filter.mp ho
    exact ⟨h1, of_decide_eq_true h2⟩
  refine c.mono (ends_sub fun y hy => ?_)
  obtain ⟨h1, h2⟩ := List.mem_filter.mp hy
  have h2 := of_decide_eq_true h2
  exact ringA_mem.mpr ⟨h1, Classical.byContradiction fun h => h2 (List.mem_filter.mpr ⟨h1, decide_eq_true h⟩)⟩
/-- the steps of a way: by the ties of the other tree, in their order -/
inductive WP (n : Int) (ps : List (Int × Int)) (W : List Int) (T0 : List Int) : List Int → List (Int × Int) → List Int → Prop
  | nil : WP n ps W T0 [] [] T0
  | skip {l : List Int} {ws : List (Int × Int)} {T : List Int} {z : Int} : WP n ps W T0 l ws T → z ∈ T → WP n ps W T0 (l ++ [z]) ws T
  | step {l : List Int} {ws : List (Int × Int)} {T T' : List Int} {z o : Int} : WP n ps W T0 l ws T → z ∉ T → o ∈ ringA n ps T z T → o ∉ W → (∀ y ∈ ringA n ps T z T, y ∉ W → o ≤ y) → T'.Perm (wo T o ++ [z]) → T'.Pairwise (· ≤ ·) → WP n ps W T0 (l ++ [z]) (ws ++ [(o, z)]) T'
end My

/-! ## pieces joined -/
namespace My
open PySem L2
end My

/-! ## webs numbered anew -/
namespace My
open PySem L2
end My

/-! ## min and max of a tuple of ints -/
namespace L2
open PySem PySem.Spec PyProof.Rows
section
variable {prog : Program} {w : World} {A : Around} {E : Value → Shared → Prop} {s : Shared} {l : Addr} {xs : Array (Int × Tok)}
theorem iter_intTup {Q : Value → Shared → Prop} (hl : s.heap.IsTuple l (intItems xs))
    (h : ∀ s₂ : Shared, s₂ = { s with heap := s.heap.push { cls := .type "tuple_iterator", data := .fields #[.ref l, .int 0 0] } } →
      (s₂.heap.IsTupleIter s.heap.objs.size l 0 ∧ s₂.heap.IsTuple l (intItems xs)) → (∀ b ∈ [s.heap.objs.size, l], b < s₂.heap.objs.size) → l ≠ s.heap.objs.size → Q (.ref s.heap.objs.size) s₂) :
    wpAny (model prog w) A (pyIter (.ref l)) Q E s := by
  have hlt : l < s.heap.objs.size := by obtain ⟨_, e, _⟩ := hl; exact Heap.lt_size e
  refine wpAny_pyIter_tuple hl (h _ rfl ⟨⟨_, Heap.get?_push_size _ rfl, rfl, rfl⟩, hl.push _⟩ (fun b hb => ?_) (Nat.ne_of_lt hlt))
  show b < (s.heap.push _).objs.size
  rw [Heap.size_push]
  rcases List.mem_cons.mp hb with rfl | hb
  · exact Nat.lt_succ_self _
  · rcases List.mem_cons.mp hb with rfl | hb
    · exact Nat.lt_succ_of_lt hlt
    · cases hb
theorem old_keptT {h' : Heap} (hk : ∀ b o, b ∉ [s.heap.objs.size] → (s.heap.push { cls := .type "tuple_iterator", data := .fields #[.ref l, .int 0 0] }).get? b = some o → h'.get? b = some o) :
    ∀ b o, s.heap.get? b = some o → h'.get? b = some o := fun b o e => by
  refine hk b o (fun hm => ?_) (Heap.get?_push_of_some _ e)
  rcases List.mem_cons.mp hm with e1 | hm
  · exact absurd (e1 ▸ Heap.lt_size e) (Nat.lt_irrefl _)
  · cases hm
theorem max_intTup {Q : Value → Shared → Prop} (hh : A.handled = none) (hl : s.heap.IsTuple l (intItems xs)) (hne : 0 < xs.size)
    (h : ∀ v h' tk, (intItems xs)[argBest (fun i j => decide (numAt xs i > numAt xs j)) (xs.size - 1)]? = some v → (∀ b o, s.heap.get? b = some o → h'.get? b = some o) → Q v { s with heap := h', toks := tk }) :
    wpAny (model prog w) A (call (.builtin "max") [.ref l]) Q E s := by
  refine call_max_walk (iter_intTup hl fun s₂ e st hfp hlI => ?_)
  subst e
  refine ⟨_, _, _, _, _, _, _, rfl, Walks.tuple (A := A.in1) hh _ l hlI (intItems xs), st, hfp, by simpa [intItems] using hne, CmpOf.ints_gt (numAt xs) (fun _ _ => intItems_at), fun v h' tk hP hk => ?_⟩
  exact h v h' tk (by simpa [intItems] using hP) (old_keptT hk)
end
section
variable {X : Cx}
theorem call_maxTI (K : PySem.W.Frag) (hc : X.calm = true) (hk : X.K = K := by rfl) : CallR X (.builtin "max") (fun xs H Q => ∃ (p : Addr) (ns : List Int), xs = [.ref p] ∧ SqT K H p (ns.map V.int) ∧ 0 < ns.length ∧ ∀ m : Int, m ∈ ns → (∀ a ∈ ns, a ≤ m) → Q (.int m) H) := by
  subst hk
  intro pins s σ H xs us Q I r h
  obtain ⟨p, ns, rfl, hq, hn, q⟩ := h
  obtain ⟨u, rfl, ru⟩ := vals1 r
  obtain rfl : u = Value.ref p := ru
  obtain ⟨its, rv, pl, hz⟩ := I.tuple hq
  have hi := ints_of_vals rv
  obtain ⟨xs, e⟩ := hi.allInts.items
  have hns : ns = xs.toList.map (·.1) := by rw [← hi.numsOf, ← nums_intItems, ← e]
  have hsz : 0 < xs.size := by rw [hns, List.length_map, Array.length_toList] at hn; exact hn
  have hl : s.heap.IsTuple p its.toArray := pl
  rw [e] at hl
  refine max_intTup (I.ok.hd hc) hl hsz fun v h' tk hv hk => ?_
  obtain ⟨t, rfl⟩ := intItems_at hv
  obtain ⟨h1, h2⟩ := argBest_gt (numAt xs) (xs.size - 1)
  refine ⟨.int _, H, I.kept (t' := tk) hk, ⟨t, rfl⟩, q _ ?_ fun a ha => ?_⟩
  · rw [hns, numAt_eq]
    exact getD_mem (by rw [List.length_map, Array.length_toList]; omega)
  · rw [hns] at ha
    obtain ⟨j, hj, rfl⟩ := mem_getD ha
    rw [List.length_map, Array.length_toList] at hj
    rw [← numAt_eq]
    exact h2 j (by omega)
end
end L2

/-! ## one tie left out, two places drawn together -/
namespace My
open PySem L2
/-- a place's number when hi is drawn to lo -/
def dn (lo hi i : Int) : Int := if i = hi then lo else if i < hi then i else i - 1
end My

/-! ## an item of a list or of a tuple; two tests with one end -/
namespace L2
open PySem PySem.Spec PyProof.Rows
section
variable {X : Cx}
end
theorem nx_mk {N a b : St → Hp → Prop} {r : VK} {σ : St} {H : Hp} (h : N σ H) : Ends.nx { nx := N, rt := r, bk := a, ct := b } σ H := h
theorem cont1 {c : TT} {t u : TS} {N a b : St → Hp → Prop} {r : VK} {σ : St} {H : Hp} (P : St → Hp → Prop) (h1 : ∀ σ' H', P σ' H' → N σ' H') (h2 : ∀ K : St → Hp → Prop, (∀ σ' H', P σ' H' → K σ' H') → tIfS c t u { nx := K, rt := r, bk := a, ct := b } σ H) : tIfS c t u { nx := N, rt := r, bk := a, ct := b } σ H := h2 _ h1
end L2

/-! ## lists of a known length -/
namespace My
theorem len1 {α : Type} {l : List α} (h : l.length = 1) : ∃ a, l = [a] := by
  cases l with
  | nil => cases h
  | cons a l => cases l with
    | nil => exact ⟨a, rfl⟩
    | cons b l => simp at h
theorem len2 {α : Type} {l : List α} (h : l.length = 2) : ∃ a b, l = [a, b] := by
  cases l with
  | nil => cases h
  | cons a l =>
    obtain ⟨b, rfl⟩ := len1 (Nat.succ.inj h)
    exact ⟨a, b, rfl⟩
theorem len3 {α : Type} {l : List α} (h : l.length = 3) : ∃ a b c, l = [a, b, c] := by
  cases l with
  | nil => cases h
  | cons a l =>
    obtain ⟨b, c, rfl⟩ := len2 (Nat.succ.inj h)
    exact ⟨a, b, c, rfl⟩
end My

/-! ## the script's numbers have a weight; products within it -/
namespace L2
open PySem PySem.Spec PyProof.Rows
section
variable {X : Cx}
end
end L2
namespace Att
open PySem PySem.W PySem.Calls PyProof.Rows
end Att
namespace L2
open PySem PySem.Spec PyProof.Rows
end L2

/-! ## two webs put together; a pair many times -/
namespace My
open PySem L2
end My

/-! ## tuple(list or tuple), told once -/
namespace L2
open PySem PySem.Spec PyProof.Rows
section
variable {X : Cx}
end
end L2
namespace My
open PySem L2
end My

/-! ## tuple(reversed(tuple)) -/
namespace L2
open PySem PySem.Spec PyProof.Rows
section
variable {prog : Program} {w : World} {A : Around} {E : Value → Shared → Prop} {s : Shared} {it a : Addr} {items : Array Value}
end
section
variable {X : Cx} {p p2 pos pos2 : Pos} {e : Expr} {t : TA}
end
end L2

/-! ## t + u and t[lo:hi] of own tuples, told once -/
namespace L2
open PySem PySem.Spec PyProof.Rows
section
variable {X : Cx}
def rCatQ : R2 := fun x y H Q => ∃ a b xs ys, x = .ref a ∧ y = .ref b ∧ H a = some (.tup xs) ∧ H b = some (.tup ys) ∧ xs.length + ys.length ≤ sizeLine ∧ ∀ (r : Addr) (H' : Hp), Same H H' → H' r = some (.tup (xs ++ ys)) → Q (.ref r) H'
theorem op_catQ (K : PySem.W.Frag) (hk : X.K = K := by rfl) : OpR X (binaryOp .Add) rCatQ := by
  intro pins s σ H x y v u Q I rx ry h
  obtain ⟨a, b, xs, ys, e1, e2, ha, hb, hz, q⟩ := h
  refine op_catU K hk pins s σ H x y v u Q I rx ry ⟨a, b, xs, ys, e1, e2, SqT.of ha, SqT.of hb, hz, fun hx => ?_, fun _ hy => ?_, fun _ _ p hp => q p _ (My.same_at hp) upd_same⟩
  · subst hx
    exact q b H (Same.refl H) hb
  · subst hy
    exact q a H (Same.refl H) (by rw [List.append_nil]; exact ha)
end
end L2

/-! ## partners between two trees -/
namespace My
open PySem L2
theorem Conn.lift {es fs : List (Nat × Nat)} (h : ∀ e ∈ es, Conn fs e.1 e.2) {i j : Nat} (c : Conn es i j) : Conn fs i j := by
  induction c with
  | refl i => exact .refl i
  | edge e => exact h _ e
  | symm _ ih => exact ih.symm
  | trans _ _ ih1 ih2 => exact ih1.trans ih2
theorem partner_ex {n : Int} {ps : List (Int × Int)} {T W : List Int} {z : Int} (g : GoodW n ps) (hT : IsTree n ps T) (hW : IsTree n ps W) (hz : z ∈ T) (hzW : z ∉ W) : ∃ y, exg n ps T z y ∧ exg n ps W y z := by
  obtain ⟨z0, z1⟩ := hT.1.all z hz
  refine Classical.byContradiction fun hno => ?_
  refine (cutT_mem g hT z0 z1).mp ((cut_own g hT hz hz).mpr rfl) ((ring_conn g hW z0 z1).lift fun e he => ?_)
  unfold endsOf at he
  obtain ⟨y, hy, rfl⟩ := List.mem_map.mp he
  obtain ⟨hyW, hyc⟩ := ringA_mem.mp hy
  obtain ⟨y0, y1⟩ := hW.1.all y hyW
  have hyz : y ≠ z := fun e => hzW (e ▸ hyW)
  have := (cutT_mem (o := z) g hT y0 y1)
  exact Classical.byContradiction fun h => hno ⟨y, ⟨hz, hyz, this.mpr h⟩, ⟨hyW, Ne.symm hyz, hyc⟩⟩
end My

/-! ## trees within joined ties, trees with a tie -/
namespace My
open PySem L2
theorem sort_ex (l : List Int) : ∃ m : List Int, m.Perm l ∧ m.Pairwise (· ≤ ·) := by
  induction l with
  | nil => exact ⟨[], .refl _, .nil⟩
  | cons x l ih =>
    obtain ⟨m, h1, h2⟩ := ih
    have key : ∀ m : List Int, m.Pairwise (· ≤ ·) → ∃ k : List Int, k.Perm (x :: m) ∧ k.Pairwise (· ≤ ·) := by
      intro m
      induction m with
      | nil => intro _; exact ⟨[x], .refl _, List.pairwise_singleton _ _⟩
      | cons y m ih2 =>
        intro hp
        obtain ⟨hy, hm⟩ := List.pairwise_cons.mp hp
        by_cases hxy : x ≤ y
        · refine ⟨x :: y :: m, .refl _, List.pairwise_cons.mpr ⟨fun z hz => ?_, hp⟩⟩
          rcases List.mem_cons.mp hz with e | e
          · rw [e]; exact hxy
          · exact Int.le_trans hxy (hy z e)
        · obtain ⟨k, k1, k2⟩ := ih2 hm
          refine ⟨y :: k, (k1.cons y).trans (List.Perm.swap x y m), List.pairwise_cons.mpr ⟨fun z hz => ?_, k2⟩⟩
          rcases List.mem_cons.mp (k1.mem_iff.mp hz) with e | e
          · rw [e]; omega
          · exact hy z e
    obtain ⟨k, k1, k2⟩ := key m h2
    exact ⟨k, k1.trans (h1.cons x), k2⟩
end My

/-! ## tuple(..) of an own tuple or a list: an own tuple -/
namespace L2
open PySem PySem.Spec PyProof.Rows
section
variable {X : Cx}
theorem call_tupleH (K : PySem.W.Frag) (hk : X.K = K := by rfl) : CallR X (.type "tuple") (fun xs H Q => ∃ (p : Addr) (ys : List V), xs = [.ref p] ∧ (H p = some (.tup ys) ∨ SqL K H p ys) ∧ ∀ (r : Addr) (H' : Hp), Same H H' → H' r = some (.tup ys) → Q (.ref r) H') := by
  intro pins s σ H xs us Q I r h
  obtain ⟨p, ys, rfl, hq, q⟩ := h
  refine call_tupleK K hk pins s σ H _ us Q I r ⟨p, ys, rfl, ?_⟩
  rcases hq with hq | hq
  · exact .inr ⟨SqT.of hq, q p H (Same.refl H) hq⟩
  · exact .inl ⟨hq, fun l hl => q l _ (My.same_at hl) upd_same⟩
end
end L2
namespace My
open PySem L2
/-- a walk of good steps from a tree -/
inductive Wk (n : Int) (ps : List (Int × Int)) (T0 : List Int) : List (Int × Int) → List Int → Prop
  | nil : Wk n ps T0 [] T0
  | step {ws : List (Int × Int)} {T T' : List Int} {o z : Int} : Wk n ps T0 ws T → exg n ps T o z → T'.Perm (wo T o ++ [z]) → T'.Pairwise (· ≤ ·) → Wk n ps T0 (ws ++ [(o, z)]) T'
end My

/-! ## the tree farthest from a tree -/
namespace My
open PySem L2
/-- some ties of a tree are all grown -/
theorem grw_forest {n : Int} {ps : List (Int × Int)} {U : List Int} (g : GoodW n ps) (hU : IsTree n ps U) : ∀ V : List Int, V.Nodup → (∀ z ∈ V, z ∈ U) → grw n.toNat ps V = V := by
  refine snoc_ind (fun _ _ => rfl) fun V z ih hn hs => ?_
  have hn' := List.nodup_append.mp hn
  have hV : ∀ y ∈ V, y ∈ U := fun y hy => hs y (List.mem_append_left _ hy)
  have hz : z ∈ U := hs z (List.mem_append_right _ (List.mem_singleton.mpr rfl))
  have hzV : z ∉ V := fun h => hn'.2.2 z h z (List.mem_singleton.mpr rfl) rfl
  obtain ⟨z0, z1⟩ := hU.1.all z hz
  have he := end_in (z := z) g z0 z1
  rw [grw_snoc, ih hn'.1 hV]
  unfold gst
  rw [if_neg]
  intro e
  have c := (lms_iff (ends_in g fun y hy => hU.1.all y (hV y hy)) he.1 he.2).mp e
  exact (cutT_mem g hU z0 z1).mp ((cut_own g hU hz hz).mpr rfl) (c.mono (ends_sub fun y hy => wo_mem.mpr ⟨hV y hy, fun e' => hzV (by rw [← e']; exact hy)⟩))
end My

/-! ## forests, listed in order -/
namespace My
open PySem L2
theorem cmb_len12 {m : Nat} (hm : m ≤ 12) : ∀ k, (cmb (m : Int) k).length ≤ 12 ^ k
  | 0 => Nat.le_refl 1
  | k + 1 => by
    have h1 := flat_len (m := m) (cmb (m : Int) k) fun s hs => (cmb_mem.mp hs).2
    have h2 := cmb_len12 hm k
    have h3 : m * (cmb (m : Int) k).length ≤ 12 * 12 ^ k := Nat.mul_le_mul hm h2
    rw [Nat.pow_succ, Nat.mul_comm]
    exact Nat.le_trans h1 h3
/-- no ring among them -/
def Fr (n : Nat) (ps : List (Int × Int)) (l : List Int) : Bool := decide (grw n ps l = l)
theorem Fr.nil (n : Nat) (ps : List (Int × Int)) : Fr n ps [] = true := decide_eq_true rfl
theorem fr_snoc {n : Nat} {ps : List (Int × Int)} {l : List Int} {z : Int} : Fr n ps (l ++ [z]) = true ↔ Fr n ps l = true ∧ mk (lms n (endsOf ps l)) (endOf ps z).1 ≠ mk (lms n (endsOf ps l)) (endOf ps z).2 := by
  unfold Fr
  rw [decide_eq_true_iff, decide_eq_true_iff, grw_snoc]
  constructor
  · intro h
    unfold gst at h
    split at h
    · have := (grw_sub n ps l).length_le
      rw [h, List.length_append] at this
      have h1 : [z].length = 1 := rfl
      omega
    · rename_i hne
      have e := (List.append_inj' h rfl).1
      rw [e] at hne
      exact ⟨e, hne⟩
  · rintro ⟨e, hne⟩
    rw [e]
    unfold gst
    rw [if_neg hne]
/-- the forests of so many ties -/
def frs (n : Nat) (ps : List (Int × Int)) (k : Nat) : List (List Int) := (cmb (ps.length : Int) k).filter (Fr n ps)
theorem filter_flat {α β : Type} (p : β → Bool) (f : α → List β) (l : List α) : (l.flatMap f).filter p = l.flatMap fun a => (f a).filter p := by
  induction l with
  | nil => rfl
  | cons a l ih => rw [List.flatMap_cons, List.flatMap_cons, List.filter_append, ih]
theorem frs_succ (n : Nat) (ps : List (Int × Int)) (k : Nat) : frs n ps (k + 1) = (frs n ps k).flatMap fun l => (ext1 (ps.length : Int) l).filter (Fr n ps) := by
  unfold frs
  show ((cmb (ps.length : Int) k).flatMap (ext1 (ps.length : Int))).filter (Fr n ps) = _
  rw [filter_flat, ← flat_filter]
  refine congrArg (fun f => List.flatMap f (cmb (ps.length : Int) k)) (funext fun l => ?_)
  cases h : Fr n ps l with
  | true => rfl
  | false =>
    show _ = []
    refine List.filter_eq_nil_iff.mpr fun l' hl' hf => ?_
    obtain ⟨t, _, _, rfl⟩ := ext1_mem.mp hl'
    rw [(fr_snoc.mp hf).1] at h
    cases h
theorem frs_tree {n : Int} {ps : List (Int × Int)} (g : GoodW n ps) {l : List Int} : l ∈ frs n.toNat ps (n - 1).toNat ↔ IsTree n ps l := by
  unfold frs
  rw [List.mem_filter, cmb_mem]
  have g1 := g.1
  constructor
  · rintro ⟨⟨h1, h2⟩, h3⟩
    have e : grw n.toNat ps l = l := of_decide_eq_true h3
    have c := grw_cnt g l h2.all
    rw [e] at c
    exact ⟨h2, by omega, (cnt_conn (by omega) (ends_in g h2.all)).mp (by omega)⟩
  · intro h
    exact ⟨⟨by have := h.2.1; omega, h.1⟩, decide_eq_true (grw_forest g h l h.1.nodup fun z hz => hz)⟩
theorem frs_mem {n : Nat} {ps : List (Int × Int)} {k : Nat} {l : List Int} (h : l ∈ frs n ps k) : l.length = k ∧ IsSet ps.length l ∧ Fr n ps l = true := by
  obtain ⟨h1, h2⟩ := List.mem_filter.mp h
  obtain ⟨h3, h4⟩ := cmb_mem.mp h1
  exact ⟨h3, h4, h2⟩
theorem nxt_gt {s : List Int} {a : Int} (h : s.Pairwise (· < ·)) (ha : a ∈ s) : a < nxt s := by
  refine snoc_ind (P := fun s => ∀ {a : Int}, s.Pairwise (· < ·) → a ∈ s → a < nxt s) (fun {a} _ h => by cases h) (fun l x ih {a} hp h => ?_) s h ha
  rw [nxt_snoc]
  rw [List.pairwise_append] at hp
  rcases List.mem_append.mp h with h | h
  · have := hp.2.2 a h x (by simp); omega
  · rw [List.mem_singleton.mp h]; omega
theorem max_nxt {m : Nat} {l : List Int} {x : Int} (hI : IsSet m l) (h1 : x ∈ -1 :: l) (h2 : ∀ y ∈ -1 :: l, y ≤ x) : x + 1 = nxt l := by
  have hp := (isSet_iff.mp hI).2
  cases e : l.getLast? with
  | none =>
    have : l = [] := List.getLast?_eq_none_iff.mp e
    subst this
    have : x = -1 := by simpa using h1
    rw [this]
    rfl
  | some y =>
    have hy := List.mem_of_getLast? e
    have e2 : nxt l = y + 1 := by unfold nxt; rw [e]
    have a1 := h2 y (List.mem_cons_of_mem _ hy)
    have a2 := (hI.all y hy).1
    rcases List.mem_cons.mp h1 with h | h
    · omega
    · have := nxt_gt hp h
      omega
end My

/-! ## a tree that no exchange makes shorter is a shortest one -/
namespace My
open PySem L2
end My

/-! ## the gains of a tree, found tie by tie -/
namespace My
open PySem L2
end My

/-! ## the least and the greatest tree with some ties and without others -/
namespace My
open PySem L2
theorem srt_strict {a : List Int} (h : a.Pairwise (· ≤ ·)) (hn : a.Nodup) : a.Pairwise (· < ·) := (h.and hn).imp fun h => by have := h.1; have := h.2; omega
end My

/-! ## for x in reversed(a list or a tuple) -/
namespace L2
open PySem PySem.Spec PyProof.Rows
section
variable {X : Cx}
end
end L2
namespace My
open PySem L2
end My

/-! ## the tree behind and the tree ahead -/
namespace My
open PySem L2
/-! ### what a call may answer: nothing, or a tree -/
end My

/-! ## a + b of two lists, wherever they lie -/
namespace L2
open PySem PySem.Spec PyProof.Rows
section
variable {X : Cx}
end
end L2

/-! ## trees counted by parting -/
namespace My
open PySem L2
end My

/-! ## loops in front -/
namespace My
open PySem L2
end My

/-! ## list.insert -/
namespace L2
open PySem PySem.Spec PyProof.Rows
section
variable {X : Cx}
end
end L2

/-! ## forests, tie after tie -/
namespace My
open PySem L2
theorem PairsV.set {H : Hp} {xs : List V} {ps : List (Int × Int)} {v : V} {p : Int × Int} (h : PairsV H xs ps) (i : Nat) (q : PairV H v p) : PairsV H (xs.set i v) (ps.set i p) := by
  refine ⟨by rw [List.length_set, List.length_set]; exact h.1, fun j x e => ?_⟩
  have hl := h.1
  by_cases c : i = j
  · subst c
    rw [List.getElem?_set] at e
    rw [if_pos rfl] at e
    by_cases hlt : i < ps.length
    · rw [if_pos hlt] at e
      obtain rfl := Option.some.inj e
      exact ⟨v, by rw [List.getElem?_set, if_pos rfl, if_pos (by omega)], q⟩
    · rw [if_neg hlt] at e
      cases e
  · rw [List.getElem?_set, if_neg c] at e
    obtain ⟨w, e1, r⟩ := h.2 j x e
    exact ⟨w, by rw [List.getElem?_set, if_neg c]; exact e1, r⟩
end My

/-! ## for x, y in zip(list, list) -/
namespace L2
open PySem PySem.Spec PyProof.Rows
/-- at turn i: a new pair of the two lists' i-th ones -/
def Itz (K : PySem.W.Frag) (a b : Addr) : It :=
  ⟨fun i H => ∃ xs ys x y, SqL K H a xs ∧ SqL K H b ys ∧ xs[i]? = some x ∧ ys[i]? = some y, fun i H v H' => ∃ T x y, H T = none ∧ v = .ref T ∧ H' = upd H T (.tup [x, y]) ∧ (∀ xs, SqL K H a xs → xs[i]? = some x) ∧ ∀ ys, SqL K H b ys → ys[i]? = some y,
   fun i H => ∃ xs ys, SqL K H a xs ∧ SqL K H b ys ∧ (xs.length ≤ i ∨ ys.length ≤ i)⟩
theorem turn_zip {P : Program} {w : World} {K : PySem.W.Frag} {elts : List Expr} {x1 : Nat} {pos : Pos} (a b z TI TO i1 i2 : Addr) (D : ZipApart z TI TO i1 i2 a b) :
    Turn P w K (.Tuple elts x1 pos) (Itz K a b) [z, TI, TO, i1, i2] z (fun i h => IsZip h z TI TO .none ∧ IsPair h TI (.ref i1) (.ref i2) ∧ (∃ c d, IsPair h TO c d) ∧ h.IsListIter i1 a i ∧ h.IsListIter i2 b i) where
  mem := by simp
  obj := fun i h st c hc => by
    obtain ⟨hz, hTI, ⟨u, v, hTO⟩, ⟨o1, e1, _, d1⟩, ⟨o2, e2, _, d2⟩⟩ := st
    have hc' : c = z ∨ c = TI ∨ c = TO ∨ c = i1 ∨ c = i2 := by simpa using hc
    rcases hc' with rfl | rfl | rfl | rfl | rfl
    · exact ⟨_, hz, fun v q => by
        have q' : Data.fields _ = Data.cell v := q
        cases q'⟩
    · exact ⟨_, hTI, fun v q => by
        have q' : Data.seq _ _ = Data.cell v := q
        cases q'⟩
    · exact ⟨_, hTO, fun v q => by
        have q' : Data.seq _ _ = Data.cell v := q
        cases q'⟩
    · exact ⟨o1, e1, fun v q => by rw [d1] at q; cases q⟩
    · exact ⟨o2, e2, fun v q => by rw [d2] at q; cases q⟩
  keep := fun i h h' st k => by
    obtain ⟨hz, hTI, ⟨u, v, hTO⟩, h1, h2⟩ := st
    exact ⟨k z (by simp) _ hz, k TI (by simp) _ hTI, ⟨u, v, k TO (by simp) _ hTO⟩, h1.at fun o e => k i1 (by simp) o e, h2.at fun o e => k i2 (by simp) o e⟩
  item := by
    intro X hP hw hK hc i pins s σ H E I hf st hg
    subst hP hw hK
    obtain ⟨xs, ys, x, y, hq, hq2, hx, hy⟩ := hg
    obtain ⟨hz, hTI, ⟨u0, v0, hTO⟩, h1, h2⟩ := st
    obtain ⟨its, rv, p, _⟩ := I.list hq
    obtain ⟨u, hu, ru⟩ := rv.get hx
    obtain ⟨its2, rv2, p2, _⟩ := I.list hq2
    obtain ⟨v, hv, rv'⟩ := rv2.get hy
    have fz := hf z (by simp)
    have fTO := hf TO (by simp)
    have fi1 := hf i1 (by simp)
    have fi2 := hf i2 (by simp)
    have hT0 : H s.heap.objs.size = none := I.hok.fresh (Nat.le_refl _)
    refine wpAny_pyNext_zip_item D hz hTI hTO h1 h2 p.isList p2.isList (x := u) (y := v) (by simpa using hu) (by simpa using hv) fun h' a1 a2 a3 a4 a5 hsz hk => ?_
    have ltT : ∀ b ob, s.heap.get? b = some ob → b ≠ s.heap.objs.size := fun b ob z => Nat.ne_of_lt (Heap.lt_size z)
    have ltH : ∀ b ob, H b = some ob → b ≠ s.heap.objs.size := fun b ob z => Nat.ne_of_lt (I.hok.lt z)
    have nof : ∀ c ob, H c = some ob → c ≠ z ∧ c ≠ TO ∧ c ≠ i1 ∧ c ≠ i2 := fun c ob q => ⟨fun e => (by rw [e, fz.1] at q; cases q), fun e => (by rw [e, fTO.1] at q; cases q), fun e => (by rw [e, fi1.1] at q; cases q), fun e => (by rw [e, fi2.1] at q; cases q)⟩
    have hkc : ∀ c o, c ∉ [z, TO, i1, i2] → s.heap.get? c = some o → h'.get? c = some o := fun c o hcx q => hk c o (fun e => hcx (by simp [e])) (fun e => hcx (by simp [e])) (fun e => hcx (by simp [e])) (fun e => hcx (by simp [e])) q
    have I1 : Inv X pins σ (upd H s.heap.objs.size (.tup [x, y])) { s with heap := h' } := by
      refine I.step (g' := s.gens) (d' := s.drawn) (t' := s.toks) (ch := [z, TO, i1, i2]) (fun c hb => ?_) (fun c o _ _ hcx q _ => hkc c o hcx q) (fun c o _ _ hcx q _ => ⟨o.slots, hkc c o hcx q⟩)
        (fun c o _ q n => by rw [upd_ne (ltT c o q)]; exact n) (fun c o hcx q => ⟨o, hkc c o hcx q⟩) (fun c ys q => by rw [upd_ne (ltH c _ q)]; exact q) (fun c o v q => by rw [upd_ne (ltH c _ q)]; exact q)
        (fun c ps q => ⟨#[], by rw [upd_ne (ltH c _ q), q]; simp⟩) (fun m hm => ?_) (fun c v' q => ?_) I.bare
      · have hc' : c = z ∨ c = TO ∨ c = i1 ∨ c = i2 := by simpa using hb
        rcases hc' with rfl | rfl | rfl | rfl
        · exact ⟨fz.2.2.2.1, fz.2.1, fz.2.2.2.2.1, fz.2.2.2.2.2⟩
        · exact ⟨fTO.2.2.2.1, fTO.2.1, fTO.2.2.2.2.1, fTO.2.2.2.2.2⟩
        · exact ⟨fi1.2.2.2.1, fi1.2.1, fi1.2.2.2.2.1, fi1.2.2.2.2.2⟩
        · exact ⟨fi2.2.2.2.1, fi2.2.1, fi2.2.2.2.2.1, fi2.2.2.2.2.2⟩
      · obtain ⟨o, es, ep, ho', r⟩ := hm
        exact ⟨o, es, ep, hk _ o (Ne.symm fz.2.1) (Ne.symm fTO.2.1) (Ne.symm fi1.2.1) (Ne.symm fi2.2.1) ho', r⟩
      · by_cases hb : c = s.heap.objs.size
        · subst hb
          rw [upd_same] at q
          cases q
          exact ⟨by show 2 ≤ sizeLine; decide, [u, v], .cons ru (.cons rv' .nil), ⟨_, a5, rfl, _, rfl⟩⟩
        · rw [upd_ne hb] at q
          refine (I.hok c v' q).stay (fun e w' hc' q' => ?_) (fun e q => by rw [upd_ne (ltH e _ q)]; exact q) fun e ys q => by rw [upd_ne (ltH e _ q)]; exact q
          rcases hc' with rfl | hc'
          · have := nof e _ q
            exact hk e w' this.1 this.2.1 this.2.2.1 this.2.2.2 q'
          · have := nof e _ hc'
            exact hk e w' this.1 this.2.1 this.2.2.1 this.2.2.2 q'
    refine ⟨_, rfl, wpAny_letOwnedTupleGo_zip a1 fun h2 hz2 hs2 => ?_⟩
    have fT : z ≠ s.heap.objs.size := ltT z _ hz
    have I2 : Inv X pins σ (upd H s.heap.objs.size (.tup [x, y])) { s with heap := h2 } := Inv.turned (s := { s with heap := h' }) (h' := h2) (t' := s.toks) (it := z) I1 (fun b o hb q => hs2.extBut b o hb q) (by rw [upd_ne fT]; exact fz.1) fz.2.1 fz.2.2.2.1 fz.2.2.2.2.1 fz.2.2.2.2.2
    refine ⟨.ref s.heap.objs.size, _, I2, rfl, ⟨_, x, y, hT0, rfl, rfl, fun ys hy' => by rw [I.list_inj hy' hq]; exact hx, fun ys hy' => by rw [I.list_inj hy' hq2]; exact hy⟩,
      ⟨hz2, hs2.extBut _ _ D.TIz (hkc _ _ (by have := D.TIz; have := D.TITO; have := D.TIi1; have := D.TIi2; simp; exact ⟨D.TIz, D.TITO, D.TIi1, D.TIi2⟩) hTI), ⟨u, v, hs2.extBut _ _ D.TOz a2⟩, a3.at fun o q => hs2.extBut i1 o D.i1z q, a4.at fun o q => hs2.extBut i2 o D.i2z q⟩, fun c hc => ?_⟩
    have hc' : c = z ∨ c = TI ∨ c = TO ∨ c = i1 ∨ c = i2 := by simpa using hc
    have hn := (hf c hc).1
    rcases hc' with rfl | rfl | rfl | rfl | rfl
    · rw [upd_ne fT]; exact hn
    · rw [upd_ne (ltT _ _ hTI)]; exact hn
    · rw [upd_ne (ltT _ _ hTO)]; exact hn
    · obtain ⟨o, eo, _⟩ := h1
      rw [upd_ne (ltT _ o eo)]; exact hn
    · obtain ⟨o, eo, _⟩ := h2
      rw [upd_ne (ltT _ o eo)]; exact hn
  done := by
    intro X hP hw hK hc i pins s σ H E I hf st hg
    subst hP hw hK
    obtain ⟨xs, ys, hq, hq2, hend⟩ := hg
    obtain ⟨hz, hTI, ⟨u0, v0, hTO⟩, h1, h2⟩ := st
    obtain ⟨its, rv, p, _⟩ := I.list hq
    obtain ⟨its2, rv2, p2, _⟩ := I.list hq2
    have l1 := rv.length
    have l2 := rv2.length
    have fz := hf z (by simp)
    have fTO := hf TO (by simp)
    have fi1 := hf i1 (by simp)
    have fi2 := hf i2 (by simp)
    refine wpAny_pyNext_zip_end (I.ok.hd hc) D hz hTI hTO h1 h2 p.isList p2.isList (by
      rcases hend with e | e
      · exact .inl (by simp; omega)
      · exact .inr (by simp; omega)) fun h' hk => ⟨rfl, ?_⟩
    have hkc : ∀ c o, c ∉ [z, TO, i1, i2] → s.heap.get? c = some o → h'.get? c = some o := fun c o hcx q => hk c o (fun e => hcx (by simp [e])) (fun e => hcx (by simp [e])) (fun e => hcx (by simp [e])) (fun e => hcx (by simp [e])) q
    have nof : ∀ c ob, H c = some ob → c ≠ z ∧ c ≠ TO ∧ c ≠ i1 ∧ c ≠ i2 := fun c ob q => ⟨fun e => (by rw [e, fz.1] at q; cases q), fun e => (by rw [e, fTO.1] at q; cases q), fun e => (by rw [e, fi1.1] at q; cases q), fun e => (by rw [e, fi2.1] at q; cases q)⟩
    refine I.step (g' := s.gens) (d' := s.drawn) (t' := s.toks) (ch := [z, TO, i1, i2]) (fun c hb => ?_) (fun c o _ _ hcx q _ => hkc c o hcx q) (fun c o _ _ hcx q _ => ⟨o.slots, hkc c o hcx q⟩)
      (fun c o _ q n => n) (fun c o hcx q => ⟨o, hkc c o hcx q⟩) (fun c ys q => q) (fun c o v q => q)
      (fun c ps q => ⟨#[], by rw [q]; simp⟩) (fun m hm => ?_) (fun c v' q => ?_) I.bare
    · have hc' : c = z ∨ c = TO ∨ c = i1 ∨ c = i2 := by simpa using hb
      rcases hc' with rfl | rfl | rfl | rfl
      · exact ⟨fz.2.2.2.1, fz.2.1, fz.2.2.2.2.1, fz.2.2.2.2.2⟩
      · exact ⟨fTO.2.2.2.1, fTO.2.1, fTO.2.2.2.2.1, fTO.2.2.2.2.2⟩
      · exact ⟨fi1.2.2.2.1, fi1.2.1, fi1.2.2.2.2.1, fi1.2.2.2.2.2⟩
      · exact ⟨fi2.2.2.2.1, fi2.2.1, fi2.2.2.2.2.1, fi2.2.2.2.2.2⟩
    · obtain ⟨o, es, ep, ho', r⟩ := hm
      exact ⟨o, es, ep, hk _ o (Ne.symm fz.2.1) (Ne.symm fTO.2.1) (Ne.symm fi1.2.1) (Ne.symm fi2.2.1) ho', r⟩
    · refine (I.hok c v' q).stay (fun e w' hc' q' => ?_) (fun e q => q) fun e ys q => q
      rcases hc' with rfl | hc'
      · have := nof e _ q
        exact hk e w' this.1 this.2.1 this.2.2.1 this.2.2.2 q'
      · have := nof e _ hc'
        exact hk e w' this.1 this.2.1 this.2.2.1 this.2.2.2 q'
  self := fun _ _ _ _ _ st h => wpAny_pyIter_zip st.1 h
def iZip (K : PySem.W.Frag) (ta : TA) : TI := fun σ H R => ta σ H fun vs H1 => ∃ a b, vs = [.ref a, .ref b] ∧ (∃ xs ys, SqL K H1 a xs ∧ SqL K H1 b ys) ∧ R (Itz K a b) H1
section
variable {X : Cx}
theorem pi_zip (K : PySem.W.Frag) {elts : List Expr} {x1 : Nat} {tpos : Pos} {e f : Expr} {ta : TA} {p pos : Pos} (hg : Gl X "zip") (hm : X.mg "zip" = none) (ha : PA X [e, f] ta) (hs : starEach [e, f] X.env = (false, eval e X.env) :: starEach [f] X.env := by rfl) (hpl : (backTo pos (starEach [f] X.env)).any (·.1) = false := by rfl) (hk : X.K = K := by rfl) :
    PI X (.Tuple elts x1 tpos) (.Call (.Name "zip" p) [e, f] [] pos) (iZip K ta) := by
  subst hk
  intro pins s σ H R I h
  refine Call_ (ld_blt I hg hm Boot.«zip» (PyProof.Rows.callWith_type1 (thn (ha pos pins s σ H _ I h) fun us s1 ⟨vs, H1, I1, r1, q1⟩ => ?_) hs hpl))
  obtain ⟨a, b, ev, ⟨xs, ys, hq, hq2⟩, q⟩ := q1
  subst ev
  obtain ⟨u, u', rfl, ru, ru'⟩ := vals2 r1
  obtain rfl : u = Value.ref a := ru
  obtain rfl : u' = Value.ref b := ru'
  obtain ⟨its, rv, pl, _⟩ := I1.list hq
  obtain ⟨its2, rv2, pl2, _⟩ := I1.list hq2
  have lt1 : a < s1.heap.objs.size := let ⟨_, _, e, _⟩ := pl; Heap.lt_size e
  have lt2 : b < s1.heap.objs.size := let ⟨_, _, e, _⟩ := pl2; Heap.lt_size e
  have D : ZipApart (s1.heap.objs.size + 4) (s1.heap.objs.size + 2) (s1.heap.objs.size + 3) s1.heap.objs.size (s1.heap.objs.size + 1) a b := by
    have key : ∀ n x y : Nat, x < n → y < n → ZipApart (n + 4) (n + 2) (n + 3) n (n + 1) x y := fun n x y h1 h2 => by constructor <;> (intro q; have q' : (_ : Nat) = _ := q; omega)
    exact key _ _ _ lt1 lt2
  refine call_zip_2 pl.isList pl2.isList fun h' hz hTI hTO hi1 hi2 hsz hk => ?_
  refine wpAny_pyIter_zip (s := { s1 with heap := h' }) hz ?_
  refine ⟨s1.heap.objs.size + 4, [s1.heap.objs.size + 4, s1.heap.objs.size + 2, s1.heap.objs.size + 3, s1.heap.objs.size, s1.heap.objs.size + 1], _, _, H1, rfl, I1.kept (t' := s1.toks) hk, turn_zip a b _ _ _ _ _ D, ⟨hz, hTI, ⟨_, _, hTO⟩, hi1, hi2⟩, fun c hc => ?_, q⟩
  have hle : s1.heap.objs.size ≤ c := by
    have hc' : c = s1.heap.objs.size + 4 ∨ c = s1.heap.objs.size + 2 ∨ c = s1.heap.objs.size + 3 ∨ c = s1.heap.objs.size ∨ c = s1.heap.objs.size + 1 := by simpa using hc
    rcases hc' with e | e | e | e | e <;> rw [e] <;> first | exact Nat.le_refl _ | exact Nat.le_add_right _ _
  exact I1.fpOk hle (I1.hok.fresh hle)
end
end L2
namespace My
open PySem L2
section
variable {K : PySem.W.Frag} {a b : Addr} {xs ys : List V} {g : TG} {tt : TT} {te : TE} {o : Nat} {fr : List Nat} {σ : St} {H : Hp} {Q : VK}
/-- a list out of two -/
theorem lc_zip (Pv : Nat → List V → Hp → Prop) (h0 : Pv 0 [] H) (hxy : xs.length = ys.length) (hz : xs.length < sizeLine) (hl : ∀ i zs H, i ≤ xs.length → Pv i zs H → SqL K H a xs ∧ SqL K H b ys ∧ zs.length ≤ i)
    (hs : ∀ (i : Nat) x y zs H (p : Addr), H p = none → xs[i]? = some x → ys[i]? = some y → Pv i zs H → LcTurn Pv g tt te o fr σ i (.ref p) zs (upd H p (.tup [x, y]))) (hd : ∀ zs H, Pv xs.length zs H → ∀ p, H p = none → Q (.ref p) (upd H p (.lst zs))) : LcR (Itz K a b) g tt te o fr σ H Q := by
  refine ⟨fun i m zs H => m = xs.length - i ∧ i ≤ xs.length ∧ Pv i zs H, ⟨xs.length, by simp, Nat.zero_le _, h0⟩, ?_⟩
  rintro i m zs H ⟨rfl, hi, p⟩
  obtain ⟨q, q2, hy⟩ := hl i zs H hi p
  by_cases hlt : i < xs.length
  · refine .inr ⟨⟨xs, ys, xs[i], ys[i]'(by omega), q, q2, by simp [hlt], List.getElem?_eq_getElem (by omega)⟩, by omega, fun x H' ⟨T, u, v, hT, ex, eH, hu, hv⟩ => ?_⟩
    subst ex eH
    exact hs i u v zs H T hT (hu xs q) (hv ys q2) p (fun j zs H => ∃ m', m' < xs.length - i ∧ m' = xs.length - j ∧ j ≤ xs.length ∧ Pv j zs H) fun zs H p' => ⟨xs.length - (i + 1), by omega, rfl, hlt, p'⟩
  · have e : i = xs.length := by omega
    subst e
    exact .inl ⟨⟨xs, ys, q, q2, .inl (Nat.le_refl _)⟩, by omega, hd zs H p⟩
end
end My

/-! ## determinants, by the first row -/
namespace My
/-- the sum of the first n -/
def sm : Nat → (Nat → Int) → Int
  | 0, _ => 0
  | n + 1, f => sm n f + f n
end My

/-! ## determinants: rows exchanged, rows taken off -/
namespace My
end My

/-! ## determinants, without fractions -/
namespace My
/-- the first k, and then those behind them that r names -/
def ex (k : Nat) (r : Nat → Nat) (i : Nat) : Nat := if i < k then i else k + r (i - k)
end My

/-! ## products and quotients of great numbers -/
namespace L2
open PySem PySem.Spec PyProof.Rows
section
variable {X : Cx}
end
end L2

/-! ## tables as rows of rows -/
namespace My
end My

/-! ## tables as they lie -/
namespace My
open PySem L2
/-- a list that is not the one at d -/
def LiV (d : Addr) (H : Hp) (v : V) (l : List Int) : Prop := ∃ r, v = .ref r ∧ H r = some (.lst (IL l)) ∧ r ≠ d
end My

/-! ## determinants: columns, turned tables, any two rows -/
namespace My
/-- the product of the first n -/
def pr : Nat → (Nat → Int) → Int
  | 0, _ => 1
  | n + 1, f => pr n f * f n
end My

/-! ## the tables of webs: a tie more -/
namespace My
/-- where a tie begins and where it ends -/
def ind (u v i : Nat) : Int := (if i = u then 1 else 0) - (if i = v then 1 else 0)
end My

/-! ## the tables of webs tell their trees -/
namespace My
open PySem L2
end My

/-! ## the matrix-tree theorem -/
namespace My
open PySem L2
/-! ### for webs -/
end My

/-! ## o[i] += e, o a list -/
namespace L2
open PySem PySem.Spec PyProof.Rows
section
variable {X : Cx}
end
end L2

/-! ## a table that is written into; loops over two lists -/
namespace My
open PySem L2
/-- a table of own rows at r, made since H0 -/
structure TabAt (H0 : Hp) (r : Addr) (n : Nat) (H : Hp) (ys : List V) (L : List (List Int)) : Prop where
  tab : H r = some (.lst ys)
  rows : Bears (LiV r H) ys L
  len : L.length = n
  all : ∀ l ∈ L, l.length = n
  nd : ys.Nodup
  new : ∀ A, V.ref A ∈ ys → H0 A = none
end My

/-! ## one tie left out, wherever it stands -/
namespace My
open PySem L2
end My

/-! ## trees told back -/
namespace My
open PySem L2
end My

/-! ## two webs put together: their trees -/
namespace My
open PySem L2
end My

/-! ## how many sets there are; two webs put together the other way round -/
namespace My
open PySem L2
end My

/-! ## the table of a set: its places ascend -/
namespace L2
open PySem
/-- the places ascend, and who leads -/
def Ris (t : SetTable) : Prop := t.place.toList.Pairwise (· < ·)
theorem asc_get {xs : Array Nat} (h : xs.toList.Pairwise (· < ·)) {i k a b : Nat} (hik : i < k) (ha : xs[i]? = some a) (hb : xs[k]? = some b) : a < b := by
  rw [← Array.getElem?_toList] at ha hb
  obtain ⟨h1, e1⟩ := List.getElem?_eq_some_iff.mp ha
  obtain ⟨h2, e2⟩ := List.getElem?_eq_some_iff.mp hb
  rw [← e1, ← e2]
  exact List.pairwise_iff_getElem.mp h i k h1 h2 hik
theorem below_run {xs : Array Nat} {j : Nat} (h : xs.toList.Pairwise (· < ·)) : ∀ (f lo hi : Nat), hi - lo ≤ f → lo ≤ hi → hi ≤ xs.size → (∀ i v, xs[i]? = some v → i < lo → v < j) → (∀ i v, xs[i]? = some v → hi ≤ i → j ≤ v) →
    SetTable.below.go xs j f lo hi ≤ xs.size ∧ ∀ i v, xs[i]? = some v → (i < SetTable.below.go xs j f lo hi ↔ v < j)
  | 0, lo, hi, hf, hl, hs, a, b => by
    have e : lo = hi := by omega
    unfold SetTable.below.go
    refine ⟨by omega, fun i v hv => ⟨a i v hv, fun hvj => Nat.lt_of_not_le fun hc => ?_⟩⟩
    have := b i v hv (by omega)
    omega
  | f + 1, lo, hi, hf, hl, hs, a, b => by
    unfold SetTable.below.go
    by_cases c : lo < hi
    · rw [if_pos c]
      dsimp only
      obtain ⟨m, hm⟩ : ∃ m, xs[(lo + hi) / 2]? = some m := ⟨_, Array.getElem?_eq_getElem (by omega)⟩
      have em : xs.getD ((lo + hi) / 2) j = m := by rw [Array.getD_eq_getD_getElem?, hm]; rfl
      rw [em]
      by_cases d : m < j
      · rw [if_pos d]
        refine below_run h f _ hi (by omega) (by omega) hs (fun i v hv hi2 => ?_) b
        by_cases e : i = (lo + hi) / 2
        · rw [e, hm] at hv
          exact Option.some.inj hv ▸ d
        · have := asc_get h (show i < (lo + hi) / 2 by omega) hv hm
          omega
      · rw [if_neg d]
        refine below_run h f lo _ (by omega) (by omega) (by omega) a fun i v hv hi2 => ?_
        by_cases e : i = (lo + hi) / 2
        · rw [e, hm] at hv
          have := Option.some.inj hv
          omega
        · have := asc_get h (show (lo + hi) / 2 < i by omega) hm hv
          omega
    · rw [if_neg c]
      refine ⟨by omega, fun i v hv => ⟨a i v hv, fun hvj => Nat.lt_of_not_le fun hc => ?_⟩⟩
      have := b i v hv (by omega)
      omega
theorem below_tells {xs : Array Nat} (h : xs.toList.Pairwise (· < ·)) (j : Nat) : SetTable.below xs j ≤ xs.size ∧ ∀ i v, xs[i]? = some v → (i < SetTable.below xs j ↔ v < j) :=
  below_run h xs.size 0 xs.size (by omega) (Nat.zero_le _) (Nat.le_refl _) (fun i v _ h => absurd h (Nat.not_lt_zero _)) fun i v hv hi => by
    rw [Array.getElem?_eq_none hi] at hv
    cases hv
theorem below_at {xs : Array Nat} (h : xs.toList.Pairwise (· < ·)) {i v : Nat} (hv : xs[i]? = some v) : SetTable.below xs v = i := by
  obtain ⟨h1, h2⟩ := below_tells h v
  have a : ¬ i < SetTable.below xs v := fun q => by have := (h2 i v hv).mp q; omega
  refine Nat.le_antisymm (by omega) (Nat.le_of_not_lt fun q => ?_)
  have hlt := (Array.getElem?_eq_some_iff.mp hv).1
  obtain ⟨u, hu⟩ : ∃ u, xs[SetTable.below xs v]? = some u := ⟨_, Array.getElem?_eq_getElem (by omega)⟩
  have b := asc_get h q hu hv
  have := (h2 _ u hu).mpr b
  omega
theorem below_next {xs : Array Nat} (h : xs.toList.Pairwise (· < ·)) {i v : Nat} (hv : xs[i]? = some v) : SetTable.below xs (v + 1) = i + 1 := by
  obtain ⟨h1, h2⟩ := below_tells h (v + 1)
  have a := (h2 i v hv).mpr (Nat.lt_succ_self v)
  refine Nat.le_antisymm (Nat.le_of_not_lt fun q => ?_) a
  obtain ⟨u, hu⟩ : ∃ u, xs[i + 1]? = some u := ⟨_, Array.getElem?_eq_getElem (by omega)⟩
  have b := (h2 _ u hu).mp q
  have := asc_get h (Nat.lt_succ_self i) hv hu
  omega
theorem below_zero {xs : Array Nat} (h : xs.toList.Pairwise (· < ·)) : SetTable.below xs 0 = 0 := by
  obtain ⟨h1, h2⟩ := below_tells h 0
  refine Nat.le_zero.mp (Nat.le_of_not_lt fun q => ?_)
  obtain ⟨u, hu⟩ : ∃ u, xs[0]? = some u := ⟨_, Array.getElem?_eq_getElem (by omega)⟩
  exact Nat.not_lt_zero _ ((h2 _ u hu).mp q)
/-- no live one there -/
def NoLive (t : SetTable) (j : Nat) : Prop := t.place[SetTable.below t.place j]? ≠ some j
theorem ris_put {t : SetTable} {j : Nat} (h : Ris t) (hn : NoLive t j) : Ris (t.put j).1 := by
  obtain ⟨h1, h2⟩ := below_tells h j
  have up : ∀ i v, t.place[i]? = some v → SetTable.below t.place j ≤ i → j < v := fun i v hv hi => by
    have a : ¬ v < j := fun q => by have := (h2 i v hv).mpr q; omega
    have b : v ≠ j := fun e => hn (by rw [e] at hv; rw [below_at h hv]; exact hv)
    omega
  show (SetTable.insertAt t.place (SetTable.below t.place j) j).toList.Pairwise (· < ·)
  rw [SetTable.toList_insertAt]
  have dn : ∀ x ∈ t.place.toList.take (SetTable.below t.place j), x < j := fun x hx => by
    obtain ⟨i, hi⟩ := List.getElem?_of_mem hx
    rw [List.getElem?_take] at hi
    split at hi
    · rename_i q
      rw [Array.getElem?_toList] at hi
      exact (h2 i x hi).mp q
    · cases hi
  have ub : ∀ x ∈ t.place.toList.drop (SetTable.below t.place j), j < x := fun x hx => by
    obtain ⟨i, hi⟩ := List.getElem?_of_mem hx
    rw [List.getElem?_drop, Array.getElem?_toList] at hi
    exact up _ x hi (Nat.le_add_right _ _)
  refine List.pairwise_append.mpr ⟨List.Pairwise.sublist (List.take_sublist _ _) h, List.pairwise_cons.mpr ⟨ub, List.Pairwise.sublist (List.drop_sublist _ _) h⟩, fun a ha b hb => ?_⟩
  rcases List.mem_cons.mp hb with e | e
  · rw [e]; exact dn a ha
  · exact Nat.lt_trans (dn a ha) (ub b e)
theorem slot_empty {t : SetTable} {j : Nat} (h : t.slot j = .empty ∨ t.slot j = .dummy) : NoLive t j := fun e => by
  have e2 : t.slot j = .live (SetTable.below t.place j) := by
    unfold SetTable.slot
    dsimp only
    rw [if_pos (by rw [e]; simp)]
  rw [e2] at h
  rcases h with h | h <;> cases h
theorem probe_free {t : SetTable} {f : Nat → Int} {h : Int} : ∀ (n : Nat) (p : SetTable.Probe) (j : Nat) (d : Option Nat), (∀ e, p.dummy = some e → NoLive t e) → SetTable.probe.go t f h n p = some (.empty j d) → NoLive t j ∧ ∀ e, d = some e → NoLive t e
  | 0, p, j, d, _, h => by cases h
  | n + 1, p, j, d, hp, h => by
    have adv : ∀ q : SetTable.Probe, (t.advance q).dummy = q.dummy := fun q => by
      unfold SetTable.advance
      split <;> rfl
    unfold SetTable.probe.go at h
    split at h
    · rename_i hs
      cases h
      exact ⟨slot_empty (.inl hs), hp⟩
    · rename_i hs
      exact probe_free n _ j d (fun e he => by rw [adv] at he; cases he; exact slot_empty (.inr hs)) h
    · split at h
      · cases h
      · exact probe_free n _ j d (fun e he => hp e (by rw [adv] at he; exact he)) h
theorem free_slot {t : SetTable} {h : Int} {s : Nat} {b : Bool} (e : t.freeSlot h = some (s, b)) : NoLive t s := by
  unfold SetTable.freeSlot at e
  split at e
  · rename_i j d hp
    obtain ⟨a1, a2⟩ := probe_free _ _ j d (fun e he => by cases he) hp
    have e1 := congrArg Prod.fst (Option.some.inj e)
    dsimp only at e1
    rw [← e1]
    cases d with
    | none => exact a1
    | some x => exact a2 x rfl
  · cases e
theorem ris_stand (t : SetTable) (n : Nat) : Ris (t.standIn n) := by
  show (Array.range n).toList.Pairwise (· < ·)
  rw [Array.toList_range]
  exact List.pairwise_lt_range
theorem ris_new {t : SetTable} (h : Ris t) (es : Array (Int × Value)) (k : Int) (x : Value) : Ris (layNew t es k x).2.1 ∧ (layNew t es k x).2.1.led = t.led := by
  unfold layNew
  split
  · rename_i s b e
    dsimp only
    unfold SetTable.orStandIn
    split
    · exact ⟨ris_put h (free_slot e), rfl⟩
    · exact ⟨ris_stand _ _, rfl⟩
  · exact ⟨ris_stand _ _, rfl⟩
theorem ris_relay {t : SetTable} (h : Ris t) (es : Array (Int × Value)) (n : Nat) : Ris (relayAll t es n).2.1 ∧ (relayAll t es n).2.1.led = t.led := by
  unfold relayAll
  split
  · rename_i t' order e
    dsimp only
    split
    · unfold SetTable.relaid SetTable.laid at e
      cases ho : SetTable.layClean (SetTable.sizeAbove n - 1) (es.map (·.1)) with
      | none => rw [ho] at e; cases e
      | some owner =>
        rw [ho] at e
        have e1 := congrArg Prod.fst (Option.some.inj e)
        dsimp only at e1
        rw [← e1]
        refine ⟨?_, rfl⟩
        show (List.map _ (List.filterMap _ _)).toArray.toList.Pairwise (· < ·)
        rw [List.toList_toArray, List.pairwise_map, List.pairwise_filterMap]
        refine List.pairwise_lt_range.imp fun {a b} hab x hx y hy => ?_
        have ex : x.1 = a := by
          cases q : owner.getD a none with
          | none => rw [q] at hx; cases hx
          | some z => rw [q] at hx; cases hx; rfl
        have ey : y.1 = b := by
          cases q : owner.getD b none with
          | none => rw [q] at hy; cases hy
          | some z => rw [q] at hy; cases hy; rfl
        rw [ex, ey]
        exact hab
    · exact ⟨ris_stand _ _, rfl⟩
  · exact ⟨ris_stand _ _, rfl⟩
end L2

/-! ## an int put into a set, its table kept in order -/
namespace L2
open PySem PySem.Spec PyProof.Rows
/-- a set of ints stands at a; its table's places ascend -/
def SetR (P : Program) (w : World) (h : Heap) (a : Addr) (led : Bool) (S : Int → Bool) (n : Nat) : Prop :=
  ∃ (o : Obj) (es : Array (Int × Value)) (ep : Nat) (t : SetTable), h.get? a = some o ∧ o.ExactSet ∧ o.data = .set es ep t ∧ ElemsOf (intKind P w) es.toList ∧ (∀ z, S z = true ↔ ∃ y ∈ es.toList, (intKind P w).is z y.2 = true) ∧ es.size < scanBound ∧ t.fits es.size = true ∧ es.size = n ∧ Ris t ∧ t.led = led
theorem SetR.at {P : Program} {w : World} {h h' : Heap} {a : Addr} {led : Bool} {S : Int → Bool} {n : Nat} (q : SetR P w h a led S n) (k : ∀ o, h.get? a = some o → h'.get? a = some o) : SetR P w h' a led S n :=
  let ⟨o, es, ep, t, ho, r⟩ := q
  ⟨o, es, ep, t, k o ho, r⟩
section
variable {prog : Program} {w : World} {A : Around} {E : Value → Shared → Prop} {s : Shared}
theorem set_stored {h : Heap} {a : Addr} {o : Obj} {es : Array (Int × Value)} {ep : Nat} {t : SetTable} (ho : h.get? a = some o) (hx : o.ExactSet) (hd : o.data = .set es ep t) (fs : Array (Int × Value)) (u : SetTable) :
    (h.update a (Obj.putSet fs u)).get? a = some { o with data := .set fs (ep + 1) u } ∧ ({ o with data := .set fs (ep + 1) u } : Obj).ExactSet := by
  have q := Heap.get?_update_self (Obj.putSet fs u) ho (by rw [putSet_of fs u hd]; rfl)
  rw [putSet_of fs u hd] at q
  exact ⟨q, hx⟩
theorem add_rest {gv : Bool → Sem Unit} (hgv : ∀ (b : Bool) (s1 : Shared) (R : Unit → Shared → Prop), R () s1 → wpAny (model prog w) A (gv b) R E s1)
    {a : Addr} {o : Obj} {es fs : Array (Int × Value)} {ep : Nat} {t u : SetTable} (ho : s.heap.get? a = some o) (hx : o.ExactSet) (hd : o.data = .set es ep t)
    {S : Int → Bool} (he : ElemsOf (intKind prog w) fs.toList) (hm : ∀ z, S z = true ↔ ∃ y ∈ fs.toList, (intKind prog w).is z y.2 = true) (hb : fs.size < scanBound) (hf : u.fits fs.size = true) (hr : Ris u) {dm : Bool} {R : Option Bool → Shared → Prop}
    (k : ∀ h', Heap.SameBut a s.heap h' → SetR prog w h' a u.led S fs.size → R (some true) { s with heap := h' }) :
    wpAny (model prog w) A (do
      storeSet a fs u
      if (!dm && u.tooFull) = true then do
        gv (relayAll u fs (SetTable.grown fs.size)).2.2
        storeSet a (relayAll u fs (SetTable.grown fs.size)).1 (relayAll u fs (SetTable.grown fs.size)).2.1
        pure (some true)
      else pure (some true)) R E s := by
  obtain ⟨h1, x1⟩ := set_stored ho hx hd fs u
  have b1 := Heap.SameBut.update s.heap a (Obj.putSet fs u)
  refine wpAny_bind (wpAny_storeSet_of ho hd ?_ (fits_of_scanBound hb))
  by_cases c : (!dm && u.tooFull) = true
  · rw [if_pos c]
    have p := relayAll_perm u fs (SetTable.grown fs.size)
    have f := relayAll_fits u fs (SetTable.grown fs.size)
    obtain ⟨r, l⟩ := ris_relay hr fs (SetTable.grown fs.size)
    generalize relayAll u fs (SetTable.grown fs.size) = Z at p f r l ⊢
    obtain ⟨gs, v, gave⟩ := Z
    dsimp only at p f r l ⊢
    have ez : gs.size = fs.size := by rw [← Array.length_toList, p.length_eq, Array.length_toList]
    obtain ⟨h2, x2⟩ := set_stored h1 x1 rfl gs v
    refine wpAny_bind (hgv _ _ _ (wpAny_bind (wpAny_storeSet_of h1 rfl (wpAny_pure ?_) (fits_of_scanBound (by rw [ez]; exact hb)))))
    exact k _ (b1.trans (Heap.SameBut.update _ a _)) ⟨_, gs, _, v, h2, x2, rfl, he.perm p, fun z => (hm z).trans ⟨fun ⟨y, hy, q⟩ => ⟨y, p.mem_iff.mpr hy, q⟩, fun ⟨y, hy, q⟩ => ⟨y, p.mem_iff.mp hy, q⟩⟩, by rw [ez]; exact hb, f, ez, r, l⟩
  · rw [if_neg c]
    exact wpAny_pure (k _ b1 ⟨_, fs, _, u, h1, x1, rfl, he, hm, hb, hf, rfl, hr, rfl⟩)
theorem add_ris {a : Addr} {S : Int → Bool} {n : Nat} {z : Int} {x : Value} {led : Bool} {R : Bool → Shared → Prop} (hz : (intKind prog w).is z x = true) (hsc : x.scannable = true) (hS : SetR prog w s.heap a led S n) (room : n + 1 < scanBound)
    (k : ∀ h', Heap.SameBut a s.heap h' → SetR prog w h' a led (fun y => S y || decide (y = z)) (if S z then n else n + 1) → R (!S z) { s with heap := h' }) :
    wpAny (model prog w) A (setAddHashed a x ((intKind prog w).hash z)) R E s := by
  obtain ⟨o, es, ep, t, ho, hx, hd, he, hm, hb, hf, hn, hr, hl⟩ := hS
  unfold setAddHashed setAddHashedIn
  refine wpAny_holding (wpAny_bind (wpAny_setState_of ho hd hf ?_))
  dsimp only
  rw [if_pos (byScan_of hsc hb he)]
  unfold setAddByScan
  refine wpAny_bind (wpAny_bind (wpAny_rule (wpAny_bind (wpAny_setScan_of hz ho hd hf he ?_))))
  cases hw : List.findIdx? (fun y => (intKind prog w).is z y.2) es.toList with
  | some j =>
    obtain ⟨j1, j2, _⟩ := List.findIdx?_eq_some_iff_getElem.mp hw
    have yes : S z = true := (hm z).mpr ⟨es.toList[j], List.getElem_mem j1, j2⟩
    have fin := k s.heap (Heap.SameBut.refl a s.heap) ⟨o, es, ep, t, ho, hx, hd, he, fun y => by
      rw [Bool.or_eq_true, decide_eq_true_eq, ← hm y]
      exact ⟨fun q => q.elim id fun q => q ▸ yes, .inl⟩, hb, hf, by rw [yes]; exact hn, hr, hl⟩
    rw [yes] at fin
    dsimp only
    exact wpAny_pure (wpAny_pure fin)
  | none =>
    have no : S z = false := Bool.eq_false_iff.mpr fun q => by
      obtain ⟨y, hy, hp⟩ := (hm z).mp q
      have := List.findIdx?_eq_none_iff.mp hw y hy
      rw [hp] at this
      cases this
    dsimp only
    have p := layNew_perm t es ((intKind prog w).hash z) x
    have f := layNew_fits t es ((intKind prog w).hash z) x
    obtain ⟨r, l⟩ := ris_new hr es ((intKind prog w).hash z) x
    generalize layNew t es ((intKind prog w).hash z) x = Z at p f r l ⊢
    obtain ⟨fs, u, dm, gave⟩ := Z
    dsimp only at p f r l ⊢
    rw [Array.toList_push] at p
    have ez : fs.size = n + 1 := by rw [← Array.length_toList, p.length_eq, List.length_append, Array.length_toList, hn]; rfl
    have gw : ∀ (b : Bool) {s1 : Shared} {R' : Unit → Shared → Prop}, R' () s1 → wpAny (model prog w) A (match b with | true => rule "set.scan.the-table-gave-way" | false => pure ()) R' E s1 := fun b s1 R' q => by
      cases b
      · exact wpAny_pure q
      · exact wpAny_rule q
    have fin : ∀ h', Heap.SameBut a s.heap h' → SetR prog w h' a led (fun y => S y || decide (y = z)) fs.size → R true { s with heap := h' } := fun h' q1 q2 => by
      have q := k h' q1
      rw [no] at q
      rw [ez] at q2
      exact q q2
    have he1 := (he.push hz hsc).perm p
    have hm1 : ∀ y, (S y || decide (y = z)) = true ↔ ∃ v ∈ fs.toList, (intKind prog w).is y v.2 = true := mem_push_iff hz hm p
    have hb1 : fs.size < scanBound := by omega
    refine wpAny_bind (gw _ ?_)
    have tail : ∀ v : SetTable, v.fits fs.size = true → Ris v → v.led = led → wpAny (model prog w) A (do
        storeSet a fs v
        if (!dm && v.tooFull) = true then do
          (match (relayAll v fs (SetTable.grown fs.size)).2.2 with | true => rule "set.scan.the-table-gave-way" | false => pure ())
          storeSet a (relayAll v fs (SetTable.grown fs.size)).1 (relayAll v fs (SetTable.grown fs.size)).2.1
          pure (some true)
        else pure (some true)) (fun y s1 => wpAny (model prog w) A (match y with | some added => pure added | none => setAddHashedIn a x ((intKind prog w).hash z) 99999) R E s1) E s := fun v a1 a2 a3 =>
      add_rest (gv := fun b => match b with | true => rule "set.scan.the-table-gave-way" | false => pure ()) (fun b s1 R' q => gw b q) ho hx hd he1 hm1 hb1 a1 a2 fun h' q1 q2 => wpAny_pure (fin h' q1 (a3 ▸ q2))
    split
    · refine wpAny_bind ?_
      rw [hashByValue_scannable 8 hsc]
      refine wpAny_pure ?_
      split
      · exact tail u f r (l.trans hl)
      · exact tail _ (SetTable.fits_plain_off f) r (l.trans hl)
    · refine wpAny_bind (wpAny_pure ?_)
      rw [if_pos rfl]
      exact tail u f r (l.trans hl)
end
end L2

/-! ## set(list of ints), its table kept in order -/
namespace L2
open PySem PySem.Spec PyProof.Rows
section
variable {prog : Program} {w : World} {A : Around} {R : Result → Shared → Prop} {I : Addr} {fp wr : List Addr} {G : Array GenState → Array GenState → Prop} {n : Nat} {P : Nat → Value → Prop} {St : Nat → Shared → Prop}
theorem loop_ris (W : WalksS prog w A.in1 I fp wr G n P St) (b : Addr) (hbf : b ∉ fp) {led : Bool} (val : Nat → Int) (hv : ∀ i v, P i v → ∃ t, v = .int (val i) t) (hn : n + 1 < scanBound) :
    ∀ (k i : Nat) (s : Shared), n - i = k → i ≤ n → St i s → SetR prog w s.heap b led (fun z => (firstMet val i).any (· == z)) (firstMet val i).length →
      (∀ s', Moved (b :: wr) G s s' → SetR prog w s'.heap b led (fun z => (firstMet val n).any (· == z)) (firstMet val n).length → R (.ok (.ret .none)) s') →
      codeAny (model prog w) A (.builtin "set.update.loop" ⟨[.ref b, .ref I], []⟩) R s
  | 0, i, s, hk, hi, st, hS, q => by
    have e : i = n := by omega
    subst e
    refine codeAny_builtin F.entry_set_update_loop ?_
    rw [Around.under_plainId F.plain_set_update_loop _]
    show wpAny _ A.in1 (pyNext (.ref I) >>= _) _ _ s
    refine wpAny_bind (W.done s _ _ st fun s1 m => ?_)
    show wpAny _ A.in1 (ret Value.none) _ _ s1
    exact wpAny_pure (q s1 (m.mono fun c hc => .tail _ hc) (hS.at fun o ho => m.heap b o (fun hc => hbf (W.sub _ hc)) ho))
  | k + 1, i, s, hk, hi, st, hS, q => by
    have hlt : i < n := by omega
    refine codeAny_builtin F.entry_set_update_loop ?_
    rw [Around.under_plainId F.plain_set_update_loop _]
    show wpAny _ A.in1 (pyNext (.ref I) >>= _) _ _ s
    refine wpAny_bind (W.item i s _ _ hlt st fun v s1 hP st1 m => ?_)
    obtain ⟨t, rfl⟩ := hv i v hP
    have hS1 := hS.at (h' := s1.heap) fun o ho => m.heap b o (fun hc => hbf (W.sub _ hc)) ho
    show wpAny _ A.in1 (holding [Value.int (val i) t] (setAdd b (.int (val i) t)) >>= _) _ _ s1
    refine wpAny_bind (wpAny_holding ?_)
    unfold setAdd
    refine wpAny_holding (wpAny_bind ((intKind prog w).pyHash (k := val i) (intKind_is _ _ _ _) ?_))
    have fm := firstMet_length_le val i
    refine add_ris (s := { s1 with toks := s1.toks + 1 }) (intKind_is _ _ _ _) rfl hS1 (by omega) fun h2 sb hS2 => ?_
    have hS3 : SetR prog w h2 b led (fun z => (firstMet val (i + 1)).any (· == z)) (firstMet val (i + 1)).length := by
      have e1 : (fun z => (firstMet val (i + 1)).any (· == z)) = fun y => ((firstMet val i).any (· == y) || decide (y = val i)) := funext fun y => by rw [firstMet_succ, step_any]
      rw [e1, firstMet_succ, step_length]
      exact hS2
    have kept : ∀ c o, c ≠ b → s1.heap.get? c = some o → h2.get? c = some o := fun c o hc e => (sb.2 c hc).trans e
    refine wpAny_pure ⟨plainId_quiet F.plain_set_update_loop _, loop_ris W b hbf val hv hn k (i + 1) _ (by omega) hlt (W.frame _ s1 _ _ st1 (Nat.le_succ _) fun c hc o e => kept c o (fun e' => hbf (e' ▸ hc)) e) hS3 fun s2 m2 hS4 => ?_⟩
    exact q s2 (Moved.trans W.gtrans ((m.mono fun c hc => .tail _ hc).then_heap (Nat.le_succ _) fun c o hc e => kept c o (fun e' => hc (e' ▸ .head _)) e) m2) hS4
end
section
variable {prog : Program} {w : World} {A : Around} {E : Value → Shared → Prop} {s : Shared}
/-- a set that is new, where the order is not by text it is led -/
def freshO (w : World) : Obj := { cls := .type "set", dict := none, data := .set #[] 0 (.fresh 0 0 (!w.params.followText "set-order")) }
theorem new_ris (a : Value) {Q : Value → Shared → Prop} (k : Q (.ref s.heap.objs.size) { s with heap := s.heap.push (freshO w) }) :
    codeAny (model prog w) A (.call (.builtin "set.__new__") ⟨[.type "set", a], []⟩) (wants Q E) s := by
  refine codeAny_of_tree ?_
  show wpAny _ A.in1 (checkBuiltinCall "set.__new__" ⟨[.type "set", a], []⟩ >>= fun _ => again (.builtin "set.__new__" ⟨[.type "set", a], []⟩)) _ _ s
  refine wpAny_bind (wpAny_of_eq (F.newCall_set_1 a) (wpAny_pure ⟨plainId_quiet F.plain_set_new _, codeAny_builtin F.entry_set_new ?_⟩))
  rw [Around.under_plainId F.plain_set_new _]
  have hsub := sub_set_self
  unfold Builtin.«set.__new__» Builtin.Frozenset.newClass
  obtain ⟨hp, g, d, tk, os⟩ := s
  dsimp only
  wp_walk
  refine wpAny_askSetting (wpAny_pure ?_)
  simp only [newObj]
  refine wpAny_bind (wpAny_alloc (wpAny_pure (wpAny_pure k)))
theorem ris_fresh {h : Heap} {a : Addr} (e : h.get? a = some (freshO w)) : SetR prog w h a (!w.params.followText "set-order") (fun z => (firstMet (fun _ => 0) 0).any (· == z)) 0 := by
  refine ⟨_, #[], 0, _, e, ⟨rfl, rfl, rfl⟩, rfl, fun y hy => (by cases hy), fun z => ⟨fun q => (by cases q), fun ⟨y, hy, _⟩ => (by cases hy)⟩, by decide, by simp [SetTable.fits, SetTable.fresh, SetTable.fill], rfl, .nil, rfl⟩
end
end L2

/-! ## the call set(list of ints) -/
namespace L2
open PySem PySem.Spec PyProof.Rows
section
variable {prog : Program} {w : World} {A : Around} {E : Value → Shared → Prop} {s : Shared}
theorem ris_init {l : Addr} {items : Array Value} {ns : List Int} {h0 : Heap} {b : Addr} {Q : Value → Shared → Prop} (hh : A.handled = none) (hb0 : h0.get? b = some (freshO w)) (hl : h0.IsList l items) (hne : l ≠ b) (hi : IntsAre items.toList ns) (hn : items.size + 1 < scanBound)
    (k : ∀ h' tk, SetR prog w h' b (!w.params.followText "set-order") (fun z => (firstMet (fun i => ns.getD i 0) items.size).any (· == z)) (firstMet (fun i => ns.getD i 0) items.size).length → (∀ c o, c ≠ b → h0.get? c = some o → h'.get? c = some o) → Q .none { s with heap := h', toks := tk }) :
    wpAny (model prog w) A.in1 (Builtin.«set.__init__» ⟨[.ref b, .ref l], []⟩) (fun fin s' => match fin with | .done f => wants Q E (.ok f) s' | .again c' => c'.quiet = true ∧ codeAny (model prog w) A c' (wants Q E) s') (fun e s' => wants Q E (.error e) s') { s with heap := h0 } := by
  have hT : Shared.TypeIs { s with heap := h0 } (.ref b) "set" := ⟨_, hb0, rfl⟩
  have hl0 := hl
  obtain ⟨⟨ocls, odict, odata, oslots⟩, hol, hcl, nl, hdl⟩ := hl
  simp only at hcl hdl
  subst hcl hdl
  have q1 := F.sub_list_set
  have q2 := F.sub_list_frozenset
  have q3 : (Value.type "list" == Value.type "dict") = false := by decide
  unfold freshO at hb0
  unfold Builtin.«set.__init__» noKeywords Builtin.Frozenset.updateFrom
  generalize hPI : pyIter = PI
  wp_walk
  subst hPI
  refine wpAny_pyIter_list hl0 ?_
  refine wpAny_bind (wpAny_runValue ?_)
  have ltl : l < h0.objs.size := Heap.lt_size hol
  have ltb : b < h0.objs.size := Heap.lt_size hb0
  have bf : b ∉ [h0.objs.size, l] := fun q => by
    rcases List.mem_cons.mp q with e | e
    · exact Nat.ne_of_lt ltb e
    · exact hne (List.mem_singleton.mp e).symm
  refine loop_ris ((Walks.list (A := A.in1.in1) (by simp [hh]) _ l (Nat.ne_of_lt ltl) items).toS) b bf (led := !w.params.followText "set-order") (fun i => ns.getD i 0) (fun i v hv => IntsAre.int_at hi i v (by rw [Array.getElem?_toList]; exact hv)) hn (items.size - 0) 0 _ (by omega) (Nat.zero_le _)
    ⟨⟨_, Heap.get?_push_size _ rfl, rfl, rfl⟩, hl0.push _⟩ ?_ ?_
  · exact ris_fresh (Heap.get?_push_of_some _ hb0)
  · rintro ⟨h', g', d', tk', os'⟩ m hS
    have e1 : g' = s.gens := m.gens
    have e2 : d' = s.drawn := m.drawn
    have e3 : os' = s.os := m.os
    subst e1 e2 e3
    show wpAny _ _ _ _ _ _
    refine wpAny_pure ?_
    show wpAny _ _ (ret Value.none) _ _ _
    refine wpAny_pure (k h' tk' hS fun c o hc e => m.heap c o (fun q => ?_) (Heap.get?_push_of_some _ e))
    rcases List.mem_cons.mp q with e' | e'
    · exact hc e'
    · exact Nat.ne_of_lt (Heap.lt_size e) (List.mem_singleton.mp e')
set_option maxRecDepth 100000 in
set_option maxHeartbeats 3000000 in
theorem set_ris {l : Addr} {items : Array Value} {ns : List Int} {Q : Value → Shared → Prop} (hh : A.handled = none) (hl : s.heap.IsList l items) (hi : IntsAre items.toList ns) (hn : items.size + 1 < scanBound)
    (k : ∀ h' tk, SetR prog w h' s.heap.objs.size (!w.params.followText "set-order") (fun z => (firstMet (fun i => ns.getD i 0) items.size).any (· == z)) (firstMet (fun i => ns.getD i 0) items.size).length → (∀ c o, s.heap.get? c = some o → h'.get? c = some o) → Q (.ref s.heap.objs.size) { s with heap := h', toks := tk }) :
    wpAny (model prog w) A (call (.type "set") [.ref l]) Q E s := by
  obtain ⟨c, tl, hmro⟩ := F.called_set.mro
  have a1 := F.called_set.made
  have a2 := F.called_set.sub
  have a3 := F.called_set.notType
  have a4 := F.called_set.canCreate
  have a5 := F.typeCall_set_1 (.ref l)
  refine wpAny_call (codeAny_of_tree ?_)
  show wpAny _ _ (callAny (.type "set") _) _ _ _
  refine wpAny_pure ⟨Code.quiet_builtin _ (by decide +kernel), codeAny_builtin F.entry_type_call ?_⟩
  rw [Around.under_plain (weight_type_call_type "set" [.ref l] []) rfl]
  repeat any_goals first | assumption | wp_step
  refine codeAny_mono (new_ris (.ref l) (E := E) (Q := fun ob s1 => ob = .ref s.heap.objs.size ∧ s1 = { s with heap := s.heap.push (freshO w) }) ⟨rfl, rfl⟩) fun r s1 hr => ?_
  match r, hr with
  | .error e, hr => exact hr
  | .ok (.ret ob), hr =>
    obtain ⟨rfl, rfl⟩ := hr
    have hb0 : (s.heap.push (freshO w)).get? s.heap.objs.size = some (freshO w) := Heap.get?_push_size _ rfl
    have hT : Shared.TypeIs { s with heap := s.heap.push (freshO w) } (.ref s.heap.objs.size) "set" := ⟨_, hb0, rfl⟩
    have a6 := F.called_set.init.lookup
    have a7 := F.called_set.init.bind (.ref s.heap.objs.size)
    repeat any_goals first | assumption | wp_step
    have ltl : l < s.heap.objs.size := let ⟨_, e, _⟩ := hl; Heap.lt_size e
    refine codeAny_mono (codeAny_call_builtin (R := wants (fun r s2 => r = .none ∧ Q (.ref s.heap.objs.size) s2) E) F.called_set.init.plain F.entry_set_init (check_set_init_1 hT (ris_init (A := _) (s := s) ?_ hb0 (hl.push _) (Nat.ne_of_lt ltl) hi hn fun h' tk hS kp => ⟨rfl, k h' tk hS fun c o e => kp c o (Nat.ne_of_lt (Heap.lt_size e)) (Heap.get?_push_of_some _ e)⟩))) fun r2 s2 hr2 => ?_
    · simp [hh]
    · match r2, hr2 with
      | .error e, hr2 => exact hr2
      | .ok (.ret v), hr2 =>
        obtain ⟨rfl, q⟩ := hr2
        repeat any_goals first | assumption | wp_step
end
end L2

/-! ## what a set's iterator tells -/
namespace L2
open PySem PySem.Spec PyProof.Rows
theorem si_owner : Manifest.owners.lookup (String.ofList ['r', 'o', 't', 'a', 'r', 'e', 't', 'i', '_', 't', 'e', 's'].reverse) = some Manifest.sig_set_iterator := by kernel_rfl
theorem si_next : PySem.Slot "set_iterator" "__next__" "set_iterator.__next__" :=
  .of (owner := "set_iterator") (n := "__next__") (by rw [typeLookup_type, builtinLookup_eq_fast]; kernel_rfl) (by decide +kernel) (by decide +kernel) (by decide +kernel)
    (by first | exact .inl (by decide +kernel) | exact .inr (by decide +kernel)) (by rw [isSubtype_type]; kernel_rfl)
theorem si_enext : entryFor table "set_iterator.__next__" = some Builtin.«set_iterator.__next__» := entryFor_of_tree (by kernel_rfl)
theorem si_anext (a : Value) : argsOk "set_iterator.__next__" ⟨[a], []⟩ := by
  unfold argsOk; rw [signature?_of (id := "set_iterator.__next__") (n := ['_', '_', 't', 'x', 'e', 'n', '_', '_']) (o := ['r', 'o', 't', 'a', 'r', 'e', 't', 'i', '_', 't', 'e', 's']) (by kernel_rfl) si_owner]; kernel_rfl
theorem si_iter : PySem.Slot "set_iterator" "__iter__" "set_iterator.__iter__" :=
  .of (owner := "set_iterator") (n := "__iter__") (by rw [typeLookup_type, builtinLookup_eq_fast]; kernel_rfl) (by decide +kernel) (by decide +kernel) (by decide +kernel)
    (by first | exact .inl (by decide +kernel) | exact .inr (by decide +kernel)) (by rw [isSubtype_type]; kernel_rfl)
theorem si_aiter (a : Value) : argsOk "set_iterator.__iter__" ⟨[a], []⟩ := by
  unfold argsOk; rw [signature?_of (id := "set_iterator.__iter__") (n := ['_', '_', 'r', 'e', 't', 'i', '_', '_']) (o := ['r', 'o', 't', 'a', 'r', 'e', 't', 'i', '_', 't', 'e', 's']) (by kernel_rfl) si_owner]; kernel_rfl
theorem si_eiter : entryFor table "set_iterator.__iter__" = some Builtin.«dict_keyiterator.__iter__» :=
  entryFor_alias (id' := "dict_keyiterator.__iter__") (by kernel_rfl) (by first | rfl | decide +kernel | (unfold String.splitOn; simp +decide [String.splitOnAux])) (by decide +kernel) (by kernel_rfl)
theorem st_owner : Manifest.owners.lookup (String.ofList ['t', 'e', 's'].reverse) = some Manifest.sig_set := by kernel_rfl
theorem st_iter : PySem.Slot "set" "__iter__" "set.__iter__" :=
  .of (owner := "set") (n := "__iter__") (by rw [typeLookup_type, builtinLookup_eq_fast]; kernel_rfl) (by decide +kernel) (by decide +kernel) (by decide +kernel)
    (by first | exact .inl (by decide +kernel) | exact .inr (by decide +kernel)) (by rw [isSubtype_type]; kernel_rfl)
theorem st_aiter (a : Value) : argsOk "set.__iter__" ⟨[a], []⟩ := by
  unfold argsOk; rw [signature?_of (id := "set.__iter__") (n := ['_', '_', 'r', 'e', 't', 'i', '_', '_']) (o := ['t', 'e', 's']) (by kernel_rfl) st_owner]; kernel_rfl
theorem st_eiter : entryFor table "set.__iter__" = some Builtin.«frozenset.__iter__» :=
  entryFor_alias (id' := "frozenset.__iter__") (by kernel_rfl) (by first | rfl | decide +kernel | (unfold String.splitOn; simp +decide [String.splitOnAux])) (by decide +kernel) (by kernel_rfl)
/-- a set's iterator: what goes first, how many were told, the set, its size and its epoch -/
def IsSi (h : Heap) (I a : Addr) (f : Value) (i n ep : Nat) : Prop := ∃ o, h.get? I = some o ∧ o.cls = .type "set_iterator" ∧ o.data = .fields #[f, rawInt (i : Int), .ref a, rawInt (n : Int), rawInt (ep : Int)]
theorem IsSi.ty {s : Shared} {I a : Addr} {f : Value} {i n ep : Nat} (x : IsSi s.heap I a f i n ep) : s.TypeIs (.ref I) "set_iterator" := let ⟨o, p, q, _⟩ := x; ⟨o, p, q⟩
theorem IsSi.keep {h h' : Heap} {I a : Addr} {f : Value} {i n ep : Nat} (x : IsSi h I a f i n ep) (e : ∀ o, h.get? I = some o → h'.get? I = some o) : IsSi h' I a f i n ep := let ⟨o, p, q⟩ := x; ⟨o, e _ p, q⟩
/-- what a set holds -/
def SetIs (h : Heap) (a : Addr) (es : Array (Int × Value)) (ep : Nat) (t : SetTable) : Prop := ∃ o, h.get? a = some o ∧ o.ExactSet ∧ o.data = .set es ep t
theorem SetIs.keep {h h' : Heap} {a : Addr} {es : Array (Int × Value)} {ep : Nat} {t : SetTable} (x : SetIs h a es ep t) (e : ∀ o, h.get? a = some o → h'.get? a = some o) : SetIs h' a es ep t := let ⟨o, p, q⟩ := x; ⟨o, e _ p, q⟩
section
variable {prog : Program} {w : World} {A : Around} {E : Value → Shared → Prop} {s : Shared}
theorem choose_any {M : Model} {src : Source} {n : Nat} {Q : Nat → Shared → Prop} (hn : n ≠ 0) (k : ∀ i, i < n → ∀ d, Q i { s with drawn := d }) : wpAny M A (choose src n) Q E s :=
  fun Γ p _ => ⟨hn, k _ (Nat.mod_lt _ (Nat.pos_of_ne_zero hn)) _⟩
theorem erase_perm {α : Type} : ∀ {l : List α} {i : Nat} {y : α}, l[i]? = some y → (y :: l.eraseIdx i).Perm l
  | [], _, _, h => by simp at h
  | x :: l, 0, y, h => by
    obtain rfl : x = y := Option.some.inj h
    exact .rfl
  | x :: l, i + 1, y, h => (List.Perm.swap x y (l.eraseIdx i)).trans ((erase_perm (l := l) (i := i) h).cons x)
theorem draw_any {M : Model} {α : Type} : ∀ (n : Nat) (xs : List α) (s : Shared) (Q : List α → Shared → Prop), n = xs.length → (∀ ys d, ys.Perm xs → Q ys { s with drawn := d }) → wpAny M A (drawOrder n xs) Q E s
  | 0, xs, s, Q, h, k => by
    have e : xs = [] := List.length_eq_zero_iff.mp h.symm
    subst e
    exact wpAny_pure (k [] s.drawn .rfl)
  | n + 1, [], s, Q, h, k => by cases h
  | n + 1, x :: xs, s, Q, h, k => by
    show wpAny M A (choose .order (x :: xs).length >>= _) Q E s
    refine wpAny_bind (choose_any (by simp) fun i hi d => ?_)
    obtain ⟨y, hy⟩ : ∃ y, (x :: xs)[i]? = some y := ⟨_, List.getElem?_eq_getElem hi⟩
    rw [hy]
    dsimp only
    refine wpAny_bind (draw_any n ((x :: xs).eraseIdx i) _ _ (by rw [List.length_eraseIdx_of_lt hi]; omega) fun ys d' hp => wpAny_pure (k (y :: ys) d' ?_))
    exact (hp.cons y).trans (erase_perm hy)
theorem pick_perm {α : Type} {f : Nat → Nat} : ∀ (n k : Nat) (l : List α) (out : Array α), n = l.length → (pickOrder.go f n k l out).toList.Perm (out.toList ++ l)
  | 0, k, l, out, h => by
    rw [List.length_eq_zero_iff.mp h.symm, List.append_nil]
    exact .rfl
  | n + 1, k, l, out, h => by
    have hi : f k % l.length < l.length := Nat.mod_lt _ (by omega)
    obtain ⟨y, hy⟩ : ∃ y, l[f k % l.length]? = some y := ⟨_, List.getElem?_eq_getElem hi⟩
    unfold pickOrder.go
    rw [hy]
    dsimp only
    refine (pick_perm n (k + 1) _ _ (by rw [List.length_eraseIdx_of_lt hi]; omega)).trans ?_
    rw [Array.toList_push, List.append_assoc]
    refine List.Perm.append_left _ ?_
    exact erase_perm hy
theorem si_self {I a : Addr} {f : Value} {i n ep : Nat} {Q : Value → Shared → Prop} (hr : IsSi s.heap I a f i n ep) (h : Q (.ref I) s) : wpAny (model prog w) A (pyIter (.ref I)) Q E s := by
  refine wpAny_pyIter_slot hr.ty si_iter (wpAny_call_entry si_iter hr.ty si_eiter ?_ (si_aiter _))
  show wpAny _ _ (ret (.ref I)) _ _ s
  exact wpAny_pure ⟨_, rfl, "set_iterator", _, hr.ty, si_next.lookup, h⟩
end
end L2

/-! ## a set walked through -/
namespace L2
open PySem PySem.Spec PyProof.Rows
section
variable {prog : Program} {w : World} {A : Around} {E : Value → Shared → Prop} {s : Shared}
/-- the steps of setNext: what stands at place i comes, the next slot with it -/
def NextOk (prog : Program) (w : World) (a : Addr) (es : Array (Int × Value)) (ep : Nat) (t : SetTable) (ord : List Value) (sl : Nat → Nat) : Prop :=
  ∀ (A : Around) (E : Value → Shared → Prop) (s : Shared) (i : Nat) (Q : Option (Value × Nat) → Shared → Prop), SetIs s.heap a es ep t → i ≤ ord.length → Q ((ord[i]?).map fun x => (x, sl (i + 1))) s → wpAny (model prog w) A (setNext a (sl i) i ep) Q E s
theorem si_item {I a : Addr} {es : Array (Int × Value)} {ep : Nat} {t : SetTable} {ord : List Value} {sl : Nat → Nat} {i : Nat} {x : Value} {Q : Option Value → Shared → Prop} (hN : NextOk prog w a es ep t ord sl) (hS : SetIs s.heap a es ep t) (hf : t.fits es.size = true) (hi : IsSi s.heap I a (rawInt (sl i : Nat)) i es.size ep) (hx : ord[i]? = some x)
    (k : ∀ h', IsSi h' I a (rawInt (sl (i + 1) : Nat)) (i + 1) es.size ep → Heap.SameBut I s.heap h' → Q (some x) { s with heap := h' }) : wpAny (model prog w) A (pyNext (.ref I)) Q E s := by
  obtain ⟨o, ho, hc, hd⟩ := id hi
  obtain ⟨oa, hoa, hxa, hda⟩ := id hS
  unfold pyNext
  refine wpAny_bind (wpAny_attempt (wpAny_callSpecial?_slot (name := Str.ofString "__next__") hi.ty si_next (wpAny_call_entry si_next hi.ty si_enext ?_ (si_anext _))))
  unfold Builtin.«set_iterator.__next__»
  refine wpAny_bind (wpAny_of_eq (a := (Value.ref I, [])) rfl ?_)
  dsimp only
  refine wpAny_bind (wpAny_fieldsOf ho hd ?_)
  dsimp only [rawInt]
  refine wpAny_bind (wpAny_setEntries_of hoa hda hf ?_)
  rw [if_neg (by simp)]
  rw [Int.toNat_natCast, Int.toNat_natCast, Int.toNat_natCast]
  refine wpAny_bind (hN _ _ s i _ hS (Nat.le_of_lt (List.getElem?_eq_some_iff.mp hx).1) ?_)
  rw [hx]
  dsimp only [Option.map_some]
  refine wpAny_bind (wpAny_setField ho hd (by simp) ?_)
  have ho2 := Heap.get?_update_self (Obj.mapFields (fun vs => vs.setIfInBounds 0 (rawInt (sl (i + 1) : Nat)))) ho (Obj.isFreed_of_fields (Obj.data_mapFields hd _))
  refine wpAny_bind (wpAny_setField ho2 (Obj.data_mapFields hd _) (by simp) ?_)
  refine wpAny_pure ⟨x, rfl, wpAny_pure (k _ ⟨_, Heap.get?_update_self _ ho2 (Obj.isFreed_of_fields (Obj.data_mapFields (Obj.data_mapFields hd _) _)), ?_, ?_⟩ ((Heap.SameBut.update ..).trans (Heap.SameBut.update ..)))⟩
  · rw [Obj.cls_mapFields, Obj.cls_mapFields]; exact hc
  · rw [Obj.data_mapFields (Obj.data_mapFields hd _)]
    simp
    rfl
theorem si_end {I a : Addr} {es : Array (Int × Value)} {ep : Nat} {t : SetTable} {ord : List Value} {sl : Nat → Nat} {Q : Option Value → Shared → Prop} (hh : A.handled = none) (hN : NextOk prog w a es ep t ord sl) (hS : SetIs s.heap a es ep t) (hf : t.fits es.size = true) (hi : IsSi s.heap I a (rawInt (sl ord.length : Nat)) ord.length es.size ep)
    (k : ∀ h', Heap.ExtBut I s.heap h' → Q none { s with heap := h' }) : wpAny (model prog w) A (pyNext (.ref I)) Q E s := by
  obtain ⟨o, ho, hc, hd⟩ := id hi
  obtain ⟨oa, hoa, hxa, hda⟩ := id hS
  unfold pyNext
  refine wpAny_bind (wpAny_attempt (wpAny_callSpecial?_slot (name := Str.ofString "__next__") hi.ty si_next (wpAny_call_entry si_next hi.ty si_enext ?_ (si_anext _))))
  unfold Builtin.«set_iterator.__next__»
  refine wpAny_bind (wpAny_of_eq (a := (Value.ref I, [])) rfl ?_)
  dsimp only
  refine wpAny_bind (wpAny_fieldsOf ho hd ?_)
  dsimp only [rawInt]
  refine wpAny_bind (wpAny_setEntries_of hoa hda hf ?_)
  rw [if_neg (by simp)]
  rw [Int.toNat_natCast, Int.toNat_natCast, Int.toNat_natCast]
  refine wpAny_bind (hN _ _ s ord.length _ hS (Nat.le_refl _) ?_)
  rw [List.getElem?_eq_none (Nat.le_refl _)]
  dsimp only [Option.map_none]
  refine wpAny_bind (wpAny_setField ho hd (by simp) ?_)
  show wpAny _ _ (newExc (.type "StopIteration") [] >>= _) _ _ _
  refine wpAny_bind ?_
  simp only [newExc, newTuple]
  refine wpAny_bind (wpAny_newObj_type ?_ (by size_fits))
  refine wpAny_bind (m := firstArgMember _ _) (wpAny_of_eq (a := Value.none) (by first | rfl | (simp only [firstArgMember]; rfl)) ?_)
  refine wpAny_newObj_type ?_ (by size_fits)
  simp only [raiseNew]
  refine wpAny_bind (wpAny_handled ?_)
  rw [show A.in1.handled = none from hh]
  refine wpAny_bind (wpAny_pure (wpAny_throw ?_))
  refine wpAny_bind (wpAny_isInstance (T := "StopIteration") (b := true) ⟨_, Heap.get?_push_size _ rfl, rfl⟩ isSubtype_stop ?_)
  exact wpAny_pure (k _ ((((Heap.SameBut.update ..).extBut).push _).push _))
theorem si_walks {I a : Addr} {es : Array (Int × Value)} {ep : Nat} {t : SetTable} {ord : List Value} {sl : Nat → Nat} (hh : A.handled = none) (hN : NextOk prog w a es ep t ord sl) (hf : t.fits es.size = true) (hne : a ≠ I) :
    Walks prog w A I [I, a] [I] ord.length (fun i v => ord[i]? = some v) (fun i h => i ≤ ord.length ∧ IsSi h I a (rawInt (sl i : Nat)) i es.size ep ∧ SetIs h a es ep t) where
  sub := fun b hb => List.mem_cons.mpr (.inl (List.mem_singleton.mp hb))
  frame := fun _ _ _ x hk => ⟨x.1, x.2.1.keep fun o e => hk I (by simp) o e, x.2.2.keep fun o e => hk a (by simp) o e⟩
  item := fun i s Q E hi ⟨_, x1, x2⟩ hQ => by
    have hx : ord[i]? = some (ord[i]'hi) := List.getElem?_eq_getElem hi
    exact si_item hN x2 hf x1 hx fun h' y hs => hQ _ h' s.toks hx ⟨hi, y, x2.keep fun o e => (hs.2 a hne).trans e⟩ fun b o hb eo => hs.extBut b o (fun e => hb (by simp [e])) eo
  done := fun s Q E ⟨_, x1, x2⟩ hQ => si_end hh hN x2 hf x1 fun h' he => hQ h' s.toks fun b o hb eo => he b o (fun e => hb (by simp [e])) eo
  self := fun _ _ _ _ x hQ => si_self x.2.1 hQ
/-- not by text, led: along the table -/
theorem next_led {a : Addr} {es : Array (Int × Value)} {ep : Nat} {t : SetTable} (hf : t.fits es.size = true) (hr : Ris t) (hb : w.params.followText "set-order" = false) (hl : t.led = true) (hd : (!t.plain && decide (es.size > 1)) = false) :
    NextOk prog w a es ep t (es.toList.map (·.2)) (fun i => if i = 0 then 0 else (t.place.getD (i - 1) 0) + 1) := by
  intro A E s i Q ⟨o, ho, hx, hda⟩ hi q
  have hps : t.place.size = es.size := by
    unfold SetTable.fits at hf
    simp only [Bool.and_eq_true, beq_iff_eq] at hf
    exact hf.1
  rw [List.length_map, Array.length_toList] at hi
  unfold setNext
  refine wpAny_bind (wpAny_setState_of ho hda hf ?_)
  dsimp only
  refine wpAny_bind ?_
  unfold setsByText
  refine wpAny_bind (wpAny_askSetting (wpAny_pure ?_))
  show wpAny _ _ (if (w.params.followText "set-order") = true then _ else _) _ _ _
  rw [if_neg (by rw [hb]; decide)]
  show wpAny _ _ (if (!t.plain && decide (es.size > 1)) = true then _ else _) _ _ _
  rw [if_neg (by rw [hd]; decide)]
  refine wpAny_bind ?_
  show wpAny _ _ (if (!t.led && !es.isEmpty) = true then _ else _) _ _ _
  rw [if_neg (by rw [hl]; simp)]
  refine wpAny_pure ?_
  have eb : SetTable.below t.place (if i = 0 then 0 else (t.place.getD (i - 1) 0) + 1) = i := by
    by_cases c : i = 0
    · rw [if_pos c, c]
      exact below_zero hr
    · rw [if_neg c]
      obtain ⟨v, hv⟩ : ∃ v, t.place[i - 1]? = some v := ⟨_, Array.getElem?_eq_getElem (by omega)⟩
      have e : t.place.getD (i - 1) 0 = v := by rw [Array.getD_eq_getD_getElem?, hv]; rfl
      rw [e, below_next hr hv]
      omega
  rw [eb]
  refine wpAny_pure ?_
  by_cases c : i < es.size
  · obtain ⟨v, hv⟩ : ∃ v, t.place[i]? = some v := ⟨_, Array.getElem?_eq_getElem (by omega)⟩
    obtain ⟨y, hy⟩ : ∃ y, es[i]? = some y := ⟨_, Array.getElem?_eq_getElem c⟩
    have e : t.place.getD i 0 = v := by rw [Array.getD_eq_getD_getElem?, hv]; rfl
    rw [List.getElem?_map, Array.getElem?_toList, hy] at q
    rw [hv, hy]
    simp only [Option.map_some, Nat.add_sub_cancel, e, if_neg (Nat.succ_ne_zero i)] at q
    exact q
  · have e1 : es[i]? = none := Array.getElem?_eq_none (by omega)
    rw [List.getElem?_map, Array.getElem?_toList, e1] at q
    rw [e1]
    exact q
/-- by text: as the order is picked -/
theorem next_text {a : Addr} {es : Array (Int × Value)} {ep : Nat} {t : SetTable} (hf : t.fits es.size = true) (hb : w.params.followText "set-order" = true) :
    NextOk prog w a es ep t ((pickOrder (w.params.setOrder a ep) es).toList.map (·.2)) (fun _ => 0) := by
  intro A E s i Q ⟨o, ho, hx, hda⟩ hi q
  unfold setNext
  refine wpAny_bind (wpAny_setState_of ho hda hf ?_)
  dsimp only
  refine wpAny_bind ?_
  unfold setsByText
  refine wpAny_bind (wpAny_askSetting (wpAny_pure ?_))
  show wpAny _ _ (if (w.params.followText "set-order") = true then _ else _) _ _ _
  rw [if_pos hb, if_neg (by simp)]
  refine wpAny_bind ?_
  unfold setWalk
  refine wpAny_bind (wpAny_setState_of ho hda hf ?_)
  dsimp only
  refine wpAny_bind ?_
  unfold setsByText
  refine wpAny_bind (wpAny_askSetting (wpAny_pure ?_))
  show wpAny _ _ (if (w.params.followText "set-order") = true then _ else _) _ _ _
  rw [if_pos hb]
  refine wpAny_bind (wpAny_askSetting (wpAny_pure ?_))
  rw [List.getElem?_map, Array.getElem?_toList, Option.map_map] at q
  exact wpAny_pure q
end
end L2

/-! ## a set walked through in a drawn order; its iterator made -/
namespace L2
open PySem PySem.Spec PyProof.Rows
section
variable {prog : Program} {w : World} {A : Around} {E : Value → Shared → Prop} {s : Shared}
def IsPl (h : Heap) (b : Addr) (pl : List Nat) : Prop := ∃ o n, h.get? b = some o ∧ o.data = .seq (pl.map fun (i : Nat) => rawInt (i : Int)).toArray n
theorem IsPl.keep {h h' : Heap} {b : Addr} {pl : List Nat} (x : IsPl h b pl) (e : ∀ o, h.get? b = some o → h'.get? b = some o) : IsPl h' b pl := let ⟨o, n, p, q⟩ := x; ⟨o, n, e _ p, q⟩
theorem sd_item {I a b : Addr} {es : Array (Int × Value)} {ep : Nat} {t : SetTable} {pl : List Nat} {i j : Nat} {x : Int × Value} {Q : Option Value → Shared → Prop} (hS : SetIs s.heap a es ep t) (hf : t.fits es.size = true) (hi : IsSi s.heap I a (.ref b) i es.size ep) (hb : IsPl s.heap b pl) (hj : pl[i]? = some j) (hx : es[j]? = some x)
    (k : ∀ h', IsSi h' I a (.ref b) (i + 1) es.size ep → Heap.SameBut I s.heap h' → Q (some x.2) { s with heap := h' }) : wpAny (model prog w) A (pyNext (.ref I)) Q E s := by
  obtain ⟨o, ho, hc, hd⟩ := id hi
  obtain ⟨oa, hoa, hxa, hda⟩ := id hS
  obtain ⟨ob, nb, hob, hdb⟩ := hb
  unfold pyNext
  refine wpAny_bind (wpAny_attempt (wpAny_callSpecial?_slot (name := Str.ofString "__next__") hi.ty si_next (wpAny_call_entry si_next hi.ty si_enext ?_ (si_anext _))))
  unfold Builtin.«set_iterator.__next__»
  refine wpAny_bind (wpAny_of_eq (a := (Value.ref I, [])) rfl ?_)
  dsimp only
  refine wpAny_bind (wpAny_fieldsOf ho hd ?_)
  dsimp only [rawInt]
  refine wpAny_bind (wpAny_setEntries_of hoa hda hf ?_)
  rw [if_neg (by simp)]
  refine wpAny_bind (wpAny_seqItems hob hdb ?_)
  dsimp only
  have e : (pl.map fun (i : Nat) => rawInt (i : Int)).toArray[(i : Int).toNat]? = some (.int (j : Int) 0) := by rw [Int.toNat_natCast, List.getElem?_toArray, List.getElem?_map, hj]; rfl
  rw [e]
  dsimp only
  rw [Int.toNat_natCast, Int.toNat_natCast]
  refine wpAny_bind ?_
  unfold setNextDrawn
  refine wpAny_bind (wpAny_setState_of hoa hda hf ?_)
  dsimp only
  rw [if_neg (by simp), hx]
  refine wpAny_pure ?_
  refine wpAny_bind (wpAny_setField ho hd (by simp) ?_)
  refine wpAny_pure ⟨x.2, rfl, wpAny_pure (k _ ⟨_, Heap.get?_update_self _ ho (Obj.isFreed_of_fields (Obj.data_mapFields hd _)), ?_, ?_⟩ (Heap.SameBut.update ..))⟩
  · rw [Obj.cls_mapFields]; exact hc
  · rw [Obj.data_mapFields hd]
    simp
    rfl
theorem sd_end {I a b : Addr} {es : Array (Int × Value)} {ep : Nat} {t : SetTable} {pl : List Nat} {Q : Option Value → Shared → Prop} (hh : A.handled = none) (hS : SetIs s.heap a es ep t) (hf : t.fits es.size = true) (hi : IsSi s.heap I a (.ref b) pl.length es.size ep) (hb : IsPl s.heap b pl)
    (k : ∀ h', Heap.ExtBut I s.heap h' → Q none { s with heap := h' }) : wpAny (model prog w) A (pyNext (.ref I)) Q E s := by
  obtain ⟨o, ho, hc, hd⟩ := id hi
  obtain ⟨oa, hoa, hxa, hda⟩ := id hS
  obtain ⟨ob, nb, hob, hdb⟩ := hb
  unfold pyNext
  refine wpAny_bind (wpAny_attempt (wpAny_callSpecial?_slot (name := Str.ofString "__next__") hi.ty si_next (wpAny_call_entry si_next hi.ty si_enext ?_ (si_anext _))))
  unfold Builtin.«set_iterator.__next__»
  refine wpAny_bind (wpAny_of_eq (a := (Value.ref I, [])) rfl ?_)
  dsimp only
  refine wpAny_bind (wpAny_fieldsOf ho hd ?_)
  dsimp only [rawInt]
  refine wpAny_bind (wpAny_setEntries_of hoa hda hf ?_)
  rw [if_neg (by simp)]
  refine wpAny_bind (wpAny_seqItems hob hdb ?_)
  dsimp only
  have e : (pl.map fun (i : Nat) => rawInt (i : Int)).toArray[(pl.length : Int).toNat]? = none := by rw [Int.toNat_natCast, List.getElem?_toArray]; exact List.getElem?_eq_none (by simp)
  rw [e]
  dsimp only
  refine wpAny_bind (wpAny_setField ho hd (by simp) ?_)
  have ho2 := Heap.get?_update_self (Obj.mapFields (fun vs => vs.setIfInBounds 0 (rawInt 0))) ho (Obj.isFreed_of_fields (Obj.data_mapFields hd _))
  refine wpAny_bind (wpAny_setField ho2 (Obj.data_mapFields hd _) (by simp) ?_)
  show wpAny _ _ (newExc (.type "StopIteration") [] >>= _) _ _ _
  refine wpAny_bind ?_
  simp only [newExc, newTuple]
  refine wpAny_bind (wpAny_newObj_type ?_ (by size_fits))
  refine wpAny_bind (m := firstArgMember _ _) (wpAny_of_eq (a := Value.none) (by first | rfl | (simp only [firstArgMember]; rfl)) ?_)
  refine wpAny_newObj_type ?_ (by size_fits)
  simp only [raiseNew]
  refine wpAny_bind (wpAny_handled ?_)
  rw [show A.in1.handled = none from hh]
  refine wpAny_bind (wpAny_pure (wpAny_throw ?_))
  refine wpAny_bind (wpAny_isInstance (T := "StopIteration") (b := true) ⟨_, Heap.get?_push_size _ rfl, rfl⟩ isSubtype_stop ?_)
  exact wpAny_pure (k _ (((((Heap.SameBut.update ..).trans (Heap.SameBut.update ..)).extBut).push _).push _))
theorem sd_walks {I a b : Addr} {es : Array (Int × Value)} {ep : Nat} {t : SetTable} {pl : List Nat} (hh : A.handled = none) (hp : pl.Perm (List.range es.size)) (hf : t.fits es.size = true) (hne : a ≠ I) (hnb : b ≠ I) :
    Walks prog w A I [I, a, b] [I] pl.length (fun i v => (pl.filterMap fun j => (es[j]?).map (·.2))[i]? = some v) (fun i h => i ≤ pl.length ∧ IsSi h I a (.ref b) i es.size ep ∧ SetIs h a es ep t ∧ IsPl h b pl) where
  sub := fun c hc => List.mem_cons.mpr (.inl (List.mem_singleton.mp hc))
  frame := fun _ _ _ x hk => ⟨x.1, x.2.1.keep fun o e => hk I (by simp) o e, x.2.2.1.keep fun o e => hk a (by simp) o e, x.2.2.2.keep fun o e => hk b (by simp) o e⟩
  item := fun i s Q E hi ⟨_, x1, x2, x3⟩ hQ => by
    have hj : pl[i]? = some (pl[i]'hi) := List.getElem?_eq_getElem hi
    have hlt := List.mem_range.mp (hp.mem_iff.mp (List.mem_of_getElem? hj))
    have hx : es[pl[i]'hi]? = some (es[pl[i]'hi]'hlt) := Array.getElem?_eq_getElem hlt
    have fm : ∀ (l : List Nat), (∀ j ∈ l, j < es.size) → l.filterMap (fun j => (es[j]?).map (·.2)) = l.map fun j => (es.getD j (0, .none)).2 := fun l hl => by
      induction l with
      | nil => rfl
      | cons y l ih =>
        have hy := hl y List.mem_cons_self
        rw [List.filterMap_cons, List.map_cons, ih fun j h => hl j (List.mem_cons_of_mem _ h), Array.getElem?_eq_getElem hy, Array.getD_eq_getD_getElem?, Array.getElem?_eq_getElem hy]
        rfl
    have hv : (pl.filterMap fun j => (es[j]?).map (·.2))[i]? = some (es[pl[i]'hi]'hlt).2 := by
      rw [fm pl fun j hj => List.mem_range.mp (hp.mem_iff.mp hj), List.getElem?_map, hj, Option.map_some, Array.getD_eq_getD_getElem?, hx]
      rfl
    exact sd_item x2 hf x1 x3 hj hx fun h' y hs => hQ _ h' s.toks hv ⟨hi, y, x2.keep fun o e => (hs.2 a hne).trans e, x3.keep fun o e => (hs.2 b hnb).trans e⟩ fun c o hc eo => hs.extBut c o (fun e => hc (by simp [e])) eo
  done := fun s Q E ⟨_, x1, x2, x3⟩ hQ => sd_end hh x2 hf x1 x3 fun h' he => hQ h' s.toks fun c o hc eo => he c o (fun e => hc (by simp [e])) eo
  self := fun _ _ _ _ x hQ => si_self x.2.1 hQ
end
end L2

/-! ## sorted(set of ints) -/
namespace L2
open PySem PySem.Spec PyProof.Rows
section
variable {prog : Program} {w : World} {A B : Around} {E : Value → Shared → Prop} {s : Shared}
theorem SetIs.ty {a : Addr} {es : Array (Int × Value)} {ep : Nat} {t : SetTable} (x : SetIs s.heap a es ep t) : s.TypeIs (.ref a) "set" := let ⟨o, p, q, _⟩ := x; ⟨o, p, q.1⟩
theorem set_iter {a : Addr} {es : Array (Int × Value)} {ep : Nat} {t : SetTable} {Q : Value → Shared → Prop} (hh : A.handled = none) (hS : SetIs s.heap a es ep t) (hf : t.fits es.size = true) (hr : Ris t) (hl : t.led = !w.params.followText "set-order") (hz : es.size ≤ sizeLine)
    (k : ∀ (I : Addr) (h' : Heap) d (ord : List Value) (fp : List Addr) (St : Nat → Heap → Prop), ord.Perm (es.toList.map (·.2)) → Walks prog w A I fp [I] ord.length (fun i v => ord[i]? = some v) St → St 0 h' → (∀ b ∈ fp, b < h'.objs.size ∧ (b = a ∨ s.heap.objs.size ≤ b)) → I ∈ fp → s.heap.objs.size ≤ I → (∀ c o, s.heap.get? c = some o → h'.get? c = some o) → Q (.ref I) { s with heap := h', drawn := d }) :
    wpAny (model prog w) B (pyIter (.ref a)) Q E s := by
  obtain ⟨o, ho, hx, hd⟩ := id hS
  have lta : a < s.heap.objs.size := Heap.lt_size ho
  refine wpAny_pyIter_slot hS.ty st_iter (wpAny_call_entry st_iter hS.ty st_eiter ?_ (st_aiter _))
  unfold Builtin.«frozenset.__iter__»
  refine wpAny_bind (wpAny_of_eq (a := a) rfl ?_)
  refine wpAny_bind ?_
  unfold Builtin.Frozenset.sizeOf
  refine wpAny_bind (wpAny_setEntries_of ho hd hf (wpAny_pure ?_))
  refine wpAny_bind ?_
  unfold setDrawn
  refine wpAny_bind (wpAny_setState_of ho hd hf ?_)
  dsimp only
  refine wpAny_bind ?_
  unfold setsByText
  refine wpAny_bind (wpAny_askSetting (wpAny_pure (wpAny_pure ?_)))
  -- where the first thing is a number
  have num : ∀ (ord : List Value) (sl : Nat → Nat), sl 0 = 0 → NextOk prog w a es ep t ord sl → ord.Perm (es.toList.map (·.2)) → wpAny (model prog w) B.in1 (pure (rawInt 0) >>= fun first => setEpoch a >>= fun e => newFields "set_iterator" [first, rawInt 0, .ref a, rawInt (es.size : Int), rawInt (e : Int)] >>= fun it => ret it)
      (fun fin s' => ∃ v, fin = Fin.done (Flow.ret v) ∧ ∃ T' r, s'.TypeIs v T' ∧ typeLookup (Value.type T') (Str.ofString "__next__") = pure (some r) ∧ Q v s') E s := fun ord sl h0 hN hp => by
    refine wpAny_bind (wpAny_pure (wpAny_bind (wpAny_setEpoch_of ho hd hf (wpAny_bind ?_))))
    unfold newFields
    refine wpAny_newObj_type ?_ (by size_fits)
    have hI : IsSi (s.heap.push { cls := .type "set_iterator", data := .fields [rawInt 0, rawInt 0, .ref a, rawInt (es.size : Int), rawInt (ep : Int)].toArray }) s.heap.objs.size a (rawInt (sl 0 : Nat)) 0 es.size ep := ⟨_, Heap.get?_push_size _ rfl, rfl, by rw [h0]; rfl⟩
    refine wpAny_pure ⟨_, rfl, "set_iterator", _, IsSi.ty (s := { s with heap := _ }) hI, si_next.lookup, ?_⟩
    have ne : a ≠ s.heap.objs.size := Nat.ne_of_lt lta
    refine k _ _ s.drawn ord _ _ hp (si_walks hh hN hf ne) ⟨Nat.zero_le _, hI, hS.keep fun o e => Heap.get?_push_of_some _ e⟩ (fun b hb => ?_) (by simp) (Nat.le_refl _) fun c o e => Heap.get?_push_of_some _ e
    rw [Heap.size_push]
    rcases List.mem_cons.mp hb with e | e
    · rw [e]; exact ⟨Nat.lt_succ_self _, .inr (Nat.le_refl _)⟩
    · rw [List.mem_singleton.mp e]; exact ⟨Nat.lt_succ_of_lt lta, .inl rfl⟩
  by_cases hb : w.params.followText "set-order" = true
  · rw [if_neg (by show ¬ (!w.params.followText "set-order" && _) = true; rw [hb]; simp)]
    refine num _ (fun _ => 0) rfl (next_text hf hb) ?_
    have := pick_perm (f := w.params.setOrder a ep) es.size 0 es.toList #[] (by rw [Array.length_toList])
    exact this.map _
  · have hb' : w.params.followText "set-order" = false := by simpa using hb
    rw [hb'] at hl
    by_cases c : (!t.plain && decide (es.size > 1)) = true
    · rw [if_pos (by show (!w.params.followText "set-order" && (!t.plain && decide (es.size > 1))) = true; rw [hb', c]; rfl)]
      refine wpAny_bind (draw_any es.size (List.range es.size) s _ (by rw [List.length_range]) fun pl d hp => ?_)
      have hpl : pl.length = es.size := by rw [hp.length_eq, List.length_range]
      refine wpAny_bind (wpAny_newTuple ?_ (by rw [List.length_map, hpl]; exact hz))
      have hoS : ∀ (h : Heap) o, h.get? a = some o → (h.push { cls := .type "tuple", data := .seq (List.map (fun i => rawInt ((i : Nat) : Int)) pl).toArray }).get? a = some o := fun h o e => Heap.get?_push_of_some _ e
      refine wpAny_bind (wpAny_setEpoch_of (hoS s.heap o ho) hd hf (wpAny_bind ?_))
      unfold newFields
      refine wpAny_newObj_type ?_ (by size_fits)
      have ne : a ≠ s.heap.objs.size := Nat.ne_of_lt lta
      generalize hh1 : s.heap.push { cls := .type "tuple", data := .seq (List.map (fun i => rawInt ((i : Nat) : Int)) pl).toArray } = h1
      have s1 : h1.objs.size = s.heap.objs.size + 1 := by rw [← hh1]; exact Heap.size_push ..
      have old1 : ∀ c o, s.heap.get? c = some o → h1.get? c = some o := fun c o e => by rw [← hh1]; exact Heap.get?_push_of_some _ e
      have hP1 : IsPl h1 s.heap.objs.size pl := by rw [← hh1]; exact ⟨_, 0, Heap.get?_push_size _ rfl, rfl⟩
      have hI : IsSi (h1.push { cls := .type "set_iterator", data := .fields [Value.ref s.heap.objs.size, rawInt 0, .ref a, rawInt (es.size : Int), rawInt (ep : Int)].toArray }) h1.objs.size a (.ref s.heap.objs.size) 0 es.size ep := ⟨_, Heap.get?_push_size _ rfl, rfl, rfl⟩
      refine wpAny_pure ⟨_, rfl, "set_iterator", _, IsSi.ty (s := { s with heap := _, drawn := d }) hI, si_next.lookup, ?_⟩
      have hord : (pl.filterMap fun j => (es[j]?).map (·.2)).Perm (es.toList.map (·.2)) := by
        refine (hp.filterMap _).trans ?_
        rw [← filterMap_getElem?_range es, List.map_filterMap]
      have hol : (pl.filterMap fun j => (es[j]?).map (·.2)).length = pl.length := by rw [hord.length_eq, List.length_map, Array.length_toList, hpl]
      have W := sd_walks (prog := prog) (w := w) (A := A) (I := h1.objs.size) (a := a) (b := s.heap.objs.size) (es := es) (ep := ep) (t := t) hh hp hf (by rw [s1]; exact Nat.ne_of_lt (Nat.lt_succ_of_lt lta)) (by rw [s1]; exact Nat.ne_of_lt (Nat.lt_succ_self _))
      rw [← hol] at W
      refine k _ _ d _ _ _ hord W ⟨Nat.zero_le _, hI, hS.keep fun o e => Heap.get?_push_of_some _ (old1 _ o e), hP1.keep fun o e => Heap.get?_push_of_some _ e⟩ (fun b hb => ?_) (by simp) (by rw [s1]; exact Nat.le_succ _) fun c o e => Heap.get?_push_of_some _ (old1 c o e)
      rw [Heap.size_push, s1]
      rcases List.mem_cons.mp hb with e | e
      · rw [e, s1]; exact ⟨Nat.lt_succ_self _, .inr (Nat.le_succ _)⟩
      · rcases List.mem_cons.mp e with e | e
        · rw [e]; exact ⟨Nat.lt_succ_of_lt (Nat.lt_succ_of_lt lta), .inl rfl⟩
        · rw [List.mem_singleton.mp e]; exact ⟨Nat.lt_succ_of_lt (Nat.lt_succ_self _), .inr (Nat.le_refl _)⟩
    · have c' : (!t.plain && decide (es.size > 1)) = false := by simpa using c
      rw [if_neg (by show ¬ (!w.params.followText "set-order" && (!t.plain && decide (es.size > 1))) = true; rw [c']; simp)]
      exact num _ _ rfl (next_led hf hr hb' hl c') .rfl
end
end L2

/-! ## a set's items as a list; sorted(set of ints) -/
namespace L2
open PySem PySem.Spec PyProof.Rows
theorem st_len : typeLookup (.type "set") "__len__" = pure (some (.builtin "set.__len__")) := by rw [typeLookup_type, builtinLookup_eq_fast]; kernel_rfl
section
variable {prog : Program} {w : World} {A : Around} {E : Value → Shared → Prop} {s : Shared}
theorem st_hint {r : Addr} {Q : Bool → Shared → Prop} (hT : s.TypeIs (.ref r) "set") (h : Q false s) : wpAny (model prog w) A (Builtin.List.listLengthHint (.ref r)) Q E s := by
  unfold Builtin.List.listLengthHint
  refine wpAny_bind (wpAny_specialOf hT st_len ?_)
  generalize hid : ("set.__len__" : String) = id0
  wp_delta
  rw [show splitId id0 = some ("set", "__len__") from by subst hid; decide +kernel]
  subst hid
  refine wpAny_bind (wpAny_isInstance (T := "set") (b := true) hT sub_set_self ?_)
  show wpAny _ A (typeOf (Value.ref r) >>= _) _ _ _
  exact wpAny_bind (wpAny_typeOf (T := "set") hT (wpAny_pure h))
theorem collect_set {a : Addr} {es : Array (Int × Value)} {ep : Nat} {t : SetTable} {Q : List Value → Shared → Prop} (hh : A.handled = none) (hS : SetIs s.heap a es ep t) (hf : t.fits es.size = true) (hr : Ris t) (hl : t.led = !w.params.followText "set-order") (hz : es.size ≤ sizeLine)
    (k : ∀ (out : List Value) h' tk d, out.Perm (es.toList.map (·.2)) → s.heap.objs.size ≤ h'.objs.size → (∀ c o, s.heap.get? c = some o → h'.get? c = some o) → Q out { s with heap := h', toks := tk, drawn := d }) : wpAny (model prog w) A (collect (.ref a)) Q E s := by
  have hL1 : (s.heap.push (seqObj "list" #[] 0)).get? s.heap.objs.size = some (seqObj "list" #[] 0) := Heap.get?_push_size _ rfl
  have hS1 : SetIs (s.heap.push (seqObj "list" #[] 0)) a es ep t := hS.keep fun o e => Heap.get?_push_of_some _ e
  have lta : a < s.heap.objs.size := let ⟨_, e, _⟩ := hS; Heap.lt_size e
  unfold collect
  refine wpAny_bind (wpAny_runValue (codeAny_builtin entry_proto_collect' ?_))
  show wpAny _ _ (newList [] >>= fun v => again (.builtin "list.__iadd__" ⟨[v, .ref a], []⟩)) _ _ s
  refine wpAny_bind (wpAny_newList (wpAny_pure ⟨Code.quiet_builtin _ (by decide +kernel), codeAny_builtin entry_list_iadd' ?_⟩))
  show wpAny _ _ (Builtin.List.listExtendWith (.ref s.heap.objs.size) (.ref a) (.ref s.heap.objs.size)) _ _ { s with heap := s.heap.push (seqObj "list" #[] 0) }
  unfold Builtin.List.listExtendWith
  refine wpAny_bind (wpAny_typeOf (T := "set") (SetIs.ty (s := { s with heap := s.heap.push (seqObj "list" #[] 0) }) hS1) ?_)
  have e1 : Builtin.List.listSameRef (.ref s.heap.objs.size) (.ref a) = false := by
    show (s.heap.objs.size == a) = false
    exact beq_false_of_ne (Nat.ne_of_gt lta)
  rw [if_neg (by rw [e1]; decide)]
  refine wpAny_bind (set_iter (A := A.in1) (by simp [hh]) hS1 hf hr hl hz fun I h' d ord fp St hord W st0 hfp hI hge kp => ?_)
  have hT' : Shared.TypeIs { s with heap := h', drawn := d } (.ref a) "set" := SetIs.ty (s := { s with heap := h', drawn := d }) (hS1.keep fun o e => kp a o e)
  refine wpAny_bind (wpAny_holding (st_hint hT' ?_))
  rw [if_pos (by decide +kernel)]
  have hL2 := kp _ _ hL1
  refine wpAny_bind (wpAny_rule (wpAny_bind ?_))
  unfold Builtin.List.listTouch
  refine wpAny_bind (listUpdate_at (xs := #[]) (n := 0) hL2 rfl ?_ (Nat.zero_le _) (by show 1 ≤ sizeLine + 1; omega))
  have hL3 := Heap.get?_update_self (Obj.mapSeq (·.push Value.none)) hL2 rfl
  refine listUpdate_at (xs := #[].push Value.none) (n := 1) hL3 rfl ?_ (by show 1 ≤ sizeLine; decide) (by show 0 ≤ sizeLine + 1; omega)
  have hL4 := Heap.get?_update_self (Obj.mapSeq Array.pop) hL3 rfl
  have old : ∀ c o, c ≠ s.heap.objs.size → h'.get? c = some o → ((h'.update s.heap.objs.size (Obj.mapSeq (·.push Value.none))).update s.heap.objs.size (Obj.mapSeq Array.pop)).get? c = some o := fun c o hc e => by
    rw [Heap.get?_update_other _ _ (Ne.symm hc), Heap.get?_update_other _ _ (Ne.symm hc)]
    exact e
  generalize (h'.update s.heap.objs.size (Obj.mapSeq (·.push Value.none))).update s.heap.objs.size (Obj.mapSeq Array.pop) = h4 at *
  have hSf : s.heap.objs.size ∉ fp := fun q => by
    rcases (hfp _ q).2 with e | e
    · exact Nat.ne_of_gt lta e
    · rw [show ({ s with heap := s.heap.push (seqObj "list" #[] 0) } : Shared).heap.objs.size = s.heap.objs.size + 1 from Heap.size_push ..] at e
      exact Nat.not_succ_le_self _ e
  have lenO : ord.length = es.size := by rw [hord.length_eq, List.length_map, Array.length_toList]
  refine wpAny_pure ⟨plainId_quiet PySem.F.plain_extend_loop _, codeAny_extend_loopS W.toS (by rw [lenO]; exact hz) s.heap.objs.size hSf _ ord.length 0 _ #[] _ rfl (Nat.zero_le _) (W.frame 0 _ _ st0 fun b hb o e => old b o (fun q => hSf (q ▸ hb)) e) hL4 (ItemsOf.nil _) fun s2 acc c m hL5 hacc => ?_⟩
  have eo : acc.toList = ord := by
    refine List.ext_getElem? fun i => ?_
    rw [Array.getElem?_toList]
    by_cases hi : i < ord.length
    · have q : acc[i]? = some (acc[i]'(by rw [hacc.1]; exact hi)) := Array.getElem?_eq_getElem _
      rw [q, hacc.2 i _ q]
    · rw [List.getElem?_eq_none (by omega), Array.getElem?_eq_none (by rw [hacc.1]; omega)]
  show wpAny _ A (load s.heap.objs.size >>= _) Q E s2
  refine wpAny_bind (wpAny_load hL5 ?_)
  refine wpAny_pure ?_
  rw [eo, Moved.eq_with m]
  refine k ord s2.heap s2.toks d hord (Nat.le_of_lt (Heap.lt_size hL5)) fun c o e => ?_
  have lt := Heap.lt_size e
  refine m.heap c o (fun q => ?_) (old c o (Nat.ne_of_lt lt) (kp c o (Heap.get?_push_of_some _ e)))
  rcases List.mem_cons.mp q with e' | e'
  · exact Nat.ne_of_lt lt e'
  · rw [List.mem_singleton.mp e'] at lt
    have := Nat.lt_of_lt_of_le lt (Nat.le_trans (Nat.le_succ _) (Heap.size_push .. ▸ hge))
    exact Nat.lt_irrefl _ this
end
end L2

/-! ## sorted(set(list of ints)) -/
namespace L2
open PySem PySem.Spec PyProof.Rows
theorem perm_of_len {m : List Int} : ∀ {l : List Int}, m.Nodup → l.length = m.length → (∀ x ∈ m, x ∈ l) → l.Perm m := by
  induction m with
  | nil => intro l _ h _; rw [List.length_eq_zero_iff.mp h]
  | cons x m ih =>
    intro l hn hl hs
    have hx := hs x List.mem_cons_self
    have hn' := List.nodup_cons.mp hn
    refine (List.perm_cons_erase hx).trans ((ih hn'.2 (by rw [List.length_erase_of_mem hx, hl]; rfl) fun y hy => ?_).cons x)
    have ne : y ≠ x := fun e => hn'.1 (by rw [← e]; exact hy)
    exact (List.mem_erase_of_ne ne).mpr (hs y (List.mem_cons_of_mem _ hy))
theorem ints_perm {us vs : List Value} (p : us.Perm vs) : ∀ {ns : List Int}, IntsAre vs ns → ∃ ms, IntsAre us ms ∧ ms.Perm ns := by
  induction p with
  | nil => intro ns h; exact ⟨ns, h, .rfl⟩
  | cons x _ ih =>
    intro ns h
    cases h with
    | cons n t h =>
      obtain ⟨ms, h1, h2⟩ := ih h
      exact ⟨n :: ms, .cons n t h1, h2.cons n⟩
  | swap x y l =>
    intro ns h
    cases h with
    | cons n t h =>
      cases h with
      | cons m u h => exact ⟨m :: n :: _, .cons m u (.cons n t h), .swap n m _⟩
  | trans _ _ ih1 ih2 =>
    intro ns h
    obtain ⟨ms, h1, h2⟩ := ih2 h
    obtain ⟨ls, h3, h4⟩ := ih1 h1
    exact ⟨ls, h3, h4.trans h2⟩
theorem ints_len {vs : List Value} {ns : List Int} (h : IntsAre vs ns) : vs.length = ns.length := by
  induction h with
  | nil => rfl
  | cons n t _ ih => rw [List.length_cons, List.length_cons, ih]
theorem seen_nodup (val : Nat → Int) : ∀ i, (firstMet val i).Nodup
  | 0 => .nil
  | i + 1 => by
    rw [firstMet_succ]
    unfold step_dedup
    split
    · exact seen_nodup val i
    · rename_i h
      refine List.nodup_append.mpr ⟨seen_nodup val i, by simp, fun a ha b hb e => ?_⟩
      rw [List.mem_singleton.mp hb] at e
      exact h (List.any_eq_true.mpr ⟨a, ha, by rw [e]; simp⟩)
section
variable {prog : Program} {w : World} {A : Around} {E : Value → Shared → Prop} {s : Shared}
/-- the ints that a set's entries hold -/
theorem ints_entries : ∀ {l : List (Int × Value)}, ElemsOf (intKind prog w) l → ∃ ms, IntsAre (l.map (·.2)) ms ∧ ∀ z, z ∈ ms ↔ ∃ y ∈ l, (intKind prog w).is z y.2 = true
  | [], _ => ⟨[], .nil, fun z => ⟨fun h => (by cases h), fun ⟨y, h, _⟩ => (by cases h)⟩⟩
  | y :: l, h => by
    obtain ⟨ms, h1, h2⟩ := ints_entries h.tail
    obtain ⟨⟨z, hz, _⟩, _⟩ := h.head
    obtain ⟨hy, v⟩ := y
    obtain ⟨u, rfl⟩ := Value.isInt_shape (show Value.isInt z v = true from hz)
    refine ⟨z :: ms, .cons z u h1, fun x => ?_⟩
    rw [List.mem_cons, h2]
    constructor
    · rintro (e | ⟨y, hy, q⟩)
      · exact ⟨_, List.mem_cons_self, e ▸ hz⟩
      · exact ⟨y, List.mem_cons_of_mem _ hy, q⟩
    · rintro ⟨y, hy, q⟩
      rcases List.mem_cons.mp hy with e | e
      · rw [e] at q
        exact .inl ((intKind prog w).inj _ _ _ q hz)
      · exact .inr ⟨y, e, q⟩
theorem sorted_set {a : Addr} {led : Bool} {S : Int → Bool} {n : Nat} {Q : Value → Shared → Prop} (hh : A.handled = none) (hS : SetR prog w s.heap a (!w.params.followText "set-order") S n) (h64 : n < 64)
    (k : ∀ (ms : List Int) (out : List Value) r h' tk d c, IntsAre out ms → ms.Pairwise (· ≤ ·) → ms.length = n → (∀ z, z ∈ ms ↔ S z = true) → s.heap.objs.size ≤ r → h'.get? r = some (seqObj "list" out.toArray c) → (∀ c o, s.heap.get? c = some o → h'.get? c = some o) → Q (.ref r) { s with heap := h', toks := tk, drawn := d }) :
    wpAny (model prog w) A (call (.builtin "sorted") [.ref a]) Q E s := by
  obtain ⟨o, es, ep, t, ho, hx, hd, he, hm, hb, hf, hn, hr, hl⟩ := hS
  obtain ⟨ns, hI, hmem⟩ := ints_entries he
  have hsl : sizeLine = 16777216 := sizeLine_eq
  refine Calls.call_function_entry kind_sorted plain_sorted entry_sorted (args_sorted1 _) ?_
  unfold Builtin.«sorted»
  refine wpAny_bind (m := checkCount "sorted" 1 1 _) (wpAny_pure ?_)
  refine wpAny_bind (collect_set (A := A.in1) (by simp [hh]) ⟨o, ho, hx, hd⟩ hf hr hl (by omega) fun out h1 tk d hp hge kp => ?_)
  obtain ⟨ls, hI2, hp2⟩ := ints_perm hp hI
  have lo := ints_len hI2
  have ll : ls.length = n := by rw [← lo, hp.length_eq, List.length_map, Array.length_toList, hn]
  refine wpAny_bind (wpAny_newList ?_)
  have hL : (h1.push (seqObj "list" out.toArray 0)).get? h1.objs.size = some (seqObj "list" out.toArray 0) := Heap.get?_push_size _ rfl
  refine wpAny_bind (wpAny_holding (wpAny_call_entry slot_list_sort ⟨_, hL, rfl⟩ entry_list_sort (list_sort_tree hL hI2 (by omega) fun res ms b1 b2 b3 => ⟨_, rfl, ?_⟩) (args_list_sort _)))
  obtain ⟨c, hc⟩ := sortedHeap_at (out := res) hL
  refine wpAny_pure ⟨_, rfl, k ms res.toList h1.objs.size _ tk d c b1 b3 (by rw [b2.length_eq, ll]) (fun z => by rw [b2.mem_iff, hp2.mem_iff, hmem, hm]) hge (by rw [Array.toArray_toList]; exact hc) fun b ob e => ?_⟩
  have lt := Heap.lt_size (kp b ob e)
  rw [sortedHeap_old (Nat.ne_of_lt lt) (by rw [size_push']; exact Nat.lt_succ_of_lt lt)]
  exact Heap.get?_push_of_some _ (kp b ob e)
end
section
variable {X : Cx} {p p2 pos pos2 : Pos} {e : Expr} {t : TA}
/-- what is drawn does not matter -/
theorem Inv.drew {X : Cx} {pins : List (Addr × Obj)} {σ : St} {H : Hp} {s : Shared} (I : Inv X pins σ H s) (d : Drawn) : Inv X pins σ H { s with drawn := d } :=
  I.step (g' := s.gens) (d' := d) (t' := s.toks) (h' := s.heap) (ch := []) (fun b hb => (by cases hb)) (fun b o _ _ _ q _ => q) (fun b o _ _ _ q _ => ⟨o.slots, q⟩) (fun b o _ _ n => n) (fun b o _ q => ⟨o, q⟩) (fun b xs q => q) (fun b o u q => q) (fun b ps q => ⟨#[], by rw [q]; simp⟩) (fun m hm => hm) I.hok I.bare
end
end L2

/-! ## pieces drawn together: trees with some ties and without others -/
namespace My
open PySem L2
section
variable {n : Int} {ps : List (Int × Int)} {I O S : List Int} {f g : Nat → Nat} {k : Nat}
end
end My

/-! ## marks numbered in their order -/
namespace My
open PySem L2
section
variable {N : Nat} {es : List (Nat × Nat)} {F : List Int}
end
end My

/-! ## counts with and without, when a tie is left out or drawn together -/
namespace My
open PySem L2
end My

/-! ## counts that meet: by one tie, over all ties, turned about -/
namespace My
open PySem L2
end My

/-! ## a list out of another one, from its end -/
namespace My
open PySem L2
section
variable {K : PySem.W.Frag} {a : Addr} {xs : List V} {g : TG} {tt : TT} {te : TE} {o : Nat} {fr : List Nat} {σ : St} {H : Hp} {Q : VK}
end
end My

/-! ## the number of a tree: how many are less -/
namespace My
open PySem L2
end My

/-! ## a tree found by its number, tie by tie -/
namespace My
open PySem L2
section
variable {n : Int} {ps : List (Int × Int)} {I O : List Int} {i b c : Nat}
end
end My

/-! ## the number of a tree in the row of all -/
namespace My
open PySem L2
end My

/-! ## abs(int) -/
namespace L2
open PySem PySem.Spec PyProof.Rows
section
variable {X : Cx}
end
end L2

/-! ## a piece of a list -/
namespace My
open PySem L2
end My

/-! ## steps of a block told once; try: .. except W: without a name -/
namespace My
open PySem L2
theorem contS {s rest : TS} {D : Ends} {σ : L2.St} {H : Hp} (P : L2.St → Hp → Prop) (h1 : ∀ σ' H', P σ' H' → rest D σ' H') (h2 : ∀ K : L2.St → Hp → Prop, (∀ σ' H', P σ' H' → K σ' H') → s { D with nx := K } σ H) : tSeq s rest D σ H := h2 _ h1
theorem asgC {c : V} {i : Nat} {rest : TS} {D : Ends} {σ : L2.St} {H : Hp} (h : rest D (σ.set i (some c)) H) : tSeq (tAsg (tC c) (gName i)) rest D σ H := h
end My
namespace L2
open PySem PySem.Spec PyProof.Rows
end L2

/-! ## tuple < tuple, of ints -/
namespace L2
open PySem PySem.Spec PyProof.Rows
section
variable {X : Cx}
end
end L2

/-! ## how many trees there can be; ranks and order; trees tie by tie -/
namespace My
open PySem L2
/-- all trees in their order -/
theorem row_all {n : Int} {ps : List (Int × Int)} (g : GoodW n ps) : ∃ L : List (List Int), (∀ l, l ∈ L ↔ IsTree n ps l) ∧ L.Pairwise lexS := ⟨frs n.toNat ps (n - 1).toNat, fun _ => frs_tree g, (cmb_asc _ _).filter _⟩
end My

/-! ## tuple <= tuple, of ints; a <= b <= c <= d <= e -/
namespace HT
open PySem PyProof.Rows
section
open PySem.SeqAt
open PySem.AutoSeq1 (wpAny_loadPart')
open PySem.MeetsSeq PySem.MeetsSeq2 PySem.MeetsSeq3
end
section
variable {prog : Program} {w : World} {A : Around} {E : Value → Shared → Prop} {s : Shared}
end
end HT
namespace L2
open PySem PySem.Spec PyProof.Rows
section
variable {X : Cx}
end
end L2

/-! ## webs made so that they hang together -/
namespace My
open PySem L2
end My

/-! ## a list whose own name is seen by a list within it -/
namespace L2
open PySem PySem.Spec PyProof.Rows
section
variable {M : Model} {A : Around} {E : Value → Shared → Prop} {s : Shared}
end
/-- as CompScope, with one own name xo that is seen by a list within -/
structure CompScopeD (sc0 : Scope) (N N' : List Str) (o : Nat) (fr : List Nat) (scope : Scope) (xo : Str) : Prop where
  kind : scope.kind = .function
  one : (scope.names.filter fun y => y.2 == .cell) = [(xo, .cell)]
  loc : (scope.names.all fun y => y.2 != .local || scope.names.lookup y.1 == some .local) = true
  free : (scope.names.all fun y => y.2 != .free || (y.1 != xo && (sc0.names.lookup y.1 == some .cell || sc0.names.lookup y.1 == some .free))) = true
  len : N'.length = o + fr.length
  sees : ((List.range fr.length).all fun j => match fr[j]? with
    | none => false
    | some y => match N[y]? with
      | none => false
      | some x => N'[o + j]? == some x && scope.names.lookup x == some .free) = true
section
variable {X : Cx} {pins : List (Addr × Obj)} {σ : St} {H : Hp} {s : Shared} {N' : List Str} {o : Nat} {fr : List Nat} {scope : Scope} {fp : List Addr} {xo : Str}
end

section
variable {xo : Str} {X : Cx} {N' : List Str} {o : Nat} {fr : List Nat} {scope : Scope} {elt tg iter : Expr} {ifs : List Expr} {pos : Pos} {wi : TI} {g : TG} {tt : TT} {te : TE}
end
end L2

/-! ## sums over trees: weights -/
namespace My
open PySem L2
end My

/-! ## for x, y in zip(list, tuple) -/
namespace L2
open PySem PySem.Spec PyProof.Rows
section
variable {prog : Program} {w : World} {A : Around} {E : Value → Shared → Prop} {s : Shared}
/-- a tuple's next one, asked by zip -/
theorem nxT_item {j t : Addr} {i : Nat} {us : Array Value} {u : Value} {Q : Value → Shared → Prop} (hj : s.heap.IsTupleIter j t i) (ht : s.heap.IsTuple t us) (hu : us[i]? = some u)
    (q : ∀ h', h'.IsTupleIter j t (i + 1) → Heap.SameBut j s.heap h' → Q u { s with heap := h' }) : wpAny (model prog w) A (Builtin.SmallTypes.nextOf (.ref j)) Q E s := by
  obtain ⟨o1, e1, c1, d1⟩ := id hj
  obtain ⟨o2, e2, _, n2, d2⟩ := ht
  unfold Builtin.SmallTypes.nextOf
  refine wpAny_bind (wpAny_callSpecial?_slot (name := Str.ofString "__next__") hj.typeIs F.slot_tuple_iterator_next (wpAny_call_entry F.slot_tuple_iterator_next hj.typeIs F.entry_tuple_iterator_next ?_ (F.args_tuple_iterator_next_1 _)))
  show wpAny _ _ (field (.ref j) 0 >>= _) _ _ s
  refine wpAny_bind (wpAny_field e1 d1 (x := .ref t) rfl ?_)
  rw [if_neg (show ¬ (Value.ref t == Value.none) = true from Bool.false_ne_true)]
  show wpAny _ _ (field (.ref j) 1 >>= _) _ _ s
  refine wpAny_bind (wpAny_field e1 d1 (x := .int i 0) rfl ?_)
  show wpAny _ _ (seqItems? (.ref t) >>= _) _ _ s
  refine wpAny_bind (wpAny_seqItems e2 d2 ?_)
  simp only [hu, Int.toNat_natCast]
  refine wpAny_bind (wpAny_setField e1 d1 (by simp) (wpAny_pure ⟨u, rfl, wpAny_pure (q _ ?_ (Heap.SameBut.update ..))⟩))
  refine ⟨_, Heap.get?_update_self _ e1 (Obj.isFreed_of_fields (Obj.data_mapFields d1 _)), (Obj.cls_mapFields ..).trans c1, ?_⟩
  rw [Obj.data_mapFields d1]
  simp [rawInt]
theorem nxT_end {j t : Addr} {i : Nat} {us : Array Value} {Q : Value → Shared → Prop} (hh : A.handled = none) (hj : s.heap.IsTupleIter j t i) (ht : s.heap.IsTuple t us) (hu : us[i]? = none)
    (q : ∀ h' e, Heap.ExtBut j s.heap h' → (∃ o, h'.get? e = some o ∧ o.cls = .type "StopIteration") → E (.ref e) { s with heap := h' }) : wpAny (model prog w) A (Builtin.SmallTypes.nextOf (.ref j)) Q E s := by
  obtain ⟨o1, e1, c1, d1⟩ := id hj
  obtain ⟨o2, e2, _, n2, d2⟩ := ht
  unfold Builtin.SmallTypes.nextOf
  refine wpAny_bind (wpAny_callSpecial?_slot (name := Str.ofString "__next__") hj.typeIs F.slot_tuple_iterator_next (wpAny_call_entry F.slot_tuple_iterator_next hj.typeIs F.entry_tuple_iterator_next ?_ (F.args_tuple_iterator_next_1 _)))
  show wpAny _ _ (field (.ref j) 0 >>= _) _ _ s
  refine wpAny_bind (wpAny_field e1 d1 (x := .ref t) rfl ?_)
  rw [if_neg (show ¬ (Value.ref t == Value.none) = true from Bool.false_ne_true)]
  show wpAny _ _ (field (.ref j) 1 >>= _) _ _ s
  refine wpAny_bind (wpAny_field e1 d1 (x := .int i 0) rfl ?_)
  show wpAny _ _ (seqItems? (.ref t) >>= _) _ _ s
  refine wpAny_bind (wpAny_seqItems e2 d2 ?_)
  simp only [hu, Int.toNat_natCast]
  refine wpAny_bind (wpAny_rule (wpAny_bind (wpAny_setField e1 d1 (by simp) (wpAny_bind (m := newExc (.type "StopIteration") []) ?_))))
  simp only [newTuple, newExc]
  refine wpAny_bind (wpAny_newObj_type (wpAny_bind (m := firstArgMember _ _) (wpAny_of_eq (a := Value.none) (by first | rfl | (simp only [firstArgMember]; rfl)) (wpAny_newObj_type ?_ (by size_fits)))) (by size_fits))
  unfold raiseNew
  refine wpAny_bind (wpAny_handled ?_)
  first
    | rw [hh]
    | rw [show A.in1.handled = none from hh]
  refine wpAny_bind (wpAny_pure (wpAny_throw (q _ _ (((Heap.SameBut.update ..).extBut.push _).push _) ⟨_, Heap.get?_push_size _ rfl, rfl⟩)))
end
end L2

/-! ## for x, y in zip(list, list or tuple) -/
namespace L2
open PySem PySem.Spec PyProof.Rows
section
variable {prog : Program} {w : World} {A : Around} {E : Value → Shared → Prop} {s : Shared}
end
section
variable {X : Cx}
end
end L2
namespace My
open PySem L2
end My

/-! ## trees sorted by the ties of a set: numbers as figures of a sum -/
namespace My
open PySem L2
/-- the number with these figures, the first one the least -/
def ev (b : Int) : List Int → Int
  | [] => 0
  | d :: l => d + b * ev b l
theorem sum_snocI (l : List Int) (x : Int) : (l ++ [x]).sum = l.sum + x := by
  induction l with
  | nil => show x + 0 = 0 + x; omega
  | cons y l ih => show y + (l ++ [x]).sum = y + l.sum + x; omega
end My

/-! ## one more place, tied to each with the same weight -/
namespace My
open PySem L2
end My

/-! ## the trees of the web with one more place, sorted by the ties at that place -/
namespace My
open PySem L2
end My

/-! ## list.count -/
namespace L2
open PySem PySem.Spec PyProof.Rows
section
variable {X : Cx}
end
end L2

/-! ## forests with a chosen place of each piece -/
namespace My
open PySem L2
end My

/-! ## the trees of the web with one more place, by their ties of the web -/
namespace My
open PySem L2
end My

/-! ## the web whose trees are the cheapest ones -/
namespace My
open PySem L2
/-! ### marks: each the least place of its piece -/
theorem pms_own {n : Nat} : ∀ es : List (Nat × Nat), InN n es → ∀ i, i < n → 0 ≤ mk (pms n es) i ∧ mk (pms n es) i ≤ (i : Int) ∧ mk (pms n es) (mk (pms n es) i).toNat = mk (pms n es) i := by
  refine snoc_ind (fun _ i hi => ?_) fun es e ih h => ?_
  · have e : mk (pms n []) i = (i : Int) := mk_range hi
    rw [e, Int.toNat_natCast]
    exact ⟨by omega, Int.le_refl _, e⟩
  · obtain ⟨h1, h2, h3⟩ := h.snoc
    have ih := ih h1
    intro i hi
    rw [pms_snoc]
    have hl := pms_length n es
    generalize pms n es = M at *
    obtain ⟨i1, i2, i3⟩ := ih i hi
    obtain ⟨a1, a2, a3⟩ := ih e.1 h2
    obtain ⟨b1, b2, b3⟩ := ih e.2 h3
    unfold pm
    by_cases c : min (mk M e.1) (mk M e.2) < max (mk M e.1) (mk M e.2)
    · rw [if_pos c]
      obtain ⟨lo, hlo⟩ : ∃ lo, lo = min (mk M e.1) (mk M e.2) := ⟨_, rfl⟩
      obtain ⟨hi', hhi⟩ : ∃ hi', hi' = max (mk M e.1) (mk M e.2) := ⟨_, rfl⟩
      rw [← hlo, ← hhi] at c ⊢
      have lown : mk M lo.toNat = lo := by
        rcases Int.le_total (mk M e.1) (mk M e.2) with q | q
        · rw [hlo, Int.min_eq_left q]; exact a3
        · rw [hlo, Int.min_eq_right q]; exact b3
      have lb : 0 ≤ lo ∧ lo < (n : Int) := by
        rcases Int.le_total (mk M e.1) (mk M e.2) with q | q
        · rw [hlo, Int.min_eq_left q]; omega
        · rw [hlo, Int.min_eq_right q]; omega
      rw [mk_map _ _ (by omega)]
      by_cases d : mk M i = hi'
      · rw [if_pos d, mk_map _ _ (by omega), lown, if_neg (by omega)]
        omega
      · rw [if_neg d, mk_map _ _ (by omega), i3, if_neg d]
        exact ⟨i1, i2, rfl⟩
    · rw [if_neg c]
      exact ⟨i1, i2, i3⟩
section
variable {n : Nat} {es : List (Nat × Nat)} (h : InN n es)
include h
theorem pms_conn {i : Nat} (hi : i < n) : Conn es i (mk (pms n es) i).toNat := by
  obtain ⟨a, b, c⟩ := pms_own es h i hi
  exact (pms_iff h hi (by omega)).mp c.symm
theorem pms_least {i j : Nat} (hi : i < n) (hj : j < n) (c : Conn es i j) : mk (pms n es) i ≤ (j : Int) := by
  rw [(pms_iff h hi hj).mpr c]
  exact (pms_own es h j hj).2.1
end
theorem conn_keep {es : List (Nat × Nat)} {φ : Nat → Prop} (h : ∀ e ∈ es, (φ e.1 ↔ φ e.2)) {i j : Nat} (c : Conn es i j) : φ i ↔ φ j := by
  induction c with
  | refl i => exact Iff.rfl
  | edge q => exact h _ q
  | symm _ ih => exact ih.symm
  | trans _ _ i1 i2 => exact i1.trans i2
theorem conn_map {es fs : List (Nat × Nat)} (f : Nat → Nat) (h : ∀ e ∈ es, Conn fs (f e.1) (f e.2)) {i j : Nat} (c : Conn es i j) : Conn fs (f i) (f j) := by
  induction c with
  | refl i => exact .refl _
  | edge e => exact h _ e
  | symm _ ih => exact ih.symm
  | trans _ _ ih1 ih2 => exact ih1.trans ih2
theorem max_ex (f : Int → Int) : ∀ {l : List Int}, l ≠ [] → ∃ m ∈ l, ∀ z ∈ l, f z ≤ f m
  | [x], _ => ⟨x, by simp, fun z hz => by rw [List.mem_singleton.mp hz]; exact Int.le_refl _⟩
  | x :: y :: l, _ => by
    obtain ⟨m, hm, q⟩ := max_ex f (l := y :: l) (by simp)
    by_cases c : f m ≤ f x
    · exact ⟨x, by simp, fun z hz => by
        rcases List.mem_cons.mp hz with r | r
        · rw [r]; exact Int.le_refl _
        · exact Int.le_trans (q z r) c⟩
    · exact ⟨m, List.mem_cons_of_mem _ hm, fun z hz => by
        rcases List.mem_cons.mp hz with r | r
        · rw [r]; omega
        · exact q z r⟩
/-! ### the ties of the web by their lengths -/
abbrev lnz (ls : List Int) (z : Int) : Int := ls.getD z.toNat 0
def lwS (ls : List Int) (x : Int) : List Int := (rgL ls.length).filter fun z => decide (lnz ls z < x)
def leS (ls : List Int) (x : Int) : List Int := (rgL ls.length).filter fun z => decide (lnz ls z ≤ x)
theorem lwS_mem {ls : List Int} {x z : Int} : z ∈ lwS ls x ↔ (0 ≤ z ∧ z < (ls.length : Int)) ∧ lnz ls z < x := by
  unfold lwS
  rw [List.mem_filter, rgL_mem, decide_eq_true_iff]
theorem leS_mem {ls : List Int} {x z : Int} : z ∈ leS ls x ↔ (0 ≤ z ∧ z < (ls.length : Int)) ∧ lnz ls z ≤ x := by
  unfold leS
  rw [List.mem_filter, rgL_mem, decide_eq_true_iff]
theorem lwS_less {ls : List Int} {x y : Int} (h : y < x) {z : Int} (hz : z ∈ lwS ls x) (hy : lnz ls z = y) : (lwS ls y).length < (lwS ls x).length := by
  have hn : ∀ x, (lwS ls x).Nodup := fun x => (lt_nodup (rgL_asc _)).filter _
  have hz2 : z ∉ lwS ls y := fun c => by have := (lwS_mem.mp c).2; omega
  exact sub_len (l := z :: lwS ls y) (List.nodup_cons.mpr ⟨hz2, hn y⟩) fun w hw => by
    rcases List.mem_cons.mp hw with r | r
    · exact r ▸ hz
    · have q := lwS_mem.mp r
      exact lwS_mem.mpr ⟨q.1, by omega⟩
/-- the marks below and up to a length -/
def mA (N : Nat) (ps : List (Int × Int)) (ls : List Int) (x : Int) : List Int := pms N (endsOf ps (lwS ls x))
def mB (N : Nat) (ps : List (Int × Int)) (ls : List Int) (x : Int) : List Int := pms N (endsOf ps (leS ls x))
/-- where a place lies among the ties of one length -/
def spt (N : Nat) (ps : List (Int × Int)) (ls : List Int) (x : Int) (i : Nat) : Int := if mk (mA N ps ls x) i = mk (mB N ps ls x) i then 0 else mk (mA N ps ls x) i
def cwT (N : Nat) (ps : List (Int × Int)) (ls : List Int) : List (Int × Int) := (List.range ps.length).map fun i => (spt N ps ls (ls.getD i 0) (ps.getD i (0, 0)).1.toNat, spt N ps ls (ls.getD i 0) (ps.getD i (0, 0)).2.toNat)
theorem cwT_len (N : Nat) (ps : List (Int × Int)) (ls : List Int) : (cwT N ps ls).length = ps.length := by
  unfold cwT
  rw [List.length_map, List.length_range]
theorem cw_end {N : Nat} {ps : List (Int × Int)} {ls : List Int} {z : Int} (h0 : 0 ≤ z) (h1 : z < (ps.length : Int)) : endOf (cwT N ps ls) z = ((spt N ps ls (lnz ls z) (endOf ps z).1).toNat, (spt N ps ls (lnz ls z) (endOf ps z).2).toNat) := by
  have e : (cwT N ps ls).getD z.toNat (0, 0) = (spt N ps ls (lnz ls z) (endOf ps z).1, spt N ps ls (lnz ls z) (endOf ps z).2) := by
    unfold cwT
    rw [List.getD_eq_getElem?_getD, List.getElem?_map, List.getElem?_range (by omega)]
    rfl
  unfold endOf at *
  rw [e]
section
variable {n : Int} {ps : List (Int × Int)} {ls T : List Int} (g : GoodW n ps) (hl : ls.length = ps.length)
include g hl
theorem inA (x : Int) : InN n.toNat (endsOf ps (lwS ls x)) := ends_in g fun z hz => by have := (lwS_mem.mp hz).1; omega
theorem inB (x : Int) : InN n.toNat (endsOf ps (leS ls x)) := ends_in g fun z hz => by have := (leS_mem.mp hz).1; omega
theorem ownA (x : Int) {i : Nat} (hi : i < n.toNat) : 0 ≤ mk (mA n.toNat ps ls x) i ∧ mk (mA n.toNat ps ls x) i ≤ (i : Int) ∧ mk (mA n.toNat ps ls x) (mk (mA n.toNat ps ls x) i).toNat = mk (mA n.toNat ps ls x) i := pms_own _ (inA g hl x) i hi
theorem ownB (x : Int) {i : Nat} (hi : i < n.toNat) : 0 ≤ mk (mB n.toNat ps ls x) i ∧ mk (mB n.toNat ps ls x) i ≤ (i : Int) ∧ mk (mB n.toNat ps ls x) (mk (mB n.toNat ps ls x) i).toNat = mk (mB n.toNat ps ls x) i := pms_own _ (inB g hl x) i hi
theorem connA (x : Int) {i : Nat} (hi : i < n.toNat) : Conn (endsOf ps (lwS ls x)) i (mk (mA n.toNat ps ls x) i).toNat := pms_conn (inA g hl x) hi
theorem connB (x : Int) {i : Nat} (hi : i < n.toNat) : Conn (endsOf ps (leS ls x)) i (mk (mB n.toNat ps ls x) i).toNat := pms_conn (inB g hl x) hi
theorem iffA (x : Int) {i j : Nat} (hi : i < n.toNat) (hj : j < n.toNat) : mk (mA n.toNat ps ls x) i = mk (mA n.toNat ps ls x) j ↔ Conn (endsOf ps (lwS ls x)) i j := pms_iff (inA g hl x) hi hj
theorem iffB (x : Int) {i j : Nat} (hi : i < n.toNat) (hj : j < n.toNat) : mk (mB n.toNat ps ls x) i = mk (mB n.toNat ps ls x) j ↔ Conn (endsOf ps (leS ls x)) i j := pms_iff (inB g hl x) hi hj
theorem leastA (x : Int) {i j : Nat} (hi : i < n.toNat) (hj : j < n.toNat) (c : Conn (endsOf ps (lwS ls x)) i j) : mk (mA n.toNat ps ls x) i ≤ (j : Int) := pms_least (inA g hl x) hi hj c
theorem leastB (x : Int) {i j : Nat} (hi : i < n.toNat) (hj : j < n.toNat) (c : Conn (endsOf ps (leS ls x)) i j) : mk (mB n.toNat ps ls x) i ≤ (j : Int) := pms_least (inB g hl x) hi hj c
theorem sub_AB (x : Int) {i j : Nat} (c : Conn (endsOf ps (lwS ls x)) i j) : Conn (endsOf ps (leS ls x)) i j := c.mono (ends_sub fun z hz => by have := lwS_mem.mp hz; exact leS_mem.mpr ⟨this.1, by omega⟩)
theorem sub_BA {x y : Int} (h : y < x) {i j : Nat} (c : Conn (endsOf ps (leS ls y)) i j) : Conn (endsOf ps (lwS ls x)) i j := c.mono (ends_sub fun z hz => by have := leS_mem.mp hz; exact lwS_mem.mpr ⟨this.1, by omega⟩)
/-- a place gives way at one length only -/
theorem gone_once {x y : Int} {v : Nat} (hv : v < n.toNat) (a1 : mk (mA n.toNat ps ls x) v = v) (b1 : mk (mB n.toNat ps ls x) v ≠ v) (a2 : mk (mA n.toNat ps ls y) v = v) (b2 : mk (mB n.toNat ps ls y) v ≠ v) : x = y := by
  have key : ∀ x y : Int, y < x → mk (mA n.toNat ps ls x) v = v → mk (mB n.toNat ps ls y) v ≠ v → False := fun x y h a b => by
    obtain ⟨o1, o2, _⟩ := ownB g hl y hv
    have := leastA g hl x hv (by omega) (sub_BA g hl h (connB g hl y hv))
    omega
  rcases Int.lt_trichotomy x y with c | c | c
  · exact (key y x c a2 b1).elim
  · exact c
  · exact (key x y c a1 b2).elim
theorem spt_in {x : Int} {i : Nat} (hi : i < n.toNat) : 0 ≤ spt n.toNat ps ls x i ∧ spt n.toNat ps ls x i < n ∧ (spt n.toNat ps ls x i ≠ 0 → spt n.toNat ps ls x i = mk (mA n.toNat ps ls x) i ∧ mk (mA n.toNat ps ls x) (spt n.toNat ps ls x i).toNat = spt n.toNat ps ls x i ∧ mk (mB n.toNat ps ls x) (spt n.toNat ps ls x i).toNat ≠ spt n.toNat ps ls x i) := by
  obtain ⟨o1, o2, o3⟩ := ownA g hl x hi
  unfold spt
  by_cases c : mk (mA n.toNat ps ls x) i = mk (mB n.toNat ps ls x) i
  · rw [if_pos c]
    exact ⟨Int.le_refl _, by omega, fun h => absurd rfl h⟩
  · rw [if_neg c]
    refine ⟨o1, by omega, fun _ => ⟨rfl, o3, fun e => c ?_⟩⟩
    rw [← e]
    exact (iffB g hl x (by omega) hi).mpr (sub_AB g hl x (connA g hl x hi)).symm
theorem cw_good : GoodW n (cwT n.toNat ps ls) := by
  obtain ⟨g1, g2, g3, g4⟩ := id g
  refine ⟨g1, g2, by rw [cwT_len]; exact g3, fun p hp => ?_⟩
  unfold cwT at hp
  obtain ⟨i, hi, rfl⟩ := List.mem_map.mp hp
  have hi := List.mem_range.mp hi
  have he := end_in (z := (i : Int)) g (by omega) (by omega)
  unfold endOf at he
  rw [Int.toNat_natCast] at he
  have h1 := spt_in g hl (x := ls.getD i 0) he.1
  have h2 := spt_in g hl (x := ls.getD i 0) he.2
  exact ⟨h1.1, h1.2.1, h2.1, h2.2.1⟩
/-- by ties of a tree no longer than x all is joined that ties no longer than x join -/
theorem cw_down (hT : IsTree n (cwT n.toNat ps ls) T) : ∀ (k : Nat) (x : Int), (lwS ls x).length = k → ∀ a, a < n.toNat → Conn (endsOf ps (T.filter fun z => decide (lnz ls z ≤ x))) a (mk (mB n.toNat ps ls x) a).toNat := by
  intro k
  induction k using Nat.strongRecOn with
  | ind k ih =>
    intro x hk
    obtain ⟨t1, t2, t3⟩ := id hT
    rw [cwT_len] at t1
    have tm : ∀ {y z : Int}, z ∈ T.filter (fun z => decide (lnz ls z ≤ y)) ↔ z ∈ T ∧ lnz ls z ≤ y := by
      intro y z
      rw [List.mem_filter, decide_eq_true_iff]
    have low : ∀ {i j : Nat}, Conn (endsOf ps (lwS ls x)) i j → Conn (endsOf ps (T.filter fun z => decide (lnz ls z ≤ x))) i j := fun c => c.lift fun e he => by
      obtain ⟨z, hz, rfl⟩ := List.mem_map.mp he
      have q := lwS_mem.mp hz
      have hz2 : z ∈ leS ls (lnz ls z) := leS_mem.mpr ⟨q.1, Int.le_refl _⟩
      have ee := end_in (z := z) g q.1.1 (by omega)
      have i1 := ih _ (by rw [← hk]; exact lwS_less q.2 hz rfl) (lnz ls z) rfl _ ee.1
      have i2 := ih _ (by rw [← hk]; exact lwS_less q.2 hz rfl) (lnz ls z) rfl _ ee.2
      have e1 : mk (mB n.toNat ps ls (lnz ls z)) (endOf ps z).1 = mk (mB n.toNat ps ls (lnz ls z)) (endOf ps z).2 := (iffB g hl _ ee.1 ee.2).mpr (.edge (List.mem_map.mpr ⟨z, hz2, rfl⟩))
      rw [e1] at i1
      exact (i1.trans i2.symm).mono (ends_sub fun w hw => by have := tm.mp hw; exact tm.mpr ⟨this.1, by omega⟩)
    have atA : ∀ a, a < n.toNat → Conn (endsOf ps (T.filter fun z => decide (lnz ls z ≤ x))) a (mk (mA n.toNat ps ls x) a).toNat := fun a ha => low (connA g hl x ha)
    have bA : ∀ a, a < n.toNat → mk (mB n.toNat ps ls x) (mk (mA n.toNat ps ls x) a).toNat = mk (mB n.toNat ps ls x) a := fun a ha => by
      have o := ownA g hl x ha
      exact (iffB g hl x (by omega) ha).mpr (sub_AB g hl x (connA g hl x ha)).symm
    obtain ⟨φ, hφ⟩ : ∃ φ : Nat → Prop, φ = fun w => w < n.toNat → mk (mA n.toNat ps ls x) w = w → mk (mB n.toNat ps ls x) w ≠ w → Conn (endsOf ps (T.filter fun z => decide (lnz ls z ≤ x))) w (mk (mB n.toNat ps ls x) w).toNat := ⟨_, rfl⟩
    have phi0 : φ 0 := by
      rw [hφ]
      intro h1 _ h3
      have := ownB g hl x h1
      exact absurd (by omega) h3
    have other : ∀ (y : Int) (a : Nat), a < n.toNat → y ≠ x → φ (spt n.toNat ps ls y a).toNat := fun y a ha hy => by
      obtain ⟨q0, q1, q2⟩ := spt_in g hl (x := y) ha
      by_cases c : spt n.toNat ps ls y a = 0
      · rw [c]; exact phi0
      · obtain ⟨_, q3, q4⟩ := q2 c
        rw [hφ]
        intro h1 h2 h3
        exact absurd (gone_once g hl (v := (spt n.toNat ps ls y a).toNat) (by omega) (by rw [q3]; omega) (fun e => q4 (by rw [e]; omega)) h2 h3) hy
    have own : ∀ a, a < n.toNat → (φ (spt n.toNat ps ls x a).toNat ↔ Conn (endsOf ps (T.filter fun z => decide (lnz ls z ≤ x))) a (mk (mB n.toNat ps ls x) a).toNat) := fun a ha => by
      by_cases c : mk (mA n.toNat ps ls x) a = mk (mB n.toNat ps ls x) a
      · have e : spt n.toNat ps ls x a = 0 := by unfold spt; rw [if_pos c]
        rw [e]
        refine ⟨fun _ => ?_, fun _ => phi0⟩
        have := atA a ha
        rw [c] at this
        exact this
      · have e : spt n.toNat ps ls x a = mk (mA n.toNat ps ls x) a := by unfold spt; rw [if_neg c]
        obtain ⟨o1, o2, o3⟩ := ownA g hl x ha
        have ba := bA a ha
        rw [e, hφ]
        show (_ → _ → _ → Conn _ _ _) ↔ _
        rw [ba]
        constructor
        · intro h
          exact (atA a ha).trans (h (by omega) (by rw [o3]; omega) (fun e2 => c (by rw [e2]; omega)))
        · intro h _ _ _
          exact (atA a ha).symm.trans h
    have all : ∀ w, w < n.toNat → φ w := fun w hw => by
      refine (conn_keep (φ := φ) (fun e he => ?_) (t3 0 w (by omega) hw)).mp phi0
      obtain ⟨z, hz, rfl⟩ := List.mem_map.mp he
      have zb := t1.all z hz
      have ee := end_in (z := z) g zb.1 zb.2
      show φ (endOf (cwT n.toNat ps ls) z).1 ↔ φ (endOf (cwT n.toNat ps ls) z).2
      rw [cw_end zb.1 zb.2]
      show φ (spt _ _ _ _ _).toNat ↔ φ (spt _ _ _ _ _).toNat
      by_cases c : lnz ls z = x
      · rw [c, own _ ee.1, own _ ee.2]
        have ce : Conn (endsOf ps (T.filter fun z => decide (lnz ls z ≤ x))) (endOf ps z).1 (endOf ps z).2 := .edge (List.mem_map.mpr ⟨z, tm.mpr ⟨hz, by omega⟩, rfl⟩)
        have e1 : mk (mB n.toNat ps ls x) (endOf ps z).1 = mk (mB n.toNat ps ls x) (endOf ps z).2 := (iffB g hl _ ee.1 ee.2).mpr (.edge (List.mem_map.mpr ⟨z, leS_mem.mpr ⟨⟨zb.1, by omega⟩, by omega⟩, rfl⟩))
        rw [e1]
        exact ⟨fun h => ce.symm.trans h, fun h => ce.trans h⟩
      · exact ⟨fun _ => other _ _ ee.2 c, fun _ => other _ _ ee.1 c⟩
    intro a ha
    obtain ⟨o1, o2, o3⟩ := ownA g hl x ha
    have ba := bA a ha
    have c1 := atA a ha
    by_cases c : mk (mB n.toNat ps ls x) (mk (mA n.toNat ps ls x) a).toNat = mk (mA n.toNat ps ls x) a
    · rw [← ba, c]; exact c1
    · have := all (mk (mA n.toNat ps ls x) a).toNat (by omega)
      rw [hφ] at this
      have := this (by omega) (by rw [o3]; omega) (fun e => c (by rw [e]; omega))
      rw [ba] at this
      exact c1.trans this
end
end My

/-! ## sums that meet: sorts turned, forests of few and of all pieces, weights scaled -/
namespace My
open PySem L2
/-! ### forests of no, of one and of all pieces -/
/-! ### the web with one more place, and weights scaled -/
end My

/-! ## sum of a tuple of ints -/
namespace L2
open PySem PySem.Spec PyProof.Rows
section
variable {prog : Program} {w : World} {A : Around} {E : Value → Shared → Prop} {s : Shared} {l : Addr} {xs : Array (Int × Tok)}
end
section
variable {X : Cx}
end
end L2

/-! ## the trees of that web are the trees without a gain, the cheapest ones -/
namespace My
open PySem L2
/-- the ties of a tree no longer than x join what all such ties join -/
def LvT (n : Int) (ps : List (Int × Int)) (ls T : List Int) : Prop := ∀ (x : Int) (i j : Nat), i < n.toNat → j < n.toNat → Conn (endsOf ps (leS ls x)) i j → Conn (endsOf ps (T.filter fun z => decide (lnz ls z ≤ x))) i j
/-- no exchange makes it shorter -/
def NoG (n : Int) (ps : List (Int × Int)) (ls T : List Int) : Prop := ∀ o z, exg n ps T o z → lnz ls o ≤ lnz ls z
theorem ln_top (ls : List Int) : ∃ U : Int, ∀ z : Int, lnz ls z ≤ U := by
  have h : ∀ l : List Int, ∃ U : Int, ∀ i : Nat, l.getD i 0 ≤ U := by
    intro l
    induction l with
    | nil => exact ⟨0, fun i => by simp⟩
    | cons x l ih =>
      obtain ⟨U, hU⟩ := ih
      refine ⟨max x U, fun i => ?_⟩
      cases i with
      | zero => show x ≤ _; omega
      | succ i => have := hU i; show l.getD i 0 ≤ _; omega
  obtain ⟨U, hU⟩ := h ls
  exact ⟨U, fun z => hU z.toNat⟩
section
variable {n : Int} {ps : List (Int × Int)} {ls T : List Int} (g : GoodW n ps) (hl : ls.length = ps.length)
include g hl
theorem cw_lv (hT : IsTree n (cwT n.toNat ps ls) T) : LvT n ps ls T := fun x i j hi hj c => by
  have h1 := cw_down g hl hT _ x rfl i hi
  have h2 := cw_down g hl hT _ x rfl j hj
  rw [(iffB g hl x hi hj).mpr c] at h1
  exact h1.trans h2.symm
theorem cw_is (hT : IsTree n (cwT n.toNat ps ls) T) : IsTree n ps T := by
  obtain ⟨t1, t2, t3⟩ := id hT
  rw [cwT_len] at t1
  obtain ⟨U, hU⟩ := ln_top ls
  have zero : ∀ a, a < n.toNat → mk (mB n.toNat ps ls U) a = 0 := fun a ha => by
    obtain ⟨o1, o2, o3⟩ := ownB g hl U ha
    refine Classical.byContradiction fun no => ?_
    obtain ⟨v, hv⟩ : ∃ v : Nat, v = (mk (mB n.toNat ps ls U) a).toNat := ⟨_, rfl⟩
    have v0 : v ≠ 0 := by omega
    have vn : v < n.toNat := by omega
    have ov : mk (mB n.toNat ps ls U) v = (v : Int) := by rw [hv, o3]; omega
    have st := conn_keep (φ := fun w => w ≠ v) (fun e he => by
      obtain ⟨z, hz, rfl⟩ := List.mem_map.mp he
      have zb := t1.all z hz
      have ee := end_in (z := z) g zb.1 zb.2
      show (endOf (cwT n.toNat ps ls) z).1 ≠ v ↔ (endOf (cwT n.toNat ps ls) z).2 ≠ v
      rw [cw_end zb.1 zb.2]
      have key : ∀ c, c < n.toNat → (spt n.toNat ps ls (lnz ls z) c).toNat ≠ v := fun c hc e => by
        obtain ⟨q0, q1, q2⟩ := spt_in g hl (x := lnz ls z) hc
        obtain ⟨_, q3, q4⟩ := q2 (by omega)
        rw [e] at q3 q4
        have ov2 := ownB g hl (lnz ls z) vn
        have cb := connB g hl (lnz ls z) vn
        have cu : Conn (endsOf ps (leS ls U)) v (mk (mB n.toNat ps ls (lnz ls z)) v).toNat := cb.mono (ends_sub fun y hy => by have := leS_mem.mp hy; exact leS_mem.mpr ⟨this.1, hU y⟩)
        have := leastB g hl U vn (by omega) cu
        omega
      exact ⟨fun _ => key _ ee.2, fun _ => key _ ee.1⟩) (t3 0 v (by omega) vn)
    exact (st.mp (Ne.symm v0)) rfl
  refine ⟨t1, t2, ?_⟩
  have key : ∀ a, a < n.toNat → Conn (endsOf ps T) a 0 := fun a ha => by
    have h1 := cw_down g hl hT _ U rfl a ha
    rw [zero a ha] at h1
    exact h1.mono (ends_sub fun z hz => (List.mem_filter.mp hz).1)
  exact fun i j hi hj => (key i hi).trans (key j hj).symm
theorem level_ex {v : Nat} (hv : v < n.toNat) : ∀ (k : Nat) (x : Int), (lwS ls x).length = k → mk (mB n.toNat ps ls x) v ≠ v → ∃ y, mk (mA n.toNat ps ls y) v = v ∧ mk (mB n.toNat ps ls y) v ≠ v := by
  intro k
  induction k using Nat.strongRecOn with
  | ind k ih =>
    intro x hk hb
    by_cases c : mk (mA n.toNat ps ls x) v = v
    · exact ⟨x, c, hb⟩
    · have ne : lwS ls x ≠ [] := fun e => c (by
        unfold mA
        rw [e]
        exact mk_range hv)
      obtain ⟨m, hm, q⟩ := max_ex (lnz ls) ne
      have hm2 := lwS_mem.mp hm
      have e : leS ls (lnz ls m) = lwS ls x := by
        unfold leS lwS
        refine List.filter_congr fun z hz => ?_
        rw [decide_eq_decide]
        constructor
        · intro h; omega
        · intro h; exact q z (lwS_mem.mpr ⟨rgL_mem.mp hz, h⟩)
      refine ih _ (by rw [← hk]; exact lwS_less hm2.2 hm rfl) (lnz ls m) rfl ?_
      have e2 : mB n.toNat ps ls (lnz ls m) = mA n.toNat ps ls x := by unfold mB mA; rw [e]
      rw [e2]
      exact c
theorem cw_up (hT : IsTree n ps T) (hv : LvT n ps ls T) : IsTree n (cwT n.toNat ps ls) T := by
  obtain ⟨t1, t2, t3⟩ := id hT
  obtain ⟨U, hU⟩ := ln_top ls
  refine ⟨by rw [cwT_len]; exact t1, t2, ?_⟩
  have tm : ∀ {y z : Int}, z ∈ T.filter (fun z => decide (lnz ls z ≤ y)) ↔ z ∈ T ∧ lnz ls z ≤ y := by
    intro y z
    rw [List.mem_filter, decide_eq_true_iff]
  have key : ∀ v, v < n.toNat → Conn (endsOf (cwT n.toNat ps ls) T) v 0 := fun v hvn => by
    by_cases v0 : v = 0
    · rw [v0]; exact .refl _
    have bU : mk (mB n.toNat ps ls U) v ≠ v := by
      have cu : Conn (endsOf ps (leS ls U)) v 0 := (t3 v 0 hvn (by omega)).mono (ends_sub fun y hy => by have := t1.all y hy; exact leS_mem.mpr ⟨⟨this.1, by omega⟩, hU y⟩)
      have := leastB g hl U hvn (by omega) cu
      omega
    obtain ⟨y, ya, yb⟩ := level_ex g hl hvn _ U rfl bU
    obtain ⟨b1, b2, b3⟩ := ownB g hl y hvn
    obtain ⟨u, hu⟩ : ∃ u : Nat, u = (mk (mB n.toNat ps ls y) v).toNat := ⟨_, rfl⟩
    have un : u < n.toNat := by omega
    have bu : mk (mB n.toNat ps ls y) u = (u : Int) := by rw [hu, b3]; omega
    have cvu : Conn (endsOf ps (leS ls y)) v u := by rw [hu]; exact connB g hl y hvn
    have cT := hv y v u hvn un cvu
    have mp := conn_map (fs := endsOf (cwT n.toNat ps ls) T) (fun i => (spt n.toNat ps ls y i).toNat) (fun e he => by
      obtain ⟨z, hz, rfl⟩ := List.mem_map.mp he
      obtain ⟨zT, zy⟩ := tm.mp hz
      have zb := t1.all z zT
      have ee := end_in (z := z) g zb.1 zb.2
      show Conn _ (spt n.toNat ps ls y (endOf ps z).1).toNat (spt n.toNat ps ls y (endOf ps z).2).toNat
      by_cases c : lnz ls z = y
      · have e := cw_end (N := n.toNat) (ls := ls) zb.1 zb.2
        rw [c] at e
        have : (endOf (cwT n.toNat ps ls) z) ∈ endsOf (cwT n.toNat ps ls) T := List.mem_map.mpr ⟨z, zT, rfl⟩
        rw [e] at this
        exact .edge this
      · have z1 : z ∈ lwS ls y := lwS_mem.mpr ⟨⟨zb.1, by omega⟩, by omega⟩
        have z2 : z ∈ leS ls y := leS_mem.mpr ⟨⟨zb.1, by omega⟩, zy⟩
        have ea := (iffA g hl y ee.1 ee.2).mpr (.edge (List.mem_map.mpr ⟨z, z1, rfl⟩))
        have eb := (iffB g hl y ee.1 ee.2).mpr (.edge (List.mem_map.mpr ⟨z, z2, rfl⟩))
        have e : spt n.toNat ps ls y (endOf ps z).1 = spt n.toNat ps ls y (endOf ps z).2 := by
          unfold spt
          rw [ea, eb]
        rw [e]
        exact .refl _) cT
    have sv : spt n.toNat ps ls y v = (v : Int) := by
      unfold spt
      rw [if_neg (by omega), ya]
    have su : spt n.toNat ps ls y u = 0 := by
      obtain ⟨a1, a2, a3⟩ := ownA g hl y un
      have ca := connA g hl y un
      have := leastB g hl y (i := (mk (mA n.toNat ps ls y) u).toNat) (j := (mk (mA n.toNat ps ls y) u).toNat) (by omega) (by omega) (.refl _)
      have e1 : mk (mB n.toNat ps ls y) (mk (mA n.toNat ps ls y) u).toNat = mk (mB n.toNat ps ls y) u := (iffB g hl y (by omega) un).mpr (sub_AB g hl y ca).symm
      unfold spt
      rw [if_pos (by omega)]
    have mp : Conn (endsOf (cwT n.toNat ps ls) T) (spt n.toNat ps ls y v).toNat (spt n.toNat ps ls y u).toNat := mp
    rw [sv, su] at mp
    exact mp
  exact fun i j hi hj => (key i hi).trans (key j hj).symm
omit hl in
theorem lv_of (hl : ls.length = ps.length) (hT : IsTree n ps T) (hg : NoG n ps ls T) : LvT n ps ls T := fun x i j _ _ c => c.lift fun e he => by
  obtain ⟨z, hz, rfl⟩ := List.mem_map.mp he
  obtain ⟨zb, zx⟩ := leS_mem.mp hz
  show Conn _ (endOf ps z).1 (endOf ps z).2
  by_cases zT : z ∈ T
  · exact .edge (List.mem_map.mpr ⟨z, List.mem_filter.mpr ⟨zT, decide_eq_true zx⟩, rfl⟩)
  · refine (ring_conn g hT zb.1 (by omega)).mono (ends_sub fun y hy => ?_)
    obtain ⟨yT, yc⟩ := ringA_mem.mp hy
    have := hg y z ⟨yT, fun e => zT (e ▸ yT), yc⟩
    exact List.mem_filter.mpr ⟨yT, decide_eq_true (by omega)⟩
theorem lv_gain (hT : IsTree n ps T) (hv : LvT n ps ls T) : NoG n ps ls T := fun o z he => by
  refine Classical.byContradiction fun no => ?_
  obtain ⟨h1, h2, h3⟩ := he
  obtain ⟨z0, z1⟩ := unlike_bnd h3
  have ee := end_in (z := z) g z0 z1
  refine (cutT_mem g hT z0 z1).mp h3 ?_
  refine (hv (lnz ls z) _ _ ee.1 ee.2 (.edge (List.mem_map.mpr ⟨z, leS_mem.mpr ⟨⟨z0, by omega⟩, Int.le_refl _⟩, rfl⟩))).mono (ends_sub fun y hy => ?_)
  obtain ⟨yT, yl⟩ := List.mem_filter.mp hy
  have yl := of_decide_eq_true yl
  exact wo_mem.mpr ⟨yT, fun e => no (by rw [← e]; exact yl)⟩
/-- the trees of the web of the cheapest -/
theorem cw_tree : IsTree n (cwT n.toNat ps ls) T ↔ IsTree n ps T ∧ NoG n ps ls T :=
  ⟨fun h => ⟨cw_is g hl h, lv_gain g hl (cw_is g hl h) (cw_lv g hl h)⟩, fun h => cw_up g hl h.1 (lv_of g hl h.1 h.2)⟩
end
end My

/-! ## the steps that make the web of the cheapest -/
namespace My
open PySem L2
theorem pms_eq {n : Nat} {es fs : List (Nat × Nat)} (h1 : InN n es) (h2 : InN n fs) (h : ∀ i j, Conn es i j ↔ Conn fs i j) : pms n es = pms n fs := by
  have key : ∀ {es fs : List (Nat × Nat)}, InN n es → InN n fs → (∀ i j, Conn es i j ↔ Conn fs i j) → ∀ i, i < n → mk (pms n es) i ≤ mk (pms n fs) i := fun {es fs} h1 h2 h i hi => by
    obtain ⟨o1, o2, _⟩ := pms_own fs h2 i hi
    have := pms_least h1 hi (by omega) ((h i _).mpr (pms_conn h2 hi))
    omega
  refine List.ext_getElem? fun i => ?_
  by_cases c : i < n
  · rw [mk_some (by rw [pms_length]; exact c), mk_some (by rw [pms_length]; exact c)]
    exact congrArg some (Int.le_antisymm (key h1 h2 h i c) (key h2 h1 (fun i j => (h i j).symm) i c))
  · rw [List.getElem?_eq_none (by rw [pms_length]; omega), List.getElem?_eq_none (by rw [pms_length]; omega)]
/-- the first i ties' numbers of one length -/
def lvl (ls : List Int) (x : Int) (i : Nat) : List Int := (rgL i).filter fun z => decide (lnz ls z = x)
theorem lvl_succ (ls : List Int) (x : Int) (i : Nat) : lvl ls x (i + 1) = lvl ls x i ++ (if ls.getD i 0 = x then [(i : Int)] else []) := by
  unfold lvl rgL
  rw [List.range_succ, List.map_append, List.filter_append]
  congr 1
  have e : lnz ls (i : Int) = ls.getD i 0 := by unfold lnz; rw [Int.toNat_natCast]
  by_cases c : ls.getD i 0 = x
  · rw [if_pos c]
    exact List.filter_cons_of_pos (by simp only [decide_eq_true_iff]; rw [e]; exact c)
  · rw [if_neg c]
    exact List.filter_cons_of_neg (by simp only [decide_eq_true_iff]; rw [e]; exact c)
theorem lvl_mem {ls : List Int} {x z : Int} {i : Nat} : z ∈ lvl ls x i ↔ (0 ≤ z ∧ z < (i : Int)) ∧ lnz ls z = x := by
  unfold lvl
  rw [List.mem_filter, rgL_mem, decide_eq_true_iff]
theorem lvl_set (ls : List Int) (x : Int) (i : Nat) : IsSet i (lvl ls x i) := isSet_iff.mpr ⟨fun z hz => (lvl_mem.mp hz).1, (rgL_asc i).filter _⟩
/-- a tie's new ends -/
def cwP (N : Nat) (ps : List (Int × Int)) (ls : List Int) (i : Nat) : Int × Int := (spt N ps ls (ls.getD i 0) (ps.getD i (0, 0)).1.toNat, spt N ps ls (ls.getD i 0) (ps.getD i (0, 0)).2.toNat)
/-- the ties, some of them with their new ends -/
def mdT (N : Nat) (ps : List (Int × Int)) (ls : List Int) (p : Nat → Prop) [DecidablePred p] : List (Int × Int) := (List.range ps.length).map fun i => if p i then cwP N ps ls i else ps.getD i (0, 0)
theorem mdT_len (N : Nat) (ps : List (Int × Int)) (ls : List Int) (p : Nat → Prop) [DecidablePred p] : (mdT N ps ls p).length = ps.length := by unfold mdT; rw [List.length_map, List.length_range]
theorem mdT_congr {N : Nat} {ps : List (Int × Int)} {ls : List Int} {p q : Nat → Prop} [DecidablePred p] [DecidablePred q] (h : ∀ i, i < ps.length → (p i ↔ q i)) : mdT N ps ls p = mdT N ps ls q := by
  unfold mdT
  refine List.map_congr_left fun i hi => ?_
  have := h i (List.mem_range.mp hi)
  by_cases c : p i
  · rw [if_pos c, if_pos (this.mp c)]
  · rw [if_neg c, if_neg fun d => c (this.mpr d)]
theorem mdT_none {N : Nat} {ps : List (Int × Int)} {ls : List Int} {p : Nat → Prop} [DecidablePred p] (h : ∀ i, i < ps.length → ¬ p i) : mdT N ps ls p = ps := by
  unfold mdT
  refine List.ext_getElem? fun i => ?_
  rw [List.getElem?_map]
  by_cases c : i < ps.length
  · rw [List.getElem?_range c, List.getElem?_eq_getElem c]
    show some (if p i then _ else ps.getD i (0, 0)) = _
    rw [if_neg (h i c), List.getD_eq_getElem?_getD, List.getElem?_eq_getElem c]
    rfl
  · rw [List.getElem?_eq_none (by rw [List.length_range]; omega), List.getElem?_eq_none (by omega)]
    rfl
theorem mdT_all {N : Nat} {ps : List (Int × Int)} {ls : List Int} {p : Nat → Prop} [DecidablePred p] (h : ∀ i, i < ps.length → p i) : mdT N ps ls p = cwT N ps ls := by
  unfold mdT cwT
  refine List.map_congr_left fun i hi => ?_
  rw [if_pos (h i (List.mem_range.mp hi))]
  rfl
theorem mdT_put {N : Nat} {ps : List (Int × Int)} {ls : List Int} {p q : Nat → Prop} [DecidablePred p] [DecidablePred q] {k : Nat} (h : ∀ i, i < ps.length → (q i ↔ p i ∨ i = k)) : (mdT N ps ls p).set k (cwP N ps ls k) = mdT N ps ls q := by
  unfold mdT
  refine List.ext_getElem? fun i => ?_
  rw [List.getElem?_map]
  by_cases c : i < ps.length
  · have hq := h i c
    rw [List.getElem?_range c]
    by_cases d : k = i
    · rw [d, List.getElem?_set_self (by rw [List.length_map, List.length_range]; exact c)]
      show _ = some (if q i then _ else _)
      rw [if_pos (hq.mpr (.inr d.symm))]
    · rw [List.getElem?_set_ne d, List.getElem?_map, List.getElem?_range c]
      show some (if p i then _ else _) = some (if q i then _ else _)
      by_cases e : p i
      · rw [if_pos e, if_pos (hq.mpr (.inl e))]
      · rw [if_neg e, if_neg fun f => (hq.mp f).elim e fun g => d g.symm]
  · rw [List.getElem?_eq_none (by rw [List.length_set, List.length_map, List.length_range]; omega), List.getElem?_eq_none (by rw [List.length_range]; omega)]
    rfl
section
variable {n : Int} {ps : List (Int × Int)} {ls Ls S : List Int} {j : Nat} {x : Int} (g : GoodW n ps) (hl : ls.length = ps.length) (hLa : Ls.Pairwise (· < ·)) (hLm : ∀ z, z ∈ Ls ↔ z ∈ ls) (hx : Ls[j]? = some x)
include hLa hx
theorem take_lt {y : Int} (hy : y ∈ Ls) : y ∈ Ls.take j ↔ y < x := by
  obtain ⟨hj, e⟩ := List.getElem?_eq_some_iff.mp hx
  constructor
  · intro h
    obtain ⟨i, hi, ei⟩ := List.mem_iff_getElem.mp h
    rw [List.length_take] at hi
    rw [List.getElem_take] at ei
    rw [← ei, ← e]
    exact List.pairwise_iff_getElem.mp hLa i j (by omega) hj (by omega)
  · intro h
    obtain ⟨i, hi, ei⟩ := List.mem_iff_getElem.mp hy
    have : i < j := Classical.byContradiction fun no => by
      rcases Nat.lt_or_eq_of_le (Nat.le_of_not_lt no) with c | c
      · have := List.pairwise_iff_getElem.mp hLa j i hj hi c
        omega
      · subst c
        omega
    exact List.mem_iff_getElem.mpr ⟨i, by rw [List.length_take]; omega, by rw [List.getElem_take]; exact ei⟩
include g hl hLm
theorem marks_at (hS : ∀ z, z ∈ S ↔ (0 ≤ z ∧ z < (ps.length : Int)) ∧ lnz ls z ∈ Ls.take j) : pms n.toNat (endsOf ps S) = mA n.toNat ps ls x := by
  refine pms_eq (ends_in g fun z hz => ((hS z).mp hz).1) (inA g hl x) fun a b => conn_perm fun z => ?_
  rw [hS, lwS_mem, hl]
  refine and_congr_right fun zb => ?_
  refine take_lt hLa hx ((hLm _).mpr ?_)
  unfold lnz
  rw [List.getD_eq_getElem?_getD, List.getElem?_eq_getElem (show z.toNat < ls.length by omega)]
  exact List.getElem_mem _
theorem marks_up (hS : ∀ z, z ∈ S ↔ (0 ≤ z ∧ z < (ps.length : Int)) ∧ lnz ls z ∈ Ls.take j) : pmf (pms n.toNat (endsOf ps S)) (endsOf ps (lvl ls x ps.length)) = pms n.toNat (endsOf ps (S ++ lvl ls x ps.length)) ∧ pms n.toNat (endsOf ps (S ++ lvl ls x ps.length)) = mB n.toNat ps ls x ∧ ∀ z, z ∈ S ++ lvl ls x ps.length ↔ (0 ≤ z ∧ z < (ps.length : Int)) ∧ lnz ls z ∈ Ls.take (j + 1) := by
  have m1 : ∀ z, z ∈ S ++ lvl ls x ps.length ↔ (0 ≤ z ∧ z < (ps.length : Int)) ∧ lnz ls z ∈ Ls.take (j + 1) := fun z => by
    rw [List.mem_append, hS, lvl_mem, List.take_succ, hx]
    show _ ↔ _ ∧ lnz ls z ∈ Ls.take j ++ [x]
    rw [List.mem_append, List.mem_singleton]
    constructor
    · rintro (⟨a, b⟩ | ⟨a, b⟩)
      · exact ⟨a, .inl b⟩
      · exact ⟨a, .inr b⟩
    · rintro ⟨a, b | b⟩
      · exact .inl ⟨a, b⟩
      · exact .inr ⟨a, b⟩
  refine ⟨?_, ?_, m1⟩
  · unfold pmf pms endsOf
    rw [List.map_append, List.foldl_append]
  · refine pms_eq (ends_in g fun z hz => ((m1 z).mp hz).1) (inB g hl x) fun a b => conn_perm fun z => ?_
    rw [List.mem_append, hS, lvl_mem, leS_mem, hl]
    have t : (0 ≤ z ∧ z < (ps.length : Int)) → (lnz ls z ∈ Ls.take j ↔ lnz ls z < x) := fun zb => take_lt hLa hx ((hLm _).mpr (by
      unfold lnz
      rw [List.getD_eq_getElem?_getD, List.getElem?_eq_getElem (show z.toNat < ls.length by omega)]
      exact List.getElem_mem _))
    constructor
    · rintro (⟨a, b⟩ | ⟨a, b⟩)
      · exact ⟨a, Int.le_of_lt ((t a).mp b)⟩
      · exact ⟨a, Int.le_of_eq b⟩
    · rintro ⟨a, b⟩
      rcases Int.lt_or_eq_of_le b with c | c
      · exact .inl ⟨a, (t a).mpr c⟩
      · exact .inr ⟨a, c⟩
end
end My

/-! ## the trees without a gain are those of least length -/
namespace My
open PySem L2
/-- the length of some ties -/
def sumL (ls T : List Int) : Int := (T.map (lnz ls)).sum
theorem sumL_perm {ls a b : List Int} (h : a.Perm b) : sumL ls a = sumL ls b := by
  unfold sumL
  induction h with
  | nil => rfl
  | cons x _ ih => rw [List.map_cons, List.map_cons, List.sum_cons, List.sum_cons, ih]
  | swap x y l => rw [List.map_cons, List.map_cons, List.map_cons, List.map_cons, List.sum_cons, List.sum_cons, List.sum_cons, List.sum_cons]; omega
  | trans _ _ i1 i2 => exact i1.trans i2
theorem sumL_wo {ls : List Int} {o : Int} : ∀ {T : List Int}, T.Nodup → o ∈ T → sumL ls (wo T o) + lnz ls o = sumL ls T
  | [], _, h => by cases h
  | x :: T, hn, h => by
    obtain ⟨n1, n2⟩ := List.nodup_cons.mp hn
    unfold wo
    by_cases c : x = o
    · rw [List.filter_cons_of_neg (by simpa using c)]
      have e : T.filter (fun y => decide (y ≠ o)) = T := List.filter_eq_self.mpr fun y hy => decide_eq_true fun e => n1 (by rw [c, ← e]; exact hy)
      rw [e, ← c]
      show sumL ls T + lnz ls x = lnz ls x + sumL ls T
      omega
    · rw [List.filter_cons_of_pos (by simpa using c)]
      have := sumL_wo (ls := ls) n2 ((List.mem_cons.mp h).resolve_left fun e => c e.symm)
      show lnz ls x + sumL ls (wo T o) + lnz ls o = lnz ls x + sumL ls T
      omega
theorem sumL_exch {ls T M : List Int} {o z : Int} (hn : T.Nodup) (ho : o ∈ T) (hp : M.Perm (wo T o ++ [z])) : sumL ls M = sumL ls T - lnz ls o + lnz ls z := by
  rw [sumL_perm hp]
  have := sumL_wo (ls := ls) hn ho
  have e : sumL ls (wo T o ++ [z]) = sumL ls (wo T o) + lnz ls z := by
    unfold sumL
    rw [List.map_append, List.map_singleton]
    exact sum_snocI _ _
  omega
section
variable {n : Int} {ps : List (Int × Int)} {ls T : List Int} (g : GoodW n ps)
include g
theorem tree_sub {W : List Int} (hT : IsTree n ps T) (hW : IsTree n ps W) (h : ∀ z ∈ T, z ∈ W) : T.Perm W := by
  have := perm_of_len (l := W) hT.1.nodup (by have := hT.2.1; have := hW.2.1; omega) h
  exact this.symm
theorem nog_min (hT : IsTree n ps T) (hg : NoG n ps ls T) : ∀ (k : Nat) (W : List Int), IsTree n ps W → (T.filter fun z => decide (z ∉ W)).length = k → sumL ls T ≤ sumL ls W := by
  intro k
  induction k using Nat.strongRecOn with
  | ind k ih =>
    intro W hW hk
    by_cases c : ∀ z ∈ T, z ∈ W
    · rw [sumL_perm (tree_sub g hT hW c)]
      exact Int.le_refl _
    · obtain ⟨z, hz⟩ : ∃ z, z ∈ T ∧ z ∉ W := Classical.byContradiction fun no => c fun z hz => Classical.byContradiction fun hn => no ⟨z, hz, hn⟩
      obtain ⟨y, h1, h2⟩ := partner_ex g hT hW hz.1 hz.2
      have lz := hg z y h1
      obtain ⟨M, hM1, hM2⟩ := sort_ex (wo W y ++ [z])
      have tM := exg_tree g hW h2 hM1 hM2
      have sM := sumL_exch (ls := ls) hW.1.nodup h2.1 hM1
      have yT : y ∉ T := ((exg_iff g hT).mp h1).2.1
      have less : (T.filter fun x => decide (x ∉ M)).length < k := by
        rw [← hk]
        refine sub_len (l := z :: T.filter fun x => decide (x ∉ M)) ?_ fun x hx => ?_
        · refine List.nodup_cons.mpr ⟨fun h => ?_, hT.1.nodup.filter _⟩
          have := of_decide_eq_true (List.mem_filter.mp h).2
          exact this (hM1.mem_iff.mpr (List.mem_append_right _ (List.mem_singleton.mpr rfl)))
        · rcases List.mem_cons.mp hx with e | e
          · rw [e]
            exact List.mem_filter.mpr ⟨hz.1, decide_eq_true hz.2⟩
          · obtain ⟨e1, e2⟩ := List.mem_filter.mp e
            have e2 := of_decide_eq_true e2
            refine List.mem_filter.mpr ⟨e1, decide_eq_true fun h => e2 (hM1.mem_iff.mpr (List.mem_append_left _ (wo_mem.mpr ⟨h, fun q => yT (q ▸ e1)⟩)))⟩
      have := ih _ less M tM rfl
      omega
theorem min_nog (hT : IsTree n ps T) (h : ∀ W, IsTree n ps W → sumL ls T ≤ sumL ls W) : NoG n ps ls T := fun o z he => by
  obtain ⟨M, hM1, hM2⟩ := sort_ex (wo T o ++ [z])
  have tM := exg_tree g hT he hM1 hM2
  have sM := sumL_exch (ls := ls) hT.1.nodup he.1 hM1
  have := h M tM
  omega
/-- the trees of the web of the cheapest are those of least length -/
theorem cw_min (hl : ls.length = ps.length) : IsTree n (cwT n.toNat ps ls) T ↔ IsTree n ps T ∧ ∀ W, IsTree n ps W → sumL ls T ≤ sumL ls W := by
  rw [cw_tree g hl]
  exact ⟨fun h => ⟨h.1, fun W hW => nog_min g h.1 h.2 _ W hW rfl⟩, fun h => ⟨h.1, min_nog g h.1 h.2⟩⟩
/-- whether there is one -/
theorem cw_some (hl : ls.length = ps.length) : (∃ W, IsTree n ps W) ↔ ∃ W, IsTree n (cwT n.toNat ps ls) W := by
  constructor
  · rintro ⟨W, hW⟩
    obtain ⟨L, hL1, hL2⟩ := row_all g
    have key : ∀ l : List (List Int), l ≠ [] → ∃ m ∈ l, ∀ x ∈ l, sumL ls m ≤ sumL ls x := by
      intro l
      induction l with
      | nil => intro h; exact absurd rfl h
      | cons x l ih =>
        intro _
        by_cases c : l = []
        · rw [c]
          exact ⟨x, by simp, fun y hy => by rw [List.mem_singleton.mp hy]; exact Int.le_refl _⟩
        · obtain ⟨m, hm, q⟩ := ih c
          by_cases d : sumL ls m ≤ sumL ls x
          · exact ⟨m, List.mem_cons_of_mem _ hm, fun y hy => by
              rcases List.mem_cons.mp hy with r | r
              · rw [r]; exact d
              · exact q y r⟩
          · exact ⟨x, by simp, fun y hy => by
              rcases List.mem_cons.mp hy with r | r
              · rw [r]; exact Int.le_refl _
              · have := q y r; omega⟩
    obtain ⟨m, hm, q⟩ := key L (fun e => by rw [e] at hL1; exact absurd ((hL1 W).mpr hW) (by simp))
    exact ⟨m, (cw_min g hl).mpr ⟨(hL1 m).mp hm, fun V hV => q V ((hL1 V).mpr hV)⟩⟩
  · rintro ⟨W, hW⟩
    exact ⟨W, ((cw_min g hl).mp hW).1⟩
end
end My

/-! ## sorted(list of empty tuples) -/
namespace L2
open PySem PySem.Spec PyProof.Rows My
section
variable {prog : Program} {w : World} {A : Around} {E : Value → Shared → Prop} {s : Shared}
end
section
variable {X : Cx}
end
end L2

/-! ## sorted(list of two tuples that stand in their order) -/
namespace L2
open PySem PySem.Spec PyProof.Rows My
section
variable {M : Model} {A : Around} {E : Value → Shared → Prop} {s : Shared}
end
section
variable {prog : Program} {w : World} {A : Around} {E : Value → Shared → Prop} {s : Shared}
end
section
variable {X : Cx}
end
end L2

/-! ## walks turned round -/
namespace My
open PySem L2
theorem Wk.cons {n : Int} {ps : List (Int × Int)} {T T' : List Int} {o z : Int} (h1 : exg n ps T o z) (h2 : T'.Perm (wo T o ++ [z])) (h3 : T'.Pairwise (· ≤ ·)) {ws : List (Int × Int)} {U : List Int} (h : Wk n ps T' ws U) : Wk n ps T ((o, z) :: ws) U := by
  induction h with
  | nil => exact Wk.step (ws := []) .nil h1 h2 h3
  | step k1 k2 k3 k4 ih => exact Wk.step (ws := (o, z) :: _) ih k2 k3 k4
end My
namespace My
open PySem L2
end My

/-! ## the numbers that solve a table -/
namespace My
open PySem L2
end My

/-! ## fractions in least terms -/
namespace My
open PySem L2
end My

/-! ## a web's table without any one of its places -/
namespace My
open PySem L2
end My

/-! ## the heights of a web's places -/
namespace My
open PySem L2
end My

/-! ## sums of fractions with one bottom -/
namespace My
open PySem L2
end My

/-! ## heights: the same both ways; the trees that hold a tie -/
namespace My
open PySem L2
end My

/-! ## leans -/
namespace My
open PySem L2
end My

/-! ## shares by heights -/
namespace My
open PySem L2
end My

/-! ## rows of fractions, and heights by their balance -/
namespace My
open PySem L2
end My

/-! ## chains of rings of bundles -/
namespace My
open PySem L2
/-! ties one by one -/
end My

/-! ## rings of bundles, tie by tie -/
namespace My
open PySem L2
end My

/-! ## for x, y in zip(tuple, tuple) -/
namespace L2
open PySem PySem.Spec PyProof.Rows
section
variable {prog : Program} {w : World} {A : Around} {E : Value → Shared → Prop} {s : Shared}
end
end L2

/-! ## zip of two lists or two tuples -/
namespace L2
open PySem PySem.Spec PyProof.Rows
section
variable {prog : Program} {w : World} {A : Around} {E : Value → Shared → Prop} {s : Shared}
end
section
variable {X : Cx}
end
end L2
namespace My
open PySem L2
section
variable {K : PySem.W.Frag} {kd : Bool} {a b : Addr} {xs ys : List V} {g : TG} {tt : TT} {te : TE} {o : Nat} {fr : List Nat} {σ : St} {H : Hp} {Q : VK}
end
end My

/-! ## a list out of zip(list, list or tuple) -/
namespace My
open PySem L2
section
variable {K : PySem.W.Frag} {kd : Bool} {a b : Addr} {xs ys : List V} {g : TG} {tt : TT} {te : TE} {o : Nat} {fr : List Nat} {σ : St} {H : Hp} {Q : VK}
end
end My

/-! ## for i, x in enumerate(tuple), and of a list or a tuple -/
namespace L2
open PySem PySem.Spec PyProof.Rows
section
theorem isTup_tuple {h : Heap} {a : Addr} {us : Array Value} (p : IsTup h a us) : h.IsTuple a us := by
  obtain ⟨o, e, c, n, d⟩ := p
  exact ⟨o, e, c, n, d⟩
theorem drawsT {prog : Program} {w : World} {A : Around} (hh : A.handled = none) (it l : Addr) (ne : l ≠ it) (us : Array Value) :
    Draws prog w A it [it, l] us.size (fun i v => us[i]? = some v) (fun i h => h.IsTupleIter it l i ∧ h.IsTuple l us) where
  live := fun _ _ st => by
    obtain ⟨⟨o, ho, _⟩, _⟩ := st
    exact ⟨o, ho⟩
  frame := fun _ _ _ st hk => by
    obtain ⟨⟨o, ho, r⟩, o2, ho2, r2⟩ := st
    exact ⟨⟨o, hk it (by simp) o ho, r⟩, o2, hk l (by simp) o2 ho2, r2⟩
  item := fun i s Q E hi st q => nxT_item st.1 st.2 (u := us[i]) (by simp [hi]) fun g t1 sb => q _ g s.toks (by simp [hi]) ⟨t1, st.2.extBut sb.extBut ne⟩ sb
  done := fun s Q E st q => nxT_end hh st.1 st.2 (by simp) q
variable {prog : Program} {w : World} {A : Around} {E : Value → Shared → Prop} {s : Shared}
set_option maxRecDepth 100000 in
theorem enumT_new (l : Addr) (us : Array Value) :
    Meets (Builtin.«enumerate.__new__» ⟨[.type "enumerate", .ref l], []⟩) (fun _ R s => s.heap.IsTuple l us ∧
      R (.ok (.ret (.ref (s.heap.push { cls := .type "tuple_iterator", data := .fields #[.ref l, .int 0 0] }).objs.size)))
        { s with heap := (s.heap.push { cls := .type "tuple_iterator", data := .fields #[.ref l, .int 0 0] }).push { cls := .type "enumerate", data := .fields #[.none, .bool false, .ref s.heap.objs.size, rawInt 0, .none, .none] } }) :=
  .of_wp fun prog w A R s h => by
    obtain ⟨hp, g, d, tk, os⟩ := s
    obtain ⟨hl, h⟩ := h
    have q0 := sub_enumerate
    have hL : Heap.IsTuple (Shared.heap ⟨hp, g, d, tk, os⟩) l us := hl
    obtain ⟨⟨c, dct, dt, sl⟩, e1, e2, n, e3⟩ := hl
    simp only at e2 e3
    subst e2 e3
    wp_walk using AutoSeq1.wpAny_loadPart' e1
    refine wpAny_stack_any fun st => wpAny_pure ?_
    split
    · rename_i c _ _ _ _ _
      cases (c == Value.type "enumerate")
      all_goals
        wp_walk using AutoSeq1.wpAny_loadPart' e1, wpAny_pyIter_tuple hL
        exact ⟨_, rfl, h⟩
    · wp_walk using AutoSeq1.wpAny_loadPart' e1, wpAny_pyIter_tuple hL
      exact ⟨_, rfl, h⟩
theorem call_enumT {l : Addr} {us : Array Value} {Q : Value → Shared → Prop} (ht : s.heap.IsTuple l us)
    (q : ∀ g, IsEnum g (s.heap.objs.size + 1) s.heap.objs.size 0 .none → g.IsTupleIter s.heap.objs.size l 0 → g.objs.size = s.heap.objs.size + 2 → (∀ b o, s.heap.get? b = some o → g.get? b = some o) → Q (.ref (s.heap.objs.size + 1)) { s with heap := g }) :
    wpAny (model prog w) A (call (.type "enumerate") [.ref l]) Q E s := by
  refine callType_new F.called_enumerate (by decide) (F.typeCall_enumerate_1 _) (F.newCall_enumerate_1 _) (fun ob => F.args_object_init_2 ob _) F.entry_enumerate_new (enumT_new l us) ⟨ht, ?_⟩
  obtain ⟨G, hG⟩ : ∃ G, G = s.heap.push { cls := .type "tuple_iterator", data := .fields #[.ref l, .int 0 0] } := ⟨_, rfl⟩
  have z : G.objs.size = s.heap.objs.size + 1 := by rw [hG]; exact Heap.size_push ..
  show _ ∧ _
  rw [← hG, z]
  have e1 := Heap.get?_push_size G (o := { cls := .type "enumerate", data := .fields #[.none, .bool false, .ref s.heap.objs.size, rawInt 0, .none, .none] }) rfl
  rw [z] at e1
  have i1 : G.IsTupleIter s.heap.objs.size l 0 := by rw [hG]; exact ⟨_, Heap.get?_push_size _ rfl, rfl, rfl⟩
  obtain ⟨o1, i2, i3⟩ := i1
  refine ⟨⟨_, e1, rfl⟩, q _ e1 ⟨o1, Heap.get?_push_of_some _ i2, i3⟩ (by rw [Heap.size_push, z]) fun b o x => Heap.get?_push_of_some _ (by rw [hG]; exact Heap.get?_push_of_some _ x)⟩
end
/-- at turn i: a new pair (i, the tuple's i-th) -/
def IteT (K : PySem.W.Frag) (a : Addr) : It :=
  ⟨fun i H => ∃ xs x, SqT K H a xs ∧ xs[i]? = some x, fun i H v H' => ∃ T x, H T = none ∧ v = .ref T ∧ H' = upd H T (.tup [.int i, x]) ∧ ∀ xs, SqT K H a xs → xs[i]? = some x, fun i H => ∃ xs, SqT K H a xs ∧ xs.length ≤ i⟩
theorem turn_enumT {P : Program} {w : World} {K : PySem.W.Frag} {elts : List Expr} {x1 : Nat} {pos : Pos} (a e it : Addr) (hne : e ≠ it) (hae : a ≠ e) (hai : a ≠ it) : Turn P w K (.Tuple elts x1 pos) (IteT K a) [e, it] e (fun i h => (∃ old, IsEnum h e it i old) ∧ h.IsTupleIter it a i) where
  mem := by simp
  obj := fun i h st b hb => by
    obtain ⟨⟨old, he⟩, o, eo, c, d⟩ := st
    rcases List.mem_cons.mp hb with z | hb
    · subst z
      exact ⟨_, he, fun v z => by
        have z' : Data.fields _ = Data.cell v := z
        cases z'⟩
    · have z : b = it := by simpa using hb
      subst z
      exact ⟨o, eo, fun v z => by rw [d] at z; cases z⟩
  keep := fun i h h' st k => by
    obtain ⟨⟨old, he⟩, o, ho, r⟩ := st
    exact ⟨⟨old, k e (by simp) _ he⟩, o, k it (by simp) o ho, r⟩
  item := by
    intro X hP hw hK hc i pins s σ H E I hf st hg
    subst hP hw hK
    obtain ⟨xs, x, hq, hx⟩ := hg
    obtain ⟨⟨old, he⟩, hit⟩ := st
    obtain ⟨its, rv, p, hz⟩ := I.tuple hq
    obtain ⟨u, hu, ru⟩ := rv.get hx
    obtain ⟨f0, f1, f2, f3, f4, f5⟩ := hf e (by simp)
    obtain ⟨g0, g1, g2, g3, g4, g5⟩ := hf it (by simp)
    have hT0 : H s.heap.objs.size = none := I.hok.fresh (Nat.le_refl _)
    have hlt : i < its.toArray.size := by simpa using (List.getElem?_eq_some_iff.mp hu).1
    have pT : s.heap.IsTuple a its.toArray := isTup_tuple p
    refine wpAny_pyNext_enum_itemD (drawsT (A := X.A.in1) (by simpa using I.ok.hd hc) it a hai its.toArray) he ⟨hit, pT⟩ hlt hne (by simp [hne, Ne.symm hae]) fun x' h' tk hx' ho st' hT hsz hk => ?_
    have ex' : x' = u := by
      have e1 : its.toArray[i]? = some u := by simpa using hu
      have e2 : its.toArray[i]? = some x' := hx'
      rw [e1] at e2
      exact (Option.some.inj e2).symm
    subst ex'
    have ltT : ∀ b ob, s.heap.get? b = some ob → b ≠ s.heap.objs.size := fun b ob z => Nat.ne_of_lt (Heap.lt_size z)
    have ltH : ∀ b ob, H b = some ob → b ≠ s.heap.objs.size := fun b ob z => Nat.ne_of_lt (I.hok.lt z)
    have nof : ∀ b ob, H b = some ob → b ≠ e ∧ b ≠ it := fun b ob z => ⟨fun q => (by rw [q, f0] at z; cases z), fun q => (by rw [q, g0] at z; cases z)⟩
    have I1 : Inv X pins σ (upd H s.heap.objs.size (.tup [.int i, x])) { s with heap := h', toks := tk + 1 } := by
      refine I.step (g' := s.gens) (d' := s.drawn) (ch := [e, it]) (fun b hb => ?_) (fun b o _ _ hcx z _ => hk b o (fun q => hcx (by simp [q])) (fun q => hcx (by simp [q])) z) (fun b o _ _ hcx z _ => ⟨o.slots, hk b o (fun q => hcx (by simp [q])) (fun q => hcx (by simp [q])) z⟩)
        (fun b o _ z n => by rw [upd_ne (ltT b o z)]; exact n) (fun b o hcx z => ⟨o, hk b o (fun q => hcx (by simp [q])) (fun q => hcx (by simp [q])) z⟩) (fun b ys z => by rw [upd_ne (ltH b _ z)]; exact z) (fun b o v z => by rw [upd_ne (ltH b _ z)]; exact z)
        (fun b ps z => ⟨#[], by rw [upd_ne (ltH b _ z), z]; simp⟩) (fun m hm => ?_) (fun b v z => ?_) I.bare
      · rcases List.mem_cons.mp hb with q | hb
        · rw [q]; exact ⟨f3, f1, f4, f5⟩
        · have q : b = it := by simpa using hb
          rw [q]; exact ⟨g3, g1, g4, g5⟩
      · obtain ⟨o, es, ep, ho', r⟩ := hm
        exact ⟨o, es, ep, hk _ o (Ne.symm f1) (Ne.symm g1) ho', r⟩
      · by_cases hb : b = s.heap.objs.size
        · subst hb
          rw [upd_same] at z
          cases z
          exact ⟨by show 2 ≤ sizeLine; decide, [.int i tk, x'], .cons ⟨_, rfl⟩ (.cons ru .nil), ⟨_, hT, rfl, _, rfl⟩⟩
        · rw [upd_ne hb] at z
          refine (I.hok b v z).stay (fun c w' hc' q => ?_) (fun c q => by rw [upd_ne (ltH c _ q)]; exact q) fun c ys q => by rw [upd_ne (ltH c _ q)]; exact q
          rcases hc' with rfl | hc'
          · exact hk c w' (nof c _ z).1 (nof c _ z).2 q
          · exact hk c w' (nof c _ hc').1 (nof c _ hc').2 q
    refine ⟨_, rfl, wpAny_letOwnedTupleGo_enum ho fun h2 he2 hs2 => ?_⟩
    have fT : e ≠ s.heap.objs.size := ltT e _ he
    have I2 : Inv X pins σ (upd H s.heap.objs.size (.tup [.int i, x])) { s with heap := h2, toks := tk + 1 } := Inv.turned (s := { s with heap := h', toks := tk + 1 }) (h' := h2) (t' := tk + 1) (it := e) I1 (fun b o hb z => hs2.extBut b o hb z) (by rw [upd_ne fT]; exact f0) f1 f3 f4 f5
    refine ⟨.ref s.heap.objs.size, _, I2, rfl, ⟨_, x, hT0, rfl, rfl, fun ys hy => by rw [I.tuple_inj hy hq]; exact hx⟩, ⟨⟨x', by simpa using he2⟩, st'.1.extBut hs2.extBut (Ne.symm hne)⟩, fun b hb => ?_⟩
    rcases List.mem_cons.mp hb with q | hb
    · rw [q, upd_ne fT]; exact f0
    · have q : b = it := by simpa using hb
      obtain ⟨o, eo, _⟩ := hit
      rw [q, upd_ne (ltT it o eo)]; exact g0
  done := by
    intro X hP hw hK hc i pins s σ H E I hf st hg
    subst hP hw hK
    obtain ⟨xs, hq, hx⟩ := hg
    obtain ⟨⟨old, he⟩, hit⟩ := st
    obtain ⟨its, rv, p, hz⟩ := I.tuple hq
    obtain ⟨g0, g1, g2, g3, g4, g5⟩ := hf it (by simp)
    have hl := rv.length
    have hT : s.TypeIs (.ref e) "enumerate" := ⟨_, he, rfl⟩
    unfold pyNext
    refine wpAny_bind (wpAny_attempt (wpAny_callSpecial?_slot (name := Str.ofString "__next__") hT F.slot_enumerate_next (wpAny_call_entry F.slot_enumerate_next hT F.entry_enumerate_next ?_ (F.args_enumerate_next_1 _))))
    show wpAny _ _ (field (.ref e) 2 >>= _) _ _ _
    refine wpAny_bind (wpAny_field he rfl (x := .ref it) rfl (wpAny_bind (nxT_end (by simpa using I.ok.hd hc) hit (isTup_tuple p) (by simp; omega) fun h' x he' ⟨o, ho, hcl⟩ => wpAny_bind (wpAny_isInstance (T := "StopIteration") (b := true) ⟨o, ho, hcl⟩ isSubtype_stop (wpAny_pure ?_)))))
    exact ⟨rfl, I.turned (t' := s.toks) (it := it) (fun b o hb z => he' b o hb z) g0 g1 g3 g4 g5⟩
  self := fun _ _ _ _ _ st h => let ⟨⟨_, he⟩, _⟩ := st; wpAny_pyIter_enum he h
/-- of a list (false) or a tuple (true) -/
def IteQ (kd : Bool) (K : PySem.W.Frag) (a : Addr) : It := match kd with
  | false => Ite K a
  | true => IteT K a
def iEnumQ (K : PySem.W.Frag) (ta : TA) : TI := fun σ H R => ta σ H fun vs H1 => ∃ a kd, vs = [.ref a] ∧ (∃ xs, My.SqK kd K H1 a xs) ∧ R (IteQ kd K a) H1
section
variable {X : Cx}
theorem pi_enumQ (K : PySem.W.Frag) {elts : List Expr} {x1 : Nat} {tpos : Pos} {a : Expr} {ta : TA} {p pos : Pos} (hg : Gl X "enumerate") (hm : X.mg "enumerate" = none) (ha : PA X [a] ta) (hs : starEach [a] X.env = [(false, eval a X.env)] := by rfl) (hk : X.K = K := by rfl) :
    PI X (.Tuple elts x1 tpos) (.Call (.Name "enumerate" p) [a] [] pos) (iEnumQ K ta) := by
  subst hk
  intro pins s σ H R I h
  refine Call_ (ld_blt I hg hm Boot.«enumerate» (PyProof.Rows.callWith_type1 (thn (ha pos pins s σ H _ I h) fun us s1 ⟨vs, H1, I1, r1, q1⟩ => ?_) hs rfl))
  obtain ⟨b, kd, e, ⟨xs, hq⟩, q⟩ := q1
  subst e
  obtain ⟨u, rfl, ru⟩ := vals1 r1
  obtain rfl : u = Value.ref b := ru
  have nn : ∀ k, s1.heap.objs.size ≤ k → H1 k = none := fun k hk => I1.hok.fresh hk
  have fin : ∀ c ∈ [s1.heap.objs.size + 1, s1.heap.objs.size], s1.heap.objs.size ≤ c := fun c hc => by
    rcases List.mem_cons.mp hc with q | hc
    · rw [q]; exact Nat.le_succ _
    · have q : c = s1.heap.objs.size := by simpa using hc
      rw [q]; exact Nat.le_refl _
  cases kd with
  | false =>
    obtain ⟨its, rv, pl, hz⟩ := I1.list hq
    refine call_enumerate_list pl.isList fun h' he hit hsz hk => ?_
    have I2 : Inv X pins σ H1 { s1 with heap := h' } := I1.kept (t' := s1.toks) hk
    refine wpAny_pyIter_enum he ⟨s1.heap.objs.size + 1, [s1.heap.objs.size + 1, s1.heap.objs.size], _, _, H1, rfl, I2, turn_enum b _ _ (Nat.succ_ne_self _), ⟨⟨_, he⟩, hit⟩, fun c hc => ?_, q⟩
    exact I1.fpOk (fin c hc) (nn c (fin c hc))
  | true =>
    obtain ⟨its, rv, pl, hz⟩ := I1.tuple hq
    have pT : s1.heap.IsTuple b its.toArray := isTup_tuple pl
    have ltb : b < s1.heap.objs.size := let ⟨_, e, _⟩ := pT; Heap.lt_size e
    refine call_enumT pT fun h' he hit hsz hk => ?_
    have I2 : Inv X pins σ H1 { s1 with heap := h' } := I1.kept (t' := s1.toks) hk
    refine wpAny_pyIter_enum he ⟨s1.heap.objs.size + 1, [s1.heap.objs.size + 1, s1.heap.objs.size], _, _, H1, rfl, I2, turn_enumT b _ _ (Nat.succ_ne_self _) (Nat.ne_of_lt (Nat.lt_succ_of_lt ltb)) (Nat.ne_of_lt ltb), ⟨⟨_, he⟩, hit⟩, fun c hc => ?_, q⟩
    exact I1.fpOk (fin c hc) (nn c (fin c hc))
end
end L2

/-! ## set(tuple of ints); sorted(set(list or tuple)) -/
namespace L2
open PySem PySem.Spec PyProof.Rows
section
variable {prog : Program} {w : World} {A : Around} {E : Value → Shared → Prop} {s : Shared}
theorem ris_initT {l : Addr} {items : Array Value} {ns : List Int} {h0 : Heap} {b : Addr} {Q : Value → Shared → Prop} (hh : A.handled = none) (hb0 : h0.get? b = some (freshO w)) (hl : h0.IsTuple l items) (hne : l ≠ b) (hi : IntsAre items.toList ns) (hn : items.size + 1 < scanBound)
    (k : ∀ h' tk, SetR prog w h' b (!w.params.followText "set-order") (fun z => (firstMet (fun i => ns.getD i 0) items.size).any (· == z)) (firstMet (fun i => ns.getD i 0) items.size).length → (∀ c o, c ≠ b → h0.get? c = some o → h'.get? c = some o) → Q .none { s with heap := h', toks := tk }) :
    wpAny (model prog w) A.in1 (Builtin.«set.__init__» ⟨[.ref b, .ref l], []⟩) (fun fin s' => match fin with | .done f => wants Q E (.ok f) s' | .again c' => c'.quiet = true ∧ codeAny (model prog w) A c' (wants Q E) s') (fun e s' => wants Q E (.error e) s') { s with heap := h0 } := by
  have hT : Shared.TypeIs { s with heap := h0 } (.ref b) "set" := ⟨_, hb0, rfl⟩
  have hl0 := hl
  obtain ⟨⟨ocls, odict, odata, oslots⟩, hol, hcl, nl, hdl⟩ := hl
  simp only at hcl hdl
  subst hcl hdl
  have q1 := F.sub_tuple_set
  have q2 := F.sub_tuple_frozenset
  have q3 : (Value.type "tuple" == Value.type "dict") = false := by decide
  unfold freshO at hb0
  unfold Builtin.«set.__init__» noKeywords Builtin.Frozenset.updateFrom
  generalize hPI : pyIter = PI
  wp_walk
  subst hPI
  refine wpAny_pyIter_tuple hl0 ?_
  refine wpAny_bind (wpAny_runValue ?_)
  have ltl : l < h0.objs.size := Heap.lt_size hol
  have ltb : b < h0.objs.size := Heap.lt_size hb0
  have bf : b ∉ [h0.objs.size, l] := fun q => by
    rcases List.mem_cons.mp q with e | e
    · exact Nat.ne_of_lt ltb e
    · exact hne (List.mem_singleton.mp e).symm
  refine loop_ris ((Walks.tuple (A := A.in1.in1) (by simp [hh]) _ l (Nat.ne_of_lt ltl) items).toS) b bf (led := !w.params.followText "set-order") (fun i => ns.getD i 0) (fun i v hv => IntsAre.int_at hi i v (by rw [Array.getElem?_toList]; exact hv)) hn (items.size - 0) 0 _ (by omega) (Nat.zero_le _)
    ⟨⟨_, Heap.get?_push_size _ rfl, rfl, rfl⟩, hl0.push _⟩ ?_ ?_
  · exact ris_fresh (Heap.get?_push_of_some _ hb0)
  · rintro ⟨h', g', d', tk', os'⟩ m hS
    have e1 : g' = s.gens := m.gens
    have e2 : d' = s.drawn := m.drawn
    have e3 : os' = s.os := m.os
    subst e1 e2 e3
    show wpAny _ _ _ _ _ _
    refine wpAny_pure ?_
    show wpAny _ _ (ret Value.none) _ _ _
    refine wpAny_pure (k h' tk' hS fun c o hc e => m.heap c o (fun q => ?_) (Heap.get?_push_of_some _ e))
    rcases List.mem_cons.mp q with e' | e'
    · exact hc e'
    · exact Nat.ne_of_lt (Heap.lt_size e) (List.mem_singleton.mp e')
set_option maxRecDepth 100000 in
set_option maxHeartbeats 3000000 in
theorem set_risT {l : Addr} {items : Array Value} {ns : List Int} {Q : Value → Shared → Prop} (hh : A.handled = none) (hl : s.heap.IsTuple l items) (hi : IntsAre items.toList ns) (hn : items.size + 1 < scanBound)
    (k : ∀ h' tk, SetR prog w h' s.heap.objs.size (!w.params.followText "set-order") (fun z => (firstMet (fun i => ns.getD i 0) items.size).any (· == z)) (firstMet (fun i => ns.getD i 0) items.size).length → (∀ c o, s.heap.get? c = some o → h'.get? c = some o) → Q (.ref s.heap.objs.size) { s with heap := h', toks := tk }) :
    wpAny (model prog w) A (call (.type "set") [.ref l]) Q E s := by
  obtain ⟨c, tl, hmro⟩ := F.called_set.mro
  have a1 := F.called_set.made
  have a2 := F.called_set.sub
  have a3 := F.called_set.notType
  have a4 := F.called_set.canCreate
  have a5 := F.typeCall_set_1 (.ref l)
  refine wpAny_call (codeAny_of_tree ?_)
  show wpAny _ _ (callAny (.type "set") _) _ _ _
  refine wpAny_pure ⟨Code.quiet_builtin _ (by decide +kernel), codeAny_builtin F.entry_type_call ?_⟩
  rw [Around.under_plain (weight_type_call_type "set" [.ref l] []) rfl]
  repeat any_goals first | assumption | wp_step
  refine codeAny_mono (new_ris (.ref l) (E := E) (Q := fun ob s1 => ob = .ref s.heap.objs.size ∧ s1 = { s with heap := s.heap.push (freshO w) }) ⟨rfl, rfl⟩) fun r s1 hr => ?_
  match r, hr with
  | .error e, hr => exact hr
  | .ok (.ret ob), hr =>
    obtain ⟨rfl, rfl⟩ := hr
    have hb0 : (s.heap.push (freshO w)).get? s.heap.objs.size = some (freshO w) := Heap.get?_push_size _ rfl
    have hT : Shared.TypeIs { s with heap := s.heap.push (freshO w) } (.ref s.heap.objs.size) "set" := ⟨_, hb0, rfl⟩
    have a6 := F.called_set.init.lookup
    have a7 := F.called_set.init.bind (.ref s.heap.objs.size)
    repeat any_goals first | assumption | wp_step
    have ltl : l < s.heap.objs.size := let ⟨_, e, _⟩ := hl; Heap.lt_size e
    refine codeAny_mono (codeAny_call_builtin (R := wants (fun r s2 => r = .none ∧ Q (.ref s.heap.objs.size) s2) E) F.called_set.init.plain F.entry_set_init (check_set_init_1 hT (ris_initT (A := _) (s := s) ?_ hb0 (hl.push _) (Nat.ne_of_lt ltl) hi hn fun h' tk hS kp => ⟨rfl, k h' tk hS fun c o e => kp c o (Nat.ne_of_lt (Heap.lt_size e)) (Heap.get?_push_of_some _ e)⟩))) fun r2 s2 hr2 => ?_
    · simp [hh]
    · match r2, hr2 with
      | .error e, hr2 => exact hr2
      | .ok (.ret v), hr2 =>
        obtain ⟨rfl, q⟩ := hr2
        repeat any_goals first | assumption | wp_step
theorem set_risQ {l : Addr} {items : Array Value} {ns : List Int} {Q : Value → Shared → Prop} (hh : A.handled = none) (hl : s.heap.IsList l items ∨ s.heap.IsTuple l items) (hi : IntsAre items.toList ns) (hn : items.size + 1 < scanBound)
    (k : ∀ h' tk, SetR prog w h' s.heap.objs.size (!w.params.followText "set-order") (fun z => (firstMet (fun i => ns.getD i 0) items.size).any (· == z)) (firstMet (fun i => ns.getD i 0) items.size).length → (∀ c o, s.heap.get? c = some o → h'.get? c = some o) → Q (.ref s.heap.objs.size) { s with heap := h', toks := tk }) :
    wpAny (model prog w) A (call (.type "set") [.ref l]) Q E s := by
  rcases hl with h | h
  · exact set_ris hh h hi hn k
  · exact set_risT hh h hi hn k
end
section
variable {X : Cx} {p p2 pos pos2 : Pos} {e : Expr} {t : TA}
/-- sorted(set(e)), e a list or a tuple of ints -/
def tSortedSetQ (K : PySem.W.Frag) (t : TA) : TE := fun σ H Q => t σ H fun vs H1 => ∃ (kd : Bool) (a : Addr) (ns : List Int), vs = [.ref a] ∧ My.SqK kd K H1 a (ns.map V.int) ∧ ns.length < 64 ∧ ∀ ms : List Int, ms.Pairwise (· < ·) → (∀ z, z ∈ ms ↔ z ∈ ns) → ∀ l, H1 l = none → Q (.ref l) (upd H1 l (.lst (ms.map V.int)))
theorem pe_sortedSetQ (K : PySem.W.Frag) (hc : X.calm = true) (g1 : Gl X "sorted") (m1 : X.mg "sorted" = none) (g2 : Gl X "set") (m2 : X.mg "set" = none) (ha : PA X [e] t) (hk : X.K = K := by rfl)
    (he : starEach [e] X.env = [(false, eval e X.env)] := by rfl)
    (he2 : starEach [.Call (.Name "set" p2) [e] [] pos2] X.env = [(false, eval (.Call (.Name "set" p2) [e] [] pos2) X.env)] := by rfl) :
    PE X (.Call (.Name "sorted" p) [.Call (.Name "set" p2) [e] [] pos2] [] pos) (tSortedSetQ K t) := by
  subst hk
  intro pins s σ H Q I h
  refine wpAny_Call_Name_kw (ld_blt I g1 m1 Boot.«sorted» ?_)
  refine PyProof.Rows.callWith_builtin1 ?_ (by rw [he2]; rfl) rfl
  rw [he2]
  show wpAny _ _ (spliced ((false, eval (.Call (.Name "set" p2) [e] [] pos2) X.env) :: backTo pos [])) _ _ s
  refine Calls.spliced_cons ?_
  refine wpAny_Call_Name_kw (ld_blt I g2 m2 Boot.«set» ?_)
  refine PyProof.Rows.callWith_type1 (thn (ha pos2 pins s σ H _ I h) fun us s1 ⟨vs, H1, I1, r1, q1⟩ => ?_) (by rw [he]; rfl) rfl
  obtain ⟨kd, a, ns, rfl, hq, hn, q⟩ := q1
  obtain ⟨u, rfl, ru⟩ := vals1 r1
  obtain rfl : u = Value.ref a := ru
  obtain ⟨its, rv, pl, hz⟩ : ∃ its : List Value, Vals (ns.map V.int) its ∧ (s1.heap.IsList a its.toArray ∨ s1.heap.IsTuple a its.toArray) ∧ (ns.map V.int).length ≤ sizeLine := by
    cases kd with
    | false =>
      obtain ⟨its, rv, pl, hz⟩ := I1.list hq
      exact ⟨its, rv, .inl pl.isList, hz⟩
    | true =>
      obtain ⟨its, rv, pl, hz⟩ := I1.tuple hq
      exact ⟨its, rv, .inr (isTup_tuple pl), hz⟩
  have hi := ints_of_vals rv
  have el : its.toArray.size = ns.length := by rw [List.size_toArray, ← rv.length, List.length_map]
  have sb : scanBound = 4096 := rfl
  refine set_risQ (I.ok.hd hc) pl (ns := ns) (by simpa using hi) (by omega) fun h2 tk hS kp => ?_
  refine Calls.spliced_nil ?_
  have fl := firstMet_length_le (fun i => ns.getD i 0) its.toArray.size
  refine sorted_set (led := true) (s := { s1 with heap := h2, toks := tk }) (I.ok.hd hc) hS (by omega) fun ms out r h3 tk3 d c hI hs hl hmem hge hr kp3 => ?_
  have em : ∀ z, z ∈ ms ↔ z ∈ ns := fun z => by
    rw [hmem, firstMet_any, el]
    have e1 : (List.range ns.length).map (fun i => ns.getD i 0) = ns := by
      refine List.ext_getElem? fun i => ?_
      rw [List.getElem?_map]
      by_cases c : i < ns.length
      · rw [List.getElem?_range c, List.getElem?_eq_getElem c, Option.map_some, List.getD_eq_getElem?_getD, List.getElem?_eq_getElem c]
        rfl
      · rw [List.getElem?_eq_none (by rw [List.length_range]; omega), List.getElem?_eq_none (by omega)]
        rfl
    rw [e1]
    simp
  have hnd : ms.Nodup := (perm_of_len (seen_nodup _ _) hl fun x hx => (hmem x).mpr (List.any_eq_true.mpr ⟨x, hx, by simp⟩)).nodup_iff.mpr (seen_nodup _ _)
  have hlt : s1.heap.objs.size ≤ h2.objs.size := let ⟨_, _, _, _, e, _⟩ := hS; Nat.le_of_lt (Heap.lt_size e)
  have hge2 : s1.heap.objs.size ≤ r := Nat.le_trans hlt hge
  have hml : ms.length ≤ ns.length := by rw [hl, ← el]; exact fl
  have I2 := (I1.laid (o := .lst (ms.map V.int)) (h' := h3) (t' := tk3) (fun b o e => kp3 b o (kp b o e)) hge2 ⟨by rw [List.length_map]; have : sizeLine = 16777216 := sizeLine_eq; omega, out, c, vals_of_ints hI, hr⟩).drew d
  exact ⟨.ref r, _, I2, rfl, q ms (My.srt_strict hs hnd) em r (I1.hok.fresh hge2)⟩
end
end L2

/-! ## loops over enumerate of a list or a tuple; t < u of any two tuples; min of a list of pairs (int, tuple of ints) -/
namespace My
open PySem L2
section
variable {K : PySem.W.Frag} {kd : Bool} {a : Addr} {xs : List V} {g : TG} {tt : TT} {te : TE} {o : Nat} {fr : List Nat} {σ : St} {H : Hp} {Q : VK}
theorem lc_enumQ (Pv : Nat → List V → Hp → Prop) (h0 : Pv 0 [] H) (hz : xs.length < sizeLine) (hl : ∀ i ys H, i ≤ xs.length → Pv i ys H → SqK kd K H a xs ∧ ys.length ≤ i)
    (hs : ∀ (i : Nat) x ys H (p : Addr), H p = none → xs[i]? = some x → Pv i ys H → LcTurn Pv g tt te o fr σ i (.ref p) ys (upd H p (.tup [.int i, x]))) (hd : ∀ ys H, Pv xs.length ys H → ∀ p, H p = none → Q (.ref p) (upd H p (.lst ys))) : LcR (IteQ kd K a) g tt te o fr σ H Q := by
  cases kd with
  | false => exact lc_enum Pv h0 hz hl hs hd
  | true =>
    refine ⟨fun i m ys H => m = xs.length - i ∧ i ≤ xs.length ∧ Pv i ys H, ⟨xs.length, by simp, Nat.zero_le _, h0⟩, ?_⟩
    rintro i m ys H ⟨rfl, hi, p⟩
    obtain ⟨q, hy⟩ := hl i ys H hi p
    have q : SqT K H a xs := q
    by_cases hlt : i < xs.length
    · refine .inr ⟨⟨xs, xs[i], q, by simp [hlt]⟩, by omega, fun x H' ⟨T, y, hT, ex, eH, hyy⟩ => ?_⟩
      subst ex eH
      exact hs i y ys H T hT (hyy xs q) p (fun j ys H => ∃ m', m' < xs.length - i ∧ m' = xs.length - j ∧ j ≤ xs.length ∧ Pv j ys H) fun ys H p' => ⟨xs.length - (i + 1), by omega, rfl, hlt, p'⟩
    · have e : i = xs.length := by omega
      subst e
      exact .inl ⟨⟨xs, q, Nat.le_refl _⟩, by omega, hd ys H p⟩
end
end My
namespace HT
open PySem PyProof.Rows
section
open PySem.SeqAt
open PySem.AutoSeq1 (wpAny_loadPart')
open PySem.MeetsSeq PySem.MeetsSeq2 PySem.MeetsSeq3
/-- t < u by the first place where they differ, d, or by the lengths -/
theorem tuple_ltAt (l b : Addr) (xs ys : Array Value) (n n2 : Nat) (dd dd2 : Option Addr) (sl sl2 : Array (Option Value)) (d : Nat) (r : Bool) (hd0 : d ≤ min xs.size ys.size) :
    Meets (Builtin.«tuple.__lt__» ⟨[.ref l, .ref b], []⟩)
      (fun A R s => s.heap.get? l = some { cls := .type "tuple", dict := dd, data := .seq xs n, slots := sl } ∧ s.heap.get? b = some { cls := .type "tuple", dict := dd2, data := .seq ys n2, slots := sl2 } ∧
        (∀ j (h1 : j < xs.size) (h2 : j < ys.size), j ≤ d → EqAt A.in1 s xs[j] ys[j] (decide (j ≠ d))) ∧
        (∀ (h1 : d < xs.size) (h2 : d < ys.size) (prog : Program) (w : World) (E : Value → Shared → Prop) (Q : Value → Shared → Prop), Q (.bool r) s → wpAny (model prog w) A.in1 (richCompare .Lt xs[d] ys[d]) Q E s) ∧
        (d = min xs.size ys.size → r = decide (xs.size < ys.size)) ∧ R (.ok (.ret (.bool r))) s) :=
  .of_wp fun prog w A R s h => by
    obtain ⟨hp, g, d1, tk, os⟩ := s
    obtain ⟨hl, hb, he, hlt, hfin, h⟩ := h
    have f2 := AutoSeq1.sub_tuple_tuple
    have hZ : (xs.toList.zip ys.toList).length = min xs.size ys.size := by simp
    wp_walk using wpAny_loadPart' hl, wpAny_loadPart' hb, wpAny_forIn_list _ (fun rest b s' => b.1 = none ∧ s' = ⟨hp, g, d1, tk, os⟩ ∧ ∃ i, i ≤ d ∧ rest = (xs.toList.zip ys.toList).drop i) _
    case turn =>
      rintro ⟨y, x⟩ rest b s' ⟨hb', rfl, i, hid, hz⟩
      have hi : i < (xs.toList.zip ys.toList).length := by
        rcases Nat.lt_or_ge i (xs.toList.zip ys.toList).length with q | q
        · exact q
        · rw [List.drop_of_length_le q] at hz; cases hz
      have hm : i < min xs.size ys.size := hZ ▸ hi
      have h1 : i < xs.size := Nat.lt_of_lt_of_le hm (Nat.min_le_left _ _)
      have h2 : i < ys.size := Nat.lt_of_lt_of_le hm (Nat.min_le_right _ _)
      rw [List.drop_eq_getElem_cons hi] at hz
      injection hz with hyx hrest
      have hy : y = xs[i] := by have := congrArg Prod.fst hyx; simpa using this
      have hx : x = ys[i] := by have := congrArg Prod.snd hyx; simpa using this
      subst hy hx
      refine wpAny_bind (he i h1 h2 hid prog w _ _ ?_)
      by_cases c : i = d
      · subst c
        rw [decide_eq_false (by simp)]
        have hri := hlt h1 h2 prog w
        wp_walk using hri
        exact ⟨_, rfl, by simpa using h⟩
      · rw [decide_eq_true c]
        wp_walk
        exact ⟨rfl, rfl, i + 1, by omega, hrest⟩
    case fin =>
      rintro ⟨b1, b2⟩ s' ⟨hb', rfl, i, hid, hz⟩
      simp only at hb'
      subst hb'
      have hge : min xs.size ys.size ≤ i := by
        rcases Nat.lt_or_ge i (xs.toList.zip ys.toList).length with q | q
        · rw [List.drop_eq_getElem_cons q] at hz; cases hz
        · exact hZ ▸ q
      rw [hfin (by omega)] at h
      wp_walk
      exact ⟨_, rfl, by simpa [Builtin.Tuple.tupleCompareSizes] using h⟩
    case h => exact ⟨rfl, rfl, 0, Nat.zero_le _, rfl⟩
end
section
variable {prog : Program} {w : World} {A : Around} {E : Value → Shared → Prop} {s : Shared}
theorem lt_tupAt {l b : Addr} {xs ys : Array Value} {d : Nat} {r : Bool} {Q : Value → Shared → Prop} (hl : IsTup s.heap l xs) (hb : IsTup s.heap b ys) (hd0 : d ≤ min xs.size ys.size) (hu : A.units < cLine)
    (he : ∀ j (h1 : j < xs.size) (h2 : j < ys.size), j ≤ d → SeqAt.EqAt A.in1 s xs[j] ys[j] (decide (j ≠ d)))
    (hlt : ∀ (h1 : d < xs.size) (h2 : d < ys.size) (prog : Program) (w : World) (E : Value → Shared → Prop) (Q : Value → Shared → Prop), Q (.bool r) s → wpAny (model prog w) A.in1 (richCompare .Lt xs[d] ys[d]) Q E s)
    (hfin : d = min xs.size ys.size → r = decide (xs.size < ys.size)) (h : Q (.bool r) s) : wpAny (model prog w) A (compareOp .Lt (.ref l) (.ref b)) Q E s := by
  obtain ⟨⟨cls, dd, data, sl⟩, ho, hc, n, hd⟩ := id hl
  obtain ⟨⟨cls2, dd2, data2, sl2⟩, ho2, hc2, n2, hd2⟩ := id hb
  simp only at hc hd hc2 hd2
  subst hc hd hc2 hd2
  exact richCompare_meets_room (op := .Lt) ⟨_, ho, rfl⟩ ⟨_, ho2, rfl⟩ PySem.F.slot_tuple_lt PySem.F.entry_tuple_lt (PySem.F.args_tuple_lt_2 _ _) (tuple_ltAt l b xs ys n n2 dd dd2 sl sl2 d r hd0)
    ⟨ho, ho2, he, hlt, hfin, show Value.bool r ≠ Value.notImplemented ∧ Q (.bool r) s from ⟨(fun x => nomatch x), h⟩⟩ hu
/-- two tuples of ints, alike or not -/
theorem eqAt_ints {l b : Addr} {xs ys : Array Value} {ns ms : List Int} (hl : IsTup s.heap l xs) (hb : IsTup s.heap b ys) (hi : IntsAre xs.toList ns) (hj : IntsAre ys.toList ms) (hu : A.units < cLine) : SeqAt.EqAt A s (.ref l) (.ref b) (decide (ns = ms)) := by
  have z1 : xs.size = ns.length := by rw [← hi.length]; simp
  have z2 : ys.size = ms.length := by rw [← hj.length]; simp
  by_cases hab : l = b
  · subst hab
    obtain ⟨o1, e1, _, n1, d1⟩ := hl
    obtain ⟨o2, e2, _, n2, d2⟩ := hb
    rw [e1] at e2
    cases e2
    rw [d1] at d2
    cases d2
    have en : ns = ms := L2.ints_uniq hi hj
    rw [decide_eq_true en]
    exact SeqAt.EqAt.same _
  · have k := SeqAt.RcAt.tuples (A := A) (s := s) (e := fun j => ns.getD j 0 == ms.getD j 0) (L2.isTup_tuple hl) (L2.isTup_tuple hb) hu fun j h1 h2 => by
      obtain ⟨t, ea⟩ := IntsAre.int_at hi j xs[j] (by simp [h1])
      obtain ⟨u, ec⟩ := IntsAre.int_at hj j ys[j] (by simp [h2])
      rw [ea, ec]
      exact SeqAt.EqAt.int_int _ _ _ _
    have e : ((List.range (min xs.size ys.size)).all (fun j => ns.getD j 0 == ms.getD j 0) && xs.size == ys.size) = decide (ns = ms) := by
      rw [z1, z2, Bool.eq_iff_iff, Bool.and_eq_true, List.all_eq_true, decide_eq_true_iff]
      constructor
      · rintro ⟨q1, q2⟩
        have q2 : ns.length = ms.length := by simpa using q2
        refine List.ext_getElem? fun j => ?_
        by_cases c : j < ns.length
        · have := q1 j (List.mem_range.mpr (by omega))
          rw [List.getD_eq_getElem?_getD, List.getD_eq_getElem?_getD, List.getElem?_eq_getElem c, List.getElem?_eq_getElem (by omega)] at this
          have := eq_of_beq this
          rw [List.getElem?_eq_getElem c, List.getElem?_eq_getElem (by omega)]
          exact congrArg some this
        · rw [List.getElem?_eq_none (by omega), List.getElem?_eq_none (by omega)]
      · rintro rfl
        exact ⟨fun j _ => by simp, by simp⟩
    rw [e] at k
    exact SeqAt.EqAt.of_refs hab k
/-- (a, t, ..) < (c, u, ..) -/
def ltP (x y : Int × List Int) : Bool := decide (x.1 < y.1) || (decide (x.1 = y.1) && lexLt x.2 y.2)
theorem lt_pair {l b p q : Addr} {a c : Int} {t u : Tok} {r1 r2 : List Value} {xs ys : Array Value} {ns ms : List Int} {Q : Value → Shared → Prop} (hl : IsTup s.heap l (.int a t :: .ref p :: r1).toArray) (hb : IsTup s.heap b (.int c u :: .ref q :: r2).toArray)
    (hp : IsTup s.heap p xs) (hq : IsTup s.heap q ys) (hi : IntsAre xs.toList ns) (hj : IntsAre ys.toList ms) (hr : a = c → ns = ms → r1 = [] ∧ r2 = []) (hu : A.units + 2 < cLine) (h : Q (.bool (ltP (a, ns) (c, ms))) s) : wpAny (model prog w) A (compareOp .Lt (.ref l) (.ref b)) Q E s := by
  have u1 : A.units < cLine := by omega
  have u2 : A.in1.units < cLine := by show A.units + 1 < cLine; omega
  by_cases c1 : a = c
  · subst c1
    by_cases c2 : ns = ms
    · obtain ⟨rfl, rfl⟩ := hr rfl c2
      have e : ltP (a, ns) (a, ms) = false := by
        subst c2
        show (decide (a < a) || (decide (a = a) && lexLt ns ns)) = false
        rw [My.lex_irrefl]
        simp
      refine lt_tupAt (d := 2) (r := ltP (a, ns) (a, ms)) hl hb (by simp) u1 (fun j h1 h2 hj' => ?_) (fun h1 => absurd h1 (by simp)) (fun _ => by rw [e]; simp) h
      match j, h1, h2, hj' with
      | 0, _, _, _ => exact (show SeqAt.EqAt A.in1 s (.int a t) (.int a u) true from by have := SeqAt.EqAt.int_int (A := A.in1) (s := s) a t a u; simpa using this)
      | 1, _, _, _ => exact (show SeqAt.EqAt A.in1 s (.ref p) (.ref q) true from by have := eqAt_ints (A := A.in1) hp hq hi hj u2; rwa [decide_eq_true c2] at this)
      | j + 2, h1, _, _ => exact absurd h1 (by simp)
    · have e : ltP (a, ns) (a, ms) = lexLt ns ms := by
        show (decide (a < a) || (decide (a = a) && lexLt ns ms)) = _
        simp
      rw [e] at h
      refine lt_tupAt (d := 1) (r := lexLt ns ms) hl hb (by simp) u1 (fun j h1 h2 hj' => ?_) (fun h1 h2 prog w E Q hq' => ?_) (fun z => absurd z (by simp)) h
      · match j, h1, h2, hj' with
        | 0, _, _, _ => exact (show SeqAt.EqAt A.in1 s (.int a t) (.int a u) true from by have := SeqAt.EqAt.int_int (A := A.in1) (s := s) a t a u; simpa using this)
        | 1, _, _, _ => exact (show SeqAt.EqAt A.in1 s (.ref p) (.ref q) false from by have := eqAt_ints (A := A.in1) hp hq hi hj u2; rwa [decide_eq_false c2] at this)
        | j + 2, _, _, z => omega
      · exact (show wpAny (model prog w) A.in1 (compareOp .Lt (.ref p) (.ref q)) Q E s from lt_tupInts hp hq hi hj u2 hq')
  · have e : ltP (a, ns) (c, ms) = decide (a < c) := by
      show (decide (a < c) || (decide (a = c) && lexLt ns ms)) = _
      simp [c1]
    rw [e] at h
    refine lt_tupAt (d := 0) (r := decide (a < c)) hl hb (Nat.zero_le _) u1 (fun j h1 h2 hj' => ?_) (fun h1 h2 prog w E Q hq' => ?_) (fun z => absurd z (by simp)) h
    · match j, h1, h2, hj' with
      | 0, _, _, _ => exact (show SeqAt.EqAt A.in1 s (.int a t) (.int c u) false from by have := SeqAt.EqAt.int_int (A := A.in1) (s := s) a t c u; rwa [show (a == c) = false by simpa using c1] at this)
      | j + 1, _, _, z => omega
    · exact rcLt_int A.in1 s a t c u prog w E Q hq'
end
theorem ltP_irrefl (x : Int × List Int) : ltP x x = false := by
  show (decide (x.1 < x.1) || (decide (x.1 = x.1) && lexLt x.2 x.2)) = false
  rw [My.lex_irrefl]
  simp
theorem ltP_iff {x y : Int × List Int} : ltP x y = true ↔ x.1 < y.1 ∨ (x.1 = y.1 ∧ lexLt x.2 y.2 = true) := by
  unfold ltP
  simp
theorem ltP_trans {x y z : Int × List Int} (h1 : ltP x y = true) (h2 : ltP y z = true) : ltP x z = true := by
  rw [ltP_iff] at h1 h2 ⊢
  rcases h1 with a | ⟨a, b⟩
  · rcases h2 with c | ⟨c, d⟩
    · exact .inl (by omega)
    · exact .inl (by omega)
  · rcases h2 with c | ⟨c, d⟩
    · exact .inl (by omega)
    · exact .inr ⟨by omega, My.lex_trans b d⟩
end HT
namespace My
open PySem L2
theorem best_leastG {lt : Nat → Nat → Bool} (hi : ∀ i, lt i i = false) (ht : ∀ i j k, lt i j = true → lt j k = true → lt i k = true) : ∀ j i, i ≤ j → lt i (argBest lt j) = false
  | 0, i, h => by
    have : i = 0 := by omega
    subst this
    exact hi _
  | j + 1, i, h => by
    have ih := best_leastG hi ht j
    unfold argBest
    cases hb : lt (j + 1) (argBest lt j) with
    | true =>
      rw [if_pos rfl]
      by_cases e : i = j + 1
      · subst e; exact hi _
      · cases hc : lt i (j + 1) with
        | false => rfl
        | true =>
          have := ih i (by omega)
          rw [ht _ _ _ hc hb] at this
          cases this
    | false =>
      rw [if_neg (by simp)]
      by_cases e : i = j + 1
      · subst e; exact hb
      · exact ih i (by omega)
end My
namespace L2
open PySem PySem.Spec PyProof.Rows
section
variable {prog : Program} {w : World} {A : Around} {I S : Addr} {fp wr : List Addr} {n : Nat} {P : Nat → Value → Prop} {St : Nat → Heap → Prop} {R : Result → Shared → Prop}
theorem minG_loop (W : Walks prog w A.in1 I fp wr n P St) (lt : Nat → Nat → Bool) (C : Heap → Prop) (ck : ∀ h h', C h → (∀ b o, b ≠ S → b ∉ wr → h.get? b = some o → h'.get? b = some o) → C h') (cc : ∀ (s : Shared) (i j : Nat) (v u : Value) (E : Value → Shared → Prop) (Q : Value → Shared → Prop), C s.heap → i ≠ j → P i v → P j u → Q (.bool (lt i j)) s → wpAny (model prog w) A.in1 (compareOp .Lt v u) Q E s) (hSf : S ∉ fp) : ∀ (k j : Nat) (s : Shared) (vb : Value) (c : Nat), n - (j + 1) = k → j + 1 ≤ n → St (j + 1) s.heap → P (argBest lt j) vb → C s.heap →
    s.heap.get? S = some { cls := .type "list", dict := none, data := .seq #[vb, vb] c, slots := #[] } →
    (∀ v h' tk, P (argBest lt (n - 1)) v → (∀ b o, b ≠ S → b ∉ wr → s.heap.get? b = some o → h'.get? b = some o) → R (.ok (.ret v)) { s with heap := h', toks := tk }) →
    codeAny (model prog w) A (.builtin "min.loop" ⟨[.ref I, .none, .ref S], []⟩) R s := by
  have hSw : S ∉ wr := fun h => hSf (W.sub _ h)
  have nm : (toString "min" ++ toString ".loop" : String) = "min.loop" := by decide
  intro k
  induction k with
  | zero =>
    intro j s vb c hk hj st pb ta hS hR
    have ej : j + 1 = n := by omega
    refine codeAny_builtin F.entry_min_loop ?_
    rw [Around.under_plainId F.plain_min_loop _]
    show wpAny _ A.in1 (seqItems? (.ref S) >>= _) _ _ s
    refine wpAny_bind (wpAny_seqItems hS rfl ?_)
    show wpAny _ A.in1 (tryCatch (pyNext (.ref I)) _ >>= _) _ _ s
    refine wpAny_bind (wpAny_tryCatch (W.done s _ _ (ej ▸ st) fun h' tk hk' => ?_))
    have hS' := hk' S _ hSw hS
    show wpAny _ A.in1 (updateSeq S (fun _ => #[]) >>= _) _ _ _
    refine wpAny_bind (wpAny_updateSeq hS' rfl (wpAny_bind (wpAny_letGo (wpAny_pure ?_))))
    exact hR vb _ tk (by rw [← ej]; exact pb) fun b o b1 b2 e => (Heap.get?_update_other _ _ (Ne.symm b1)).trans (hk' b o b2 e)
  | succ k ih =>
    intro j s vb c hk hj st pb ta hS hR
    have hlt : j + 1 < n := by omega
    refine codeAny_builtin F.entry_min_loop ?_
    rw [Around.under_plainId F.plain_min_loop _]
    show wpAny _ A.in1 (seqItems? (.ref S) >>= _) _ _ s
    refine wpAny_bind (wpAny_seqItems hS rfl ?_)
    show wpAny _ A.in1 (tryCatch (pyNext (.ref I)) _ >>= _) _ _ s
    refine wpAny_bind (wpAny_tryCatch (W.item (j + 1) s _ _ hlt st fun v h' tk pv st' hk' => ?_))
    have hS' := hk' S _ hSw hS
    have ta' := ck _ h' ta fun b o _ b2 e => hk' b o b2 e
    show wpAny _ A.in1 (tryCatch (holding [v, v] (richCompare .Lt (v) (vb) >>= _)) _ >>= _) _ _ _
    refine wpAny_bind (wpAny_tryCatch (wpAny_holding (wpAny_bind (show wpAny _ _ (compareOp .Lt (v) (vb)) _ _ _ from cc { s with heap := h', toks := tk } (j + 1) _ v vb _ _ ta' (Nat.ne_of_gt (Nat.lt_succ_of_le (My.best_le _ _))) pv pb ?_))))
    refine wpAny_bind (wpAny_holding (wpAny_truthy_bool ?_))
    refine wpAny_bind (wpAny_letGo (wpAny_pure ?_))
    cases hb : lt (j + 1) (argBest lt j) with
    | true =>
      simp only [if_true]
      refine wpAny_bind (wpAny_updateSeq hS' rfl (wpAny_bind (wpAny_letGo ?_)))
      rw [nm]
      have up : ∀ b o, b ≠ S → h'.get? b = some o → (h'.update S (Obj.mapSeq fun _ => #[v, v])).get? b = some o := fun b o b1 e => (Heap.get?_update_other _ _ (Ne.symm b1)).trans e
      refine wpAny_pure ⟨plainId_quiet F.plain_min_loop _, ih (j + 1) _ (v) _ (by omega) hlt (W.frame _ h' _ st' fun b hbf o e => up b o (fun h => hSf (h ▸ hbf)) e) ?_ (ck _ _ ta' fun b o b1 _ e => up b o b1 e) (Heap.get?_update_self _ hS' rfl) fun v' h'' tk'' p'' k'' => ?_⟩
      · unfold argBest
        rw [if_pos hb]
        exact pv
      · exact hR v' h'' tk'' p'' fun b o b1 b2 e => k'' b o b1 b2 (up b o b1 (hk' b o b2 e))
    | false =>
      simp only [Bool.false_eq_true, if_false]
      refine wpAny_bind (wpAny_letGo ?_)
      rw [nm]
      refine wpAny_pure ⟨plainId_quiet F.plain_min_loop _, ih (j + 1) _ (vb) c (by omega) hlt st' ?_ ta' hS' fun v' h'' tk'' p'' k'' => ?_⟩
      · unfold argBest
        rw [if_neg (by rw [hb]; decide)]
        exact pb
      · exact hR v' h'' tk'' p'' fun b o b1 b2 e => k'' b o b1 b2 (hk' b o b2 e)
theorem minG_first (W : Walks prog w A.in1 I fp wr n P St) (lt : Nat → Nat → Bool) (C : Heap → Prop) (ck : ∀ h h', C h → (∀ b o, b ≠ S → b ∉ wr → h.get? b = some o → h'.get? b = some o) → C h') (cc : ∀ (s : Shared) (i j : Nat) (v u : Value) (E : Value → Shared → Prop) (Q : Value → Shared → Prop), C s.heap → i ≠ j → P i v → P j u → Q (.bool (lt i j)) s → wpAny (model prog w) A.in1 (compareOp .Lt v u) Q E s) (hSf : S ∉ fp) (hn : 0 < n) {s : Shared} {c : Nat} (st : St 0 s.heap) (ta : C s.heap) (hS : s.heap.get? S = some { cls := .type "list", dict := none, data := .seq #[] c, slots := #[] })
    (hR : ∀ v h' tk, P (argBest lt (n - 1)) v → (∀ b o, b ≠ S → b ∉ wr → s.heap.get? b = some o → h'.get? b = some o) → R (.ok (.ret v)) { s with heap := h', toks := tk }) :
    codeAny (model prog w) A (.builtin "min.loop" ⟨[.ref I, .none, .ref S], []⟩) R s := by
  have hSw : S ∉ wr := fun h => hSf (W.sub _ h)
  have nm : (toString "min" ++ toString ".loop" : String) = "min.loop" := by decide
  refine codeAny_builtin F.entry_min_loop ?_
  rw [Around.under_plainId F.plain_min_loop _]
  show wpAny _ A.in1 (seqItems? (.ref S) >>= _) _ _ s
  refine wpAny_bind (wpAny_seqItems hS rfl ?_)
  show wpAny _ A.in1 (tryCatch (pyNext (.ref I)) _ >>= _) _ _ s
  refine wpAny_bind (wpAny_tryCatch (W.item 0 s _ _ hn st fun v h' tk pv st' hk' => ?_))
  have hS' := hk' S _ hSw hS
  show wpAny _ A.in1 (updateSeq S (fun _ => #[v, v]) >>= _) _ _ _
  refine wpAny_bind (wpAny_updateSeq hS' rfl ?_)
  rw [nm]
  have up : ∀ b o, b ≠ S → h'.get? b = some o → (h'.update S (Obj.mapSeq fun _ => #[v, v])).get? b = some o := fun b o b1 e => (Heap.get?_update_other _ _ (Ne.symm b1)).trans e
  refine wpAny_pure ⟨plainId_quiet F.plain_min_loop _, minG_loop W lt C ck cc hSf _ 0 _ v _ rfl hn (W.frame _ h' _ st' fun b hbf o e => up b o (fun h => hSf (h ▸ hbf)) e) pv (ck _ _ ta fun b o b1 b2 e => up b o b1 (hk' b o b2 e)) (Heap.get?_update_self _ hS' rfl) fun v' h'' tk'' p'' k'' => ?_⟩
  exact hR v' h'' tk'' p'' fun b o b1 b2 e => k'' b o b1 b2 (up b o b1 (hk' b o b2 e))
end
section
variable {X : Cx}
theorem vals_cons {x : V} {xs : List V} {us : List Value} (r : Vals (x :: xs) us) : ∃ u vs, us = u :: vs ∧ RelV x u ∧ Vals xs vs := by
  cases r with
  | cons a b => exact ⟨_, _, rfl, a, b⟩
/-- min of a list of (int, tuple of ints, ..) -/
theorem call_minPT (K : PySem.W.Frag) (hc : X.calm = true) (hu : X.A.units + 8 < cLine) (hk : X.K = K := by rfl) : CallR X (.builtin "min") (fun xs H Q => ∃ (p : Addr) (ys : List V) (L : List (Int × List Int)) (fl : Bool), xs = [.ref p] ∧ SqL K H p ys ∧ 0 < ys.length ∧ ys.length = L.length ∧
    (∀ (i : Nat) (x : Int × List Int), L[i]? = some x → ∃ (a q : Addr) (rest : List V), ys[i]? = some (.ref a) ∧ SqT K H a (.int x.1 :: .ref q :: rest) ∧ SqT K H q (x.2.map V.int) ∧ (fl = true → rest = [])) ∧ (fl = false → L.Nodup) ∧
    ∀ (i : Nat) (a : Addr) (x : Int × List Int), L[i]? = some x → ys[i]? = some (.ref a) → (∀ m ∈ L, HT.ltP m x = false) → Q (.ref a) H) := by
  subst hk
  intro pins s σ H xs us Q I r h
  obtain ⟨p, ys, L, fl, rfl, hq, hn, hl, hT, hnd, q⟩ := h
  obtain ⟨u, rfl, ru⟩ := vals1 r
  obtain rfl : u = Value.ref p := ru
  obtain ⟨its, rv, pl, hz⟩ := I.list hq
  have el : its.length = ys.length := rv.length.symm
  have hp : p < s.heap.objs.size := let ⟨_, _, e, _⟩ := pl; Heap.lt_size e
  have nm : (toString "min" ++ toString ".loop" : String) = "min.loop" := by decide
  refine call_function_tree F.kind_min F.plain_min F.entry_min (F.args_min1 _) ?_
  show wpAny _ X.A.in1 (Builtin.Builtins.bindParams "min" ["key", "default"] 0 ⟨[], []⟩ >>= _) _ _ s
  refine wpAny_bind (wpAny_of_eq (a := [none, none]) rfl ?_)
  refine wpAny_bind (wpAny_pure ?_)
  refine wpAny_bind (wpAny_pyIter_list pl.isList ?_)
  refine wpAny_bind (wpAny_newObj_type ?_)
  rw [nm]
  have W := Walks.list (prog := X.prog) (w := X.w) (A := X.A.in1) (I.ok.hd hc) s.heap.objs.size p (Nat.ne_of_lt hp) its.toArray
  obtain ⟨G, hG⟩ : ∃ G, G = s.heap.push { cls := .type "list_iterator", data := .fields #[.ref p, .int 0 0] } := ⟨_, rfl⟩
  have e1 : G.get? s.heap.objs.size = some { cls := .type "list_iterator", data := .fields #[.ref p, .int 0 0] } := by rw [hG]; exact Heap.get?_push_size s.heap rfl
  have z1 : G.objs.size = s.heap.objs.size + 1 := by rw [hG]; exact Heap.size_push ..
  have up : ∀ b o, s.heap.get? b = some o → G.get? b = some o := fun b o e => by rw [hG]; exact Heap.get?_push_of_some _ e
  have plG : G.IsList p its.toArray := by rw [hG]; exact pl.isList.push _
  rw [← hG]
  have at' : ∀ (i : Nat) (v : Value), its.toArray[i]? = some v → ∃ (a : Addr) (x : Int × List Int) (qa : Addr) (rest : List V), L[i]? = some x ∧ ys[i]? = some (.ref a) ∧ v = .ref a ∧ SqT X.K H a (.int x.1 :: .ref qa :: rest) ∧ SqT X.K H qa (x.2.map V.int) ∧ (fl = true → rest = []) := fun i v e => by
    have e : its[i]? = some v := by simpa using e
    have hi : i < its.length := (List.getElem?_eq_some_iff.mp e).1
    obtain ⟨a, qa, rest, ea, ta, tq, tf⟩ := hT i L[i] (List.getElem?_eq_getElem (by omega))
    obtain ⟨x, ex, rx⟩ := rv.at hi
    have ea2 := ea
    rw [ex] at ea2
    cases ea2
    rw [List.getElem?_eq_getElem hi] at e
    have e : its[i] = v := Option.some.inj e
    rw [e] at rx
    exact ⟨a, L[i], qa, rest, List.getElem?_eq_getElem (by omega), ea, rx, ta, tq, tf⟩
  refine wpAny_pure ⟨plainId_quiet F.plain_min_loop _, ?_⟩
  obtain ⟨lt, hlt⟩ : ∃ lt : Nat → Nat → Bool, lt = fun i j => HT.ltP (L.getD i (0, [])) (L.getD j (0, [])) := ⟨_, rfl⟩
  refine minG_first (A := X.A) (S := G.objs.size) W lt (fun h => ∀ b o, s.heap.get? b = some o → h.get? b = some o) (fun h h' c k b o e => k b o (by rw [z1]; exact Nat.ne_of_lt (Nat.lt_succ_of_lt (Heap.lt_size e))) (fun z => absurd (List.mem_singleton.mp z) (Nat.ne_of_lt (Heap.lt_size e))) (c b o e)) (fun s2 i j v u E Q c hij pv pu hQ => ?_) ?_ (by rw [List.size_toArray]; omega) ⟨⟨_, Heap.get?_push_of_some _ e1, rfl, rfl⟩, plG.push _⟩ (fun b o e => Heap.get?_push_of_some _ (up b o e)) (Heap.get?_push_size _ rfl) fun v h' tk pv hk' => ?_
  · obtain ⟨a1, x1, q1, r1, l1, _, rfl, t1, tq1, f1⟩ := at' i v pv
    obtain ⟨a2, x2, q2, r2, l2, _, rfl, t2, tq2, f2⟩ := at' j u pu
    have keep : ∀ {a : Addr} {xs : Array Value}, IsTup s.heap a xs → IsTup s2.heap a xs := fun ⟨o, ho, z⟩ => ⟨o, c _ o ho, z⟩
    obtain ⟨i1, v1, p1, _⟩ := I.tuple t1
    obtain ⟨i2, v2, p2, _⟩ := I.tuple t2
    obtain ⟨j1, w1, o1, _⟩ := I.tuple tq1
    obtain ⟨j2, w2, o2, _⟩ := I.tuple tq2
    obtain ⟨c1, rest1, rfl, rc1, v1'⟩ := vals_cons v1
    obtain ⟨c2, rest2, rfl, rc2, v2'⟩ := vals_cons v2
    obtain ⟨d1, rest1, rfl, rd1, vv1⟩ := vals_cons v1'
    obtain ⟨d2, rest2, rfl, rd2, vv2⟩ := vals_cons v2'
    obtain ⟨tk1, rfl⟩ : ∃ t, c1 = Value.int x1.1 t := rc1
    obtain ⟨tk2, rfl⟩ : ∃ t, c2 = Value.int x2.1 t := rc2
    obtain rfl : d1 = Value.ref q1 := rd1
    obtain rfl : d2 = Value.ref q2 := rd2
    have g1 : L.getD i (0, []) = x1 := My.getD_of l1
    have g2 : L.getD j (0, []) = x2 := My.getD_of l2
    refine HT.lt_pair (keep p1) (keep p2) (keep o1) (keep o2) (by simpa using ints_of_vals w1) (by simpa using ints_of_vals w2) (fun b1 b2 => ?_) (by show X.A.units + 1 + 2 < cLine; omega) (by rw [hlt] at hQ; simpa only [g1, g2] using hQ)
    have hxx : x1 = x2 := Prod.ext b1 b2
    cases hfl : fl with
    | true =>
      have z1 := f1 hfl
      have z2 := f2 hfl
      rw [z1] at vv1
      rw [z2] at vv2
      have a1 := vv1.length
      have a2 := vv2.length
      exact ⟨List.length_eq_zero_iff.mp a1.symm, List.length_eq_zero_iff.mp a2.symm⟩
    | false =>
      exact absurd (My.nodup_get (hnd hfl) l1 (by rw [hxx]; exact l2)) hij
  · rw [z1]
    simp only [List.mem_cons, List.not_mem_nil, or_false, not_or]
    exact ⟨Nat.succ_ne_self _, Nat.ne_of_gt (Nat.lt_succ_of_lt hp)⟩
  · obtain ⟨a, x, qa, rest, l1, y1, rfl, _⟩ := at' _ v pv
    have hs : its.toArray.size = ys.length := by rw [List.size_toArray]; exact el
    refine ⟨.ref a, H, I.kept fun b o e => hk' b o ?_ ?_ (Heap.get?_push_of_some _ (up b o e)), rfl, q _ a x l1 y1 fun m hm => ?_⟩
    · rw [z1]; exact Nat.ne_of_lt (Nat.lt_succ_of_lt (Heap.lt_size e))
    · exact fun h => absurd (List.mem_singleton.mp h) (Nat.ne_of_lt (Heap.lt_size e))
    · obtain ⟨i, hi, ei⟩ := List.getElem_of_mem hm
      have k := My.best_leastG (lt := lt) (fun i => by rw [hlt]; exact HT.ltP_irrefl _) (fun i j k a b => by rw [hlt] at a b ⊢; exact HT.ltP_trans a b) (its.toArray.size - 1) i (by omega)
      have g1 : L.getD i (0, []) = m := by rw [List.getD_eq_getElem?_getD, List.getElem?_eq_getElem hi, ei]; rfl
      have g2 : L.getD (argBest lt (its.toArray.size - 1)) (0, []) = x := My.getD_of l1
      rw [← g1, ← g2]
      rw [hlt] at k ⊢
      exact k
end
end L2

namespace My
open PySem L2
def top (i : Nat) : Stmt := PySem.Challenge.pw_spanrow_k61_cheapest_by_trial.main.body.getD i (.Pass ⟨0, 0, 0, 0⟩)
abbrev s_is_tie : Stmt := top 11
abbrev s_refuse_bad_web : Stmt := top 10
abbrev s_Web___init : Stmt := inClass (top 9) 0
abbrev s_refuse_bad_row : Stmt := top 12
abbrev s_all_ties : Stmt := top 13
abbrev s_is_set : Stmt := top 14
abbrev s_made_set : Stmt := top 15
abbrev s_merged_marks : Stmt := top 16
abbrev s_piece_marks : Stmt := top 17
abbrev s_pieces_of : Stmt := top 18
abbrev s_is_joined : Stmt := top 19
abbrev s_refuse_parted : Stmt := top 20
abbrev s_grown_tree : Stmt := top 22
abbrev s_least_tree : Stmt := top 23
abbrev s_cheapest_web : Stmt := top 25
abbrev s_cheapest_tree : Stmt := top 26
abbrev s_law_at : Stmt := top 28
abbrev s_law_stir : Stmt := top 29
abbrev s_law_numbers : Stmt := top 30
abbrev s_law_digits : Stmt := top 31
abbrev s_law_web : Stmt := top 32
abbrev s_law_trees : Stmt := top 33
abbrev s_law_lengths : Stmt := top 34
abbrev s_law_told : Stmt := top 35
abbrev s_law : Stmt := top 36
structure Adr where
  a_is_tie : Addr
  d_is_tie : FuncData
  a_refuse_bad_web : Addr
  d_refuse_bad_web : FuncData
  a_Web___init : Addr
  d_Web___init : FuncData
  a_refuse_bad_row : Addr
  d_refuse_bad_row : FuncData
  a_all_ties : Addr
  d_all_ties : FuncData
  a_is_set : Addr
  d_is_set : FuncData
  a_made_set : Addr
  d_made_set : FuncData
  a_merged_marks : Addr
  d_merged_marks : FuncData
  a_piece_marks : Addr
  d_piece_marks : FuncData
  a_pieces_of : Addr
  d_pieces_of : FuncData
  a_is_joined : Addr
  d_is_joined : FuncData
  a_refuse_parted : Addr
  d_refuse_parted : FuncData
  a_grown_tree : Addr
  d_grown_tree : FuncData
  a_least_tree : Addr
  d_least_tree : FuncData
  a_cheapest_web : Addr
  d_cheapest_web : FuncData
  a_cheapest_tree : Addr
  d_cheapest_tree : FuncData
  a_law_at : Addr
  d_law_at : FuncData
  a_law_stir : Addr
  d_law_stir : FuncData
  a_law_numbers : Addr
  d_law_numbers : FuncData
  a_law_digits : Addr
  d_law_digits : FuncData
  a_law_web : Addr
  d_law_web : FuncData
  a_law_trees : Addr
  d_law_trees : FuncData
  a_law_lengths : Addr
  d_law_lengths : FuncData
  a_law_told : Addr
  d_law_told : FuncData
  a_law : Addr
  d_law : FuncData
  A_Web : Addr
  A_WebError : Addr
  A_Parted : Addr
  A_BadRow : Addr
structure Txt (K : PySem.W.Frag) (mg : Str → Option Value) (t : Adr) : Prop where
  f_is_tie : Fun K "is_tie" "is_tie" s_is_tie t.a_is_tie t.d_is_tie
  b_is_tie : Binds K t.d_is_tie ["web", "number"] []
  m_is_tie : mg "is_tie" = some (.ref t.a_is_tie)
  f_refuse_bad_web : Fun K "refuse_bad_web" "refuse_bad_web" s_refuse_bad_web t.a_refuse_bad_web t.d_refuse_bad_web
  b_refuse_bad_web : Binds K t.d_refuse_bad_web ["places", "ties"] []
  m_refuse_bad_web : mg "refuse_bad_web" = some (.ref t.a_refuse_bad_web)
  f_Web___init : Fun K "__init__" "Web.__init__" s_Web___init t.a_Web___init t.d_Web___init
  b_Web___init : Binds K t.d_Web___init ["self", "places", "ties"] []
  f_refuse_bad_row : Fun K "refuse_bad_row" "refuse_bad_row" s_refuse_bad_row t.a_refuse_bad_row t.d_refuse_bad_row
  b_refuse_bad_row : Binds K t.d_refuse_bad_row ["web", "numbers"] []
  m_refuse_bad_row : mg "refuse_bad_row" = some (.ref t.a_refuse_bad_row)
  f_all_ties : Fun K "all_ties" "all_ties" s_all_ties t.a_all_ties t.d_all_ties
  b_all_ties : Binds K t.d_all_ties ["web"] []
  m_all_ties : mg "all_ties" = some (.ref t.a_all_ties)
  f_is_set : Fun K "is_set" "is_set" s_is_set t.a_is_set t.d_is_set
  b_is_set : Binds K t.d_is_set ["web", "ties"] []
  m_is_set : mg "is_set" = some (.ref t.a_is_set)
  f_made_set : Fun K "made_set" "made_set" s_made_set t.a_made_set t.d_made_set
  b_made_set : Binds K t.d_made_set ["web", "ties"] []
  m_made_set : mg "made_set" = some (.ref t.a_made_set)
  f_merged_marks : Fun K "merged_marks" "merged_marks" s_merged_marks t.a_merged_marks t.d_merged_marks
  b_merged_marks : Binds K t.d_merged_marks ["web", "marks", "ties"] []
  m_merged_marks : mg "merged_marks" = some (.ref t.a_merged_marks)
  f_piece_marks : Fun K "piece_marks" "piece_marks" s_piece_marks t.a_piece_marks t.d_piece_marks
  b_piece_marks : Binds K t.d_piece_marks ["web", "ties"] []
  m_piece_marks : mg "piece_marks" = some (.ref t.a_piece_marks)
  f_pieces_of : Fun K "pieces_of" "pieces_of" s_pieces_of t.a_pieces_of t.d_pieces_of
  b_pieces_of : Binds K t.d_pieces_of ["web", "ties"] []
  m_pieces_of : mg "pieces_of" = some (.ref t.a_pieces_of)
  f_is_joined : Fun K "is_joined" "is_joined" s_is_joined t.a_is_joined t.d_is_joined
  b_is_joined : Binds K t.d_is_joined ["web", "ties"] []
  m_is_joined : mg "is_joined" = some (.ref t.a_is_joined)
  f_refuse_parted : Fun K "refuse_parted" "refuse_parted" s_refuse_parted t.a_refuse_parted t.d_refuse_parted
  b_refuse_parted : Binds K t.d_refuse_parted ["web"] []
  m_refuse_parted : mg "refuse_parted" = some (.ref t.a_refuse_parted)
  f_grown_tree : Fun K "grown_tree" "grown_tree" s_grown_tree t.a_grown_tree t.d_grown_tree
  b_grown_tree : Binds K t.d_grown_tree ["web", "inside", "order"] []
  m_grown_tree : mg "grown_tree" = some (.ref t.a_grown_tree)
  f_least_tree : Fun K "least_tree" "least_tree" s_least_tree t.a_least_tree t.d_least_tree
  b_least_tree : Binds K t.d_least_tree ["web"] []
  m_least_tree : mg "least_tree" = some (.ref t.a_least_tree)
  f_cheapest_web : Fun K "cheapest_web" "cheapest_web" s_cheapest_web t.a_cheapest_web t.d_cheapest_web
  b_cheapest_web : Binds K t.d_cheapest_web ["web", "lengths"] []
  m_cheapest_web : mg "cheapest_web" = some (.ref t.a_cheapest_web)
  f_cheapest_tree : Fun K "cheapest_tree" "cheapest_tree" s_cheapest_tree t.a_cheapest_tree t.d_cheapest_tree
  b_cheapest_tree : Binds K t.d_cheapest_tree ["web", "lengths"] []
  m_cheapest_tree : mg "cheapest_tree" = some (.ref t.a_cheapest_tree)
  f_law_at : Fun K "_law_at" "_law_at" s_law_at t.a_law_at t.d_law_at
  b_law_at : Binds K t.d_law_at ["script", "k"] []
  m_law_at : mg "_law_at" = some (.ref t.a_law_at)
  f_law_stir : Fun K "_law_stir" "_law_stir" s_law_stir t.a_law_stir t.d_law_stir
  b_law_stir : Binds K t.d_law_stir ["cell", "k"] []
  m_law_stir : mg "_law_stir" = some (.ref t.a_law_stir)
  f_law_numbers : Fun K "_law_numbers" "_law_numbers" s_law_numbers t.a_law_numbers t.d_law_numbers
  b_law_numbers : Binds K t.d_law_numbers ["script", "start", "most"] []
  m_law_numbers : mg "_law_numbers" = some (.ref t.a_law_numbers)
  f_law_digits : Fun K "_law_digits" "_law_digits" s_law_digits t.a_law_digits t.d_law_digits
  b_law_digits : Binds K t.d_law_digits ["cell", "most_places", "most_ties"] []
  m_law_digits : mg "_law_digits" = some (.ref t.a_law_digits)
  f_law_web : Fun K "_law_web" "_law_web" s_law_web t.a_law_web t.d_law_web
  b_law_web : Binds K t.d_law_web ["script", "most_places", "most_ties"] []
  m_law_web : mg "_law_web" = some (.ref t.a_law_web)
  f_law_trees : Fun K "_law_trees" "_law_trees" s_law_trees t.a_law_trees t.d_law_trees
  b_law_trees : Binds K t.d_law_trees ["places", "ties"] []
  m_law_trees : mg "_law_trees" = some (.ref t.a_law_trees)
  f_law_lengths : Fun K "_law_lengths" "_law_lengths" s_law_lengths t.a_law_lengths t.d_law_lengths
  b_law_lengths : Binds K t.d_law_lengths ["script", "count"] []
  m_law_lengths : mg "_law_lengths" = some (.ref t.a_law_lengths)
  f_law_told : Fun K "_law_told" "_law_told" s_law_told t.a_law_told t.d_law_told
  b_law_told : Binds K t.d_law_told ["web", "lengths"] []
  m_law_told : mg "_law_told" = some (.ref t.a_law_told)
  f_law : Fun K "law" "law" s_law t.a_law t.d_law
  b_law : Binds K t.d_law ["script"] []
  m_law : mg "law" = some (.ref t.a_law)
  c_Web : mg "Web" = some (.ref t.A_Web)
  cl_Web : Cls K t.A_Web
  k_Web : Mk K t.A_Web t.a_Web___init
  n_Web_places : NoAttr K t.A_Web "places"
  n_Web_ties : NoAttr K t.A_Web "ties"
  c_WebError : mg "WebError" = some (.ref t.A_WebError)
  c_Parted : mg "Parted" = some (.ref t.A_Parted)
  c_BadRow : mg "BadRow" = some (.ref t.A_BadRow)
  x_Parted : XCls K (t.A_Parted)
  x_BadRow : XCls K (t.A_BadRow)
  ki_Parted_ValueError : PySem.W.kitOne K (.ref (t.A_Parted)) (.type "ValueError") = some true
  ki_Parted_BadRow : PySem.W.kitOne K (.ref (t.A_Parted)) (.ref (t.A_BadRow)) = some false
  em_Parted : PySem.W.exmOne K (.ref (t.A_Parted)) (.ref (t.A_WebError)) = some true
  ki_BadRow_Parted : PySem.W.kitOne K (.ref (t.A_BadRow)) (.ref (t.A_Parted)) = some false
  ki_BadRow_ValueError : PySem.W.kitOne K (.ref (t.A_BadRow)) (.type "ValueError") = some true
  em_BadRow : PySem.W.exmOne K (.ref (t.A_BadRow)) (.ref (t.A_WebError)) = some true
  g_MOST_PLACES : ∃ tk, mg "MOST_PLACES" = some (.int 14 tk)
  g_MOST_TIES : ∃ tk, mg "MOST_TIES" = some (.int 30 tk)
  n_ValueError : mg "ValueError" = none
  n_enumerate : mg "enumerate" = none
  n_isinstance : mg "isinstance" = none
  n_len : mg "len" = none
  n_list : mg "list" = none
  n_max : mg "max" = none
  n_min : mg "min" = none
  n_range : mg "range" = none
  n_set : mg "set" = none
  n_sorted : mg "sorted" = none
  n_sum : mg "sum" = none
  n_tuple : mg "tuple" = none
  n_zip : mg "zip" = none
end My
namespace My
open PySem L2 PyProof.Rows
set_option maxHeartbeats 4000000
def sp_is_tie (C : Addr) : Sp := fun vs H Q _ => ∃ (w : Addr) (n : Int) (ps : List (Int × Int)) (k : Int), vs = [.ref w, .int k] ∧ WebAt C H w n ps ∧ Q (.bl (decide (0 ≤ k ∧ k < (ps.length : Int)))) H
section
variable {P : Program} {w : World} {K : PySem.W.Frag} {mg : Str → Option Value} {base : Heap} {t : Adr}
theorem sc_is_tie : FnScope ["web", "number"] ["web", "number"] (defScope s_is_tie) := ⟨rfl, rfl, rfl, by decide +kernel, rfl, by decide +kernel, by decide +kernel⟩
theorem ok_is_tie (T : Txt K mg t) : FnOk P w K mg base CX0 1 t.a_is_tie t.d_is_tie ["web", "number"] (sp_is_tie t.A_Web) := by
  refine T.f_is_tie.ok sc_is_tie (fun vs H Q E h => ?_) (fun cdv A outer s H vs Q E hr h => ?_)
  · obtain ⟨w, n, ps, k, rfl, _⟩ := h
    rfl
  · obtain ⟨w, n, ps, k, rfl, ⟨dx, tl, xs, h1, h2, h3⟩, q⟩ := h
    refine ⟨_, (pss_one (ps_ret (pe_chain op_le op_lt pe_int (pv 1) (pe_callB (call_lenK K) (by rfl) T.n_len Boot.«len» (pa_cons (pe_fldK K (pv 0) rfl) pa_nil))))), ?_⟩
    refine ⟨_, rfl, _, _, rfl, rfl, _, rfl, ?_⟩
    refine ite2 (fun hc => ?_) (fun hc => ?_)
    · refine ⟨_, rfl, w, _, dx, _, _, rfl, h1, T.cl_Web, T.n_Web_ties, wf_ties _ _, tl, xs, rfl, .inl (SqL.of h2), _, _, rfl, rfl, ?_⟩
      have hc := of_decide_eq_true hc
      show Q (.bl (decide (k < (xs.length : Int)))) H
      rw [h3.1, show decide (k < (ps.length : Int)) = decide (0 ≤ k ∧ k < (ps.length : Int)) from by simp [hc]]
      exact q
    · have hc : ¬ (0 ≤ k) := fun z => hc (decide_eq_true z)
      show Q (.bl false) H
      rw [show (false : Bool) = decide (0 ≤ k ∧ k < (ps.length : Int)) from by simp; omega]
      exact q
end
end My
namespace My
open PySem L2 PyProof.Rows
set_option maxHeartbeats 4000000
/-- a good web is not refused; the ties may stand in a list or a tuple -/
def sp_refuse_bad_web (K : PySem.W.Frag) : Sp := fun vs H Q _ => ∃ (n : Int) (a : Addr) (kd : Bool) (xs : List V) (ps : List (Int × Int)), vs = [.int n, .ref a] ∧ SqK kd K H a xs ∧ PairsV H xs ps ∧ GoodW n ps ∧ Q .non H
section
variable {P : Program} {w : World} {K : PySem.W.Frag} {mg : Str → Option Value} {base : Heap} {t : Adr}
theorem sc_refuse_bad_web : FnScope ["places", "ties", "ends", "end"] ["places", "ties"] (defScope s_refuse_bad_web) := ⟨rfl, rfl, rfl, by decide +kernel, rfl, by decide +kernel, by decide +kernel⟩
theorem ok_refuse_bad_web (T : Txt K mg t) : FnOk P w K mg base CX0 1 t.a_refuse_bad_web t.d_refuse_bad_web ["places", "ties"] (sp_refuse_bad_web K) := by
  refine T.f_refuse_bad_web.ok sc_refuse_bad_web (fun vs H Q E h => ?_) (fun cdv A outer s H vs Q E hr h => ?_)
  · obtain ⟨n, a, kd, xs, ps, rfl, _⟩ := h
    rfl
  · obtain ⟨n, a, kd, xs, ps, rfl, hS, hp, ⟨g1, g2, g3, g4⟩, q⟩ := h
    refine ⟨_, (pss_cons (ps_if (pt_not (pt_chain op_le op_le pe_int (pv 0) (pe_glob (v := V.int 14) rfl T.g_MOST_PLACES.choose_spec ⟨_, rfl⟩)))
      (pss_one ps_never)
      pss_nil)
      (pss_cons (ps_if (pt_cmpR op_gt (pe_callB (call_lenK K) (by rfl) T.n_len Boot.«len» (pa_cons (pv 1) pa_nil)) (pe_glob (v := V.int 30) rfl T.g_MOST_TIES.choose_spec ⟨_, rfl⟩) (nomark _))
      (pss_one ps_never)
      pss_nil)
      (pss_one (ps_for PassesOwn.never rfl (pi_seqK K (pv 1)) (pg_name (i := 2) sc_refuse_bad_web.nd rfl (Or.inl rfl))
      (pss_one (ps_for PassesOwn.never rfl (pi_tupK K (pv 2)) (pg_name (i := 3) sc_refuse_bad_web.nd rfl (Or.inl rfl))
      (pss_one (ps_if (pt_not (pt_chain op_le op_lt pe_int (pv 3) (pv 0)))
      (pss_one ps_never)
      pss_nil)))))))), ?_⟩
    refine ⟨_, rfl, _, _, rfl, rfl, _, rfl, ?_⟩
    refine itd g1 ?_
    refine ⟨_, _, rfl, rfl, _, rfl, ?_⟩
    refine itn g2 ?_
    refine ⟨_, rfl, a, xs, rfl, hS.or, _, _, rfl, rfl, _, rfl, ?_⟩
    refine itdn (by rw [hp.1]; omega) ?_
    refine ⟨_, rfl, a, rfl, for_seq (k := kd) (K := K) (xs := xs) (fun i σ H2 => ∃ v v2, σ = [some (.int n), some (.ref a), v, v2] ∧ H2 = H) ⟨none, none, rfl, rfl⟩ (fun i σ H2 _ ⟨_, _, _, e⟩ => e ▸ hS) ?_ ?_⟩
    · rintro i x σ H2 hi ⟨v, v2, rfl, rfl⟩
      obtain ⟨p, hpi, tt, rfl, ht⟩ := hp.at hi
      obtain ⟨e1, e2, e3, e4⟩ := g4 p (List.mem_of_getElem? hpi)
      refine ⟨_, rfl, tt, rfl, ⟨_, SqT.of ht⟩, for_tup (K := K) (a := tt) (xs := [.int p.1, .int p.2]) (fun j σ H3 => ∃ v v2, σ = [some (.int n), some (.ref a), v, v2] ∧ H3 = H2) ⟨_, _, rfl, rfl⟩ (fun j σ H3 _ ⟨_, _, _, e⟩ => e ▸ SqT.of ht) ?_ ?_⟩
      · rintro j y σ H3 hj ⟨v, v2, rfl, rfl⟩
        have hy : ∃ z : Int, y = .int z ∧ 0 ≤ z ∧ z < n := by
          match j, hj with
          | 0, hj => exact ⟨p.1, (Option.some.inj hj).symm, e1, e2⟩
          | 1, hj => exact ⟨p.2, (Option.some.inj hj).symm, e3, e4⟩
        obtain ⟨z, rfl, z1, z2⟩ := hy
        refine ⟨_, rfl, _, _, rfl, rfl, _, rfl, ?_⟩
        refine itd z1 ?_
        refine ⟨_, rfl, _, _, rfl, rfl, _, rfl, ?_⟩
        refine itn z2 ?_
        exact ⟨_, _, rfl, rfl⟩
      · rintro σ H3 ⟨v, v2, rfl, rfl⟩
        exact ⟨_, _, rfl, rfl⟩
    · rintro σ H2 ⟨v, v2, rfl, rfl⟩
      exact q
end
end My
namespace My
open PySem L2 PyProof.Rows
set_option maxHeartbeats 4000000
/-- a Web is made of good ties; its list and its pairs are its own -/
def sp_Web_init (K : PySem.W.Frag) (C : Addr) : Sp := fun vs H Q _ => ∃ (w dx : Addr) (n : Int) (a : Addr) (kd : Bool) (xs : List V) (ps : List (Int × Int)), vs = [.ref w, .int n, .ref a] ∧ H w = some (.ins C dx []) ∧ (∀ o, SqK kd K (upd H w o) a xs) ∧ PairsV H xs ps ∧ GoodW n ps ∧
  ∀ H' : Hp, WebAt C H' w n ps → (∀ b o, H b = some o → b ≠ w → H' b = some o) → Q .non H'
section
variable {P : Program} {w : World} {K : PySem.W.Frag} {mg : Str → Option Value} {base : Heap} {t : Adr}
theorem sc_Web___init : FnScope ["self", "places", "ties"] ["self", "places", "ties"] (defScope s_Web___init) := ⟨rfl, rfl, rfl, by decide +kernel, rfl, by decide +kernel, by decide +kernel⟩
theorem ok_Web___init (T : Txt K mg t) : FnOk P w K mg base CX0 2 t.a_Web___init t.d_Web___init ["self", "places", "ties"] (sp_Web_init K t.A_Web) := by
  refine T.f_Web___init.ok sc_Web___init (fun vs H Q E h => ?_) (fun cdv A outer s H vs Q E hr h => ?_)
  · obtain ⟨w, dx, n, a, kd, xs, ps, rfl, _⟩ := h
    rfl
  · obtain ⟨w, dx, n, a, kd, xs, ps, rfl, hw, hS, hp, g, q⟩ := h
    have eH : upd H w (.ins t.A_Web dx []) = H := by
      funext b
      by_cases hb : b = w
      · subst hb; rw [upd_same, hw]
      · rw [upd_ne hb]
    have hS0 : SqK kd K H a xs := by have z := hS (.ins t.A_Web dx []); rw [eH] at z; exact z
    refine ⟨_, (pss_cons (ps_expr (pe_call (ok_refuse_bad_web T) (hr.mono (by decide)) rfl T.m_refuse_bad_web T.f_refuse_bad_web.kp T.b_refuse_bad_web .nil pass0 (pa_cons (pv 1) (pa_cons (pv 2) pa_nil))))
      (pss_cons (ps_fld (pv 0) (pv 1) rfl)
      (pss_one (ps_fld (pv 0) (pe_lc rfl (sc0 := defScope s_Web___init) (N0 := ["self", "places", "ties"]) (N' := ["ends"]) (o := 1) (fr := []) ⟨rfl, by decide +kernel, by decide +kernel, by decide +kernel, rfl, by decide +kernel⟩ (pi_seqK K (pv 2)) (own_name (by decide)) (fun _ _ _ _ => (pg_name (i := 0) (show List.Nodup (["ends"] : List Str) by decide +kernel) rfl (Or.inl rfl))) (fun _ _ _ _ => pts_nil) (fun _ _ _ _ => (pe_tup (pa_cons (pe_ix (ix_tupK K) (pv 0) pe_int (fun _ _ => rfl)) (pa_cons (pe_ix (ix_tupK K) (pv 0) pe_int (fun _ _ => rfl)) pa_nil))))) rfl)))), ?_⟩
    refine ⟨_, rfl, _, rfl, n, a, kd, xs, ps, rfl, hS0, hp, g, ?_⟩
    refine ⟨_, rfl, _, rfl, w, _, dx, [], rfl, hw, T.cl_Web, T.n_Web_places, (by show 0 < 1000; decide), ?_⟩
    -- self.ties = [(ends[0], ends[1]) for ends in ties]
    have hp1 : PairsV (upd H w (.ins t.A_Web dx (putF "places" (.int n) []))) xs ps := ⟨hp.1, fun i p e => by
      obtain ⟨v, e1, tt, e2, e3⟩ := hp.2 i p e
      exact ⟨v, e1, tt, e2, by rw [upd_ne (ne_of e3 hw (fun z => nomatch z))]; exact e3⟩⟩
    have sx : xs.length < sizeLine := small60' (by rw [hp.1]; have := g.2.2.1; omega)
    refine ⟨_, rfl, a, rfl, lc_seq (k := kd) (K := K) (xs := xs) (fun i ys H2 => i ≤ xs.length ∧ ys.length = i ∧ Same (upd H w (.ins t.A_Web dx (putF "places" (.int n) []))) H2 ∧ PairsV H2 ys (ps.take i)) ⟨Nat.zero_le _, rfl, Same.refl _, PairsV.nil⟩ sx
      (fun i ys H2 _ ⟨_, hl, s2, _⟩ => ⟨(hS _).same s2, Nat.le_of_eq hl⟩) ?_ ?_⟩
    · rintro i x ys H2 hi ⟨h1, hl, s2, hy⟩ S hSS
      obtain ⟨p, hpi, tt, rfl, ht⟩ := hp1.at hi
      have ht2 := s2 _ _ ht
      refine nmY ?_
      refine ⟨_, rfl, tt, _, 0, .int p.1, rfl, rfl, SqT.of ht2, rfl, _, rfl, tt, _, 1, .int p.2, rfl, rfl, SqT.of ht2, rfl, (by show 2 ≤ sizeLine; decide), fun q hq => ?_⟩
      have hil : i < xs.length := (List.getElem?_eq_some_iff.mp hi).1
      refine hSS _ _ ⟨hil, by rw [List.length_append, hl]; rfl, same_new s2 hq, ?_⟩
      rw [List.take_succ, hpi]
      exact (hy.same (same_at hq)).snoc ⟨q, rfl, upd_same⟩
    · rintro ys H2 ⟨_, hl, s2, hy⟩ tl htl
      have hw2 := s2 w _ upd_same
      have nwt : w ≠ tl := ne_of_none hw2 htl
      refine ⟨_, rfl, w, _, dx, _, rfl, (by rw [upd_ne nwt]; exact hw2), T.cl_Web, T.n_Web_ties, (by show 1 < 1000; decide), ?_⟩
      refine q _ ⟨dx, tl, ys, upd_same, by rw [upd_ne (Ne.symm nwt), upd_same], ?_⟩ fun b ob e hb => ?_
      · have e1 : ps.take xs.length = ps := List.take_of_length_le (by rw [hp.1]; exact Nat.le_refl _)
        rw [e1] at hy
        refine ⟨hy.1, fun i p e => ?_⟩
        obtain ⟨v, e2, tt, e3, e4⟩ := hy.2 i p e
        exact ⟨v, e2, tt, e3, by rw [upd_ne (ne_of e4 hw2 (fun z => nomatch z)), upd_ne (ne_of_none e4 htl)]; exact e4⟩
      · have e2 := s2 b ob (by rw [upd_ne hb]; exact e)
        rw [upd_ne hb, upd_ne (ne_of_none e2 htl)]
        exact e2
end
end My
namespace My
open PySem L2 PyProof.Rows
set_option maxHeartbeats 4000000
def sp_refuse_bad_row (K : PySem.W.Frag) (C R : Addr) : Sp := fun vs H Q E => ∃ (w a : Addr) (n : Int) (ps : List (Int × Int)) (kd : Bool) (ws : List Int), vs = [.ref w, .ref a] ∧ WebAt C H w n ps ∧ SqK kd K H a (IL ws) ∧
  (ws.length = ps.length → Q .non H) ∧ (ws.length ≠ ps.length → E (.ref R) none H)
section
variable {P : Program} {w : World} {K : PySem.W.Frag} {mg : Str → Option Value} {base : Heap} {t : Adr}
theorem sc_refuse_bad_row : FnScope ["web", "numbers"] ["web", "numbers"] (defScope s_refuse_bad_row) := ⟨rfl, rfl, rfl, by decide +kernel, rfl, by decide +kernel, by decide +kernel⟩
theorem ok_refuse_bad_row (T : Txt K mg t) : FnOk P w K mg base (CXW P w) 1 t.a_refuse_bad_row t.d_refuse_bad_row ["web", "numbers"] (sp_refuse_bad_row K t.A_Web t.A_BadRow) := by
  refine T.f_refuse_bad_row.okX sc_refuse_bad_row (fun vs H Q E h => ?_) (fun cdv A outer s H vs Q E hr h => ?_)
  · obtain ⟨w, a, n, ps, kd, ws, rfl, _⟩ := h
    rfl
  · obtain ⟨w, a, n, ps, kd, ws, rfl, ⟨dx, tl, xs, h1, h2, h3⟩, hS, q, qe⟩ := h
    refine ⟨_, (pss_one (ps_if (pt_cmpR op_ne (pe_callB (call_lenK K) (by rfl) T.n_len Boot.«len» (pa_cons (pv 1) pa_nil)) (pe_callB (call_lenK K) (by rfl) T.n_len Boot.«len» (pa_cons (pe_fldK K (pv 0) rfl) pa_nil)) (nomark _))
      (pss_one (ps_raise T.x_BadRow T.c_BadRow (pa_cons pe_str pa_nil)))
      pss_nil)), ?_⟩
    have hl := h3.1
    refine ⟨_, rfl, a, _, rfl, hS.or, _, rfl, w, _, dx, _, _, rfl, h1, T.cl_Web, T.n_Web_ties, wf_ties _ _, tl, xs, rfl, .inl (SqL.of h2), rfl, _, rfl, ?_⟩
    rw [dec_int, il_length]
    refine itn2 (fun hc => ?_) (fun hc => ?_)
    · exact q (by omega)
    · exact ⟨by show 1 ≤ sizeLine; decide, qe (by omega)⟩
end
end My
namespace My
open PySem L2 PyProof.Rows
set_option maxHeartbeats 4000000
def sp_all_ties (K : PySem.W.Frag) (C : Addr) : Sp := fun vs H Q _ => ∃ (w : Addr) (n : Int) (ps : List (Int × Int)), vs = [.ref w] ∧ WebAt C H w n ps ∧ ps.length ≤ 1000 ∧
  ∀ (r : Addr) (H' : Hp), Same H H' → H r = none → H' r = some (.tup (IL (rgL ps.length))) → Q (.ref r) H'
section
variable {P : Program} {w : World} {K : PySem.W.Frag} {mg : Str → Option Value} {base : Heap} {t : Adr}
theorem sc_all_ties : FnScope ["web"] ["web"] (defScope s_all_ties) := ⟨rfl, rfl, rfl, by decide +kernel, rfl, by decide +kernel, by decide +kernel⟩
theorem ok_all_ties (T : Txt K mg t) : FnOk P w K mg base CX0 1 t.a_all_ties t.d_all_ties ["web"] (sp_all_ties K t.A_Web) := by
  refine T.f_all_ties.ok sc_all_ties (fun vs H Q E h => ?_) (fun cdv A outer s H vs Q E hr h => ?_)
  · obtain ⟨w, n, ps, rfl, _⟩ := h
    rfl
  · obtain ⟨w, n, ps, rfl, ⟨dx, tl, xs, h1, h2, h3⟩, hl, q⟩ := h
    refine ⟨_, (pss_one (ps_ret (pe_callTy (call_tuple_rng rfl) (by rfl) T.n_tuple Boot.«tuple» (pa_cons (pe_callTy call_rng1 (by rfl) T.n_range Boot.«range» (pa_cons (pe_callB (call_lenK K) (by rfl) T.n_len Boot.«len» (pa_cons (pe_fldK K (pv 0) rfl) pa_nil)) pa_nil)) pa_nil)))), ?_⟩
    have hx := h3.1
    refine ⟨_, rfl, w, _, dx, _, _, rfl, h1, T.cl_Web, T.n_Web_ties, wf_ties _ _, tl, xs, rfl, .inl (SqL.of h2), _, rfl, fun r hr => ⟨r, 0, _, rfl, upd_same, ⟨by decide, by decide, by omega, by omega⟩, by omega, fun l hl => ?_⟩⟩
    refine q l _ (same_new (same_at hr) hl) ((same_at hr).free hl) ?_
    rw [upd_same, hx, rngI_rgL]
end
end My
namespace My
open PySem L2 PyProof.Rows
set_option maxHeartbeats 4000000
def sp_is_set (K : PySem.W.Frag) (C : Addr) : Sp := fun vs H Q _ => ∃ (w a : Addr) (n : Int) (ps : List (Int × Int)) (kd : Bool) (ns : List Int), vs = [.ref w, .ref a] ∧ WebAt C H w n ps ∧ SqK kd K H a (IL ns) ∧ ∀ b : Bool, (b = true ↔ IsSet ps.length ns) → Q (.bl b) H
section
variable {P : Program} {w : World} {K : PySem.W.Frag} {mg : Str → Option Value} {base : Heap} {t : Adr}
theorem sc_is_set : FnScope ["web", "ties", "last", "tie"] ["web", "ties"] (defScope s_is_set) := ⟨rfl, rfl, rfl, by decide +kernel, rfl, by decide +kernel, by decide +kernel⟩
theorem ok_is_set (T : Txt K mg t) : FnOk P w K mg base CX0 2 t.a_is_set t.d_is_set ["web", "ties"] (sp_is_set K t.A_Web) := by
  refine T.f_is_set.ok sc_is_set (fun vs H Q E h => ?_) (fun cdv A outer s H vs Q E hr h => ?_)
  · obtain ⟨w, a, n, ps, kd, ns, rfl, _⟩ := h
    rfl
  · obtain ⟨w, a, n, ps, kd, ns, rfl, hW, hS, q⟩ := h
    refine ⟨_, (pss_cons (ps_set (i := 2) sc_is_set.nd rfl (Or.inl rfl) (pe_un un_neg pe_int))
      (pss_cons (ps_for PassesOwn.never rfl (pi_seqK K (pv 1)) (pg_name (i := 3) sc_is_set.nd rfl (Or.inl rfl))
      (pss_cons (ps_if (PW.pt (pw_or (pt_cmpR op_le (pv 3) (pv 2) (nomark _)) (pw_or1 (pt_not (pt_val (pe_call (ok_is_tie T) (hr.mono (by decide)) rfl T.m_is_tie T.f_is_tie.kp T.b_is_tie .nil pass0 (pa_cons (pv 0) (pa_cons (pv 3) pa_nil))))))))
      (pss_one (ps_ret pe_bl))
      pss_nil)
      (pss_one (ps_set (i := 2) sc_is_set.nd rfl (Or.inl rfl) (pv 3)))))
      (pss_one (ps_ret pe_bl)))), ?_⟩
    refine ⟨_, rfl, ?_⟩
    refine ⟨_, rfl, a, rfl, for_seq (k := kd) (K := K) (xs := IL ns) (fun i σ H2 => ∃ (l : Int) (v : Option V), σ = [some (.ref w), some (.ref a), some (.int l), v] ∧ H2 = H ∧ (i = 0 → l = -1) ∧ (i ≠ 0 → ns[i - 1]? = some l) ∧ ∀ j z, j < i → ns[j]? = some z → 0 ≤ z ∧ z < (ps.length : Int) ∧ ∀ y, j ≠ 0 → ns[j - 1]? = some y → y < z)
      ⟨-1, none, rfl, rfl, fun _ => rfl, fun z => absurd rfl z, fun j z hj => absurd hj (Nat.not_lt_zero j)⟩ (fun i σ H2 _ ⟨_, _, _, e, _⟩ => e ▸ hS) ?_ ?_⟩
    · rintro i x σ H2 hi ⟨l, v, rfl, rfl, hl0, hl1, hp⟩
      obtain ⟨z, rfl, hz⟩ := il_get hi
      refine ⟨_, rfl, _, rfl, _, _, rfl, rfl, _, rfl, ?_⟩
      refine itd2 (fun hc => ?_) (fun hc => ?_)
      · -- tie <= last
        refine iteT ?_
        refine q false ⟨fun z => (nomatch z), fun hs => ?_⟩
        obtain ⟨b1, b2, b3⟩ := hs i z hz
        by_cases h0 : i = 0
        · have := hl0 h0; omega
        · have := b3 l h0 (hl1 h0); omega
      · refine ⟨_, rfl, _, rfl, w, n, ps, z, rfl, hW, _, rfl, ?_⟩
        refine itn2 (fun hc2 => ?_) (fun hc2 => ?_)
        · refine ⟨_, rfl, ?_⟩
          refine ⟨z, _, rfl, rfl, fun e => (nomatch e), fun _ => by simpa using hz, fun j y hj ey => ?_⟩
          by_cases hji : j < i
          · exact hp j y hji ey
          · have e : j = i := by omega
            subst e
            rw [hz] at ey
            cases ey
            refine ⟨hc2.1, hc2.2, fun y h0 ey => ?_⟩
            rw [hl1 h0] at ey
            cases ey
            omega
        · refine q false ⟨fun z => (nomatch z), fun hs => ?_⟩
          obtain ⟨b1, b2, b3⟩ := hs i z hz
          exact absurd ⟨b1, b2⟩ hc2
    · rintro σ H2 ⟨l, v, rfl, rfl, hl0, hl1, hp⟩
      refine q true ⟨fun _ i z hz => ?_, fun _ => rfl⟩
      have hi : i < (IL ns).length := by rw [il_length]; exact (List.getElem?_eq_some_iff.mp hz).1
      exact hp i z hi hz
end
end My
namespace My
open PySem L2 PyProof.Rows
set_option maxHeartbeats 4000000
/-- the tuple of a set of ties -/
def sp_made_set (K : PySem.W.Frag) (C : Addr) : Sp := fun vs H Q _ => ∃ (w a : Addr) (n : Int) (ps : List (Int × Int)) (kd : Bool) (ns : List Int), vs = [.ref w, .ref a] ∧ WebAt C H w n ps ∧ SqK kd K H a (IL ns) ∧ IsSet ps.length ns ∧
  ∀ (r : Addr) (H' : Hp), Same H H' → SqT K H' r (IL ns) → Q (.ref r) H'
section
variable {P : Program} {w : World} {K : PySem.W.Frag} {mg : Str → Option Value} {base : Heap} {t : Adr}
theorem sc_made_set : FnScope ["web", "ties"] ["web", "ties"] (defScope s_made_set) := ⟨rfl, rfl, rfl, by decide +kernel, rfl, by decide +kernel, by decide +kernel⟩
theorem ok_made_set (T : Txt K mg t) : FnOk P w K mg base CX0 3 t.a_made_set t.d_made_set ["web", "ties"] (sp_made_set K t.A_Web) := by
  refine T.f_made_set.ok sc_made_set (fun vs H Q E h => ?_) (fun cdv A outer s H vs Q E hr h => ?_)
  · obtain ⟨w, a, n, ps, kd, ns, rfl, _⟩ := h
    rfl
  · obtain ⟨w, a, n, ps, kd, ns, rfl, hW, hS, hI, q⟩ := h
    refine ⟨_, (pss_cons (ps_if (pt_not (pt_val (pe_call (ok_is_set T) (hr.mono (by decide)) rfl T.m_is_set T.f_is_set.kp T.b_is_set .nil pass0 (pa_cons (pv 0) (pa_cons (pv 1) pa_nil)))))
      (pss_one ps_never)
      pss_nil)
      (pss_one (ps_ret (pe_callTy (call_tupleK K) (by rfl) T.n_tuple Boot.«tuple» (pa_cons (pv 1) pa_nil))))), ?_⟩
    refine ⟨_, rfl, _, rfl, w, a, n, ps, kd, ns, rfl, hW, hS, fun b hb => ⟨_, rfl, ?_⟩⟩
    refine itnb (fun _ => ?_) (fun z => ?_)
    · refine ⟨_, rfl, a, IL ns, rfl, ?_⟩
      cases kd with
      | false => exact .inl ⟨hS, fun l hl => q l _ (same_at hl) (SqT.of upd_same)⟩
      | true => exact .inr ⟨hS, q a H (Same.refl H) hS⟩
    · rw [hb.mpr hI] at z
      cases z
end
end My
namespace My
open PySem L2 PyProof.Rows
set_option maxHeartbeats 4000000
/-- the marks with these ties taken besides -/
def sp_merged_marks (K : PySem.W.Frag) (C : Addr) : Sp := fun vs H Q _ => ∃ (w m a : Addr) (n : Int) (ps : List (Int × Int)) (M : List Int) (kd : Bool) (ns : List Int), vs = [.ref w, .ref m, .ref a] ∧ WebAt C H w n ps ∧ GoodW n ps ∧ H m = some (.lst (IL M)) ∧ M.length = n.toNat ∧ SqK kd K H a (IL ns) ∧ (∀ z ∈ ns, 0 ≤ z ∧ z < (ps.length : Int)) ∧
  ∀ (m' : Addr) (H' : Hp), Same H H' → (m' = m ∨ H m' = none) → H' m' = some (.lst (IL (pmf M (endsOf ps ns)))) → Q (.ref m') H'
section
variable {P : Program} {w : World} {K : PySem.W.Frag} {mg : Str → Option Value} {base : Heap} {t : Adr}
theorem sc_merged_marks : FnScope ["web", "marks", "ties", "tie", "ends", "low", "high"] ["web", "marks", "ties"] (defScope s_merged_marks) := ⟨rfl, rfl, rfl, by decide +kernel, rfl, by decide +kernel, by decide +kernel⟩
theorem ok_merged_marks (T : Txt K mg t) : FnOk P w K mg base CX0 1 t.a_merged_marks t.d_merged_marks ["web", "marks", "ties"] (sp_merged_marks K t.A_Web) := by
  refine T.f_merged_marks.ok sc_merged_marks (fun vs H Q E h => ?_) (fun cdv A outer s H vs Q E hr h => ?_)
  · obtain ⟨w, m, a, n, ps, M, kd, ns, rfl, _⟩ := h
    rfl
  · obtain ⟨w, m0, a, n, ps, M0, kd, ns, rfl, ⟨dx, tl, xs, h1, h2, h3⟩, ⟨g1, g2, g3, g4⟩, hm, hlM, hS, hI, q⟩ := h
    refine ⟨_, (pss_cons (ps_for PassesOwn.never rfl (pi_seqK K (pv 2)) (pg_name (i := 3) sc_merged_marks.nd rfl (Or.inl rfl))
      (pss_cons (ps_set (i := 4) sc_merged_marks.nd rfl (Or.inl rfl) (pe_ix (ix_listK K) (pe_fldK K (pv 0) rfl) (pv 3) (fun _ _ => rfl)))
      (pss_cons (ps_set (i := 5) sc_merged_marks.nd rfl (Or.inr rfl) (pe_callB (call_min2 rfl) (by rfl) T.n_min Boot.«min» (pa_cons (pe_ix (ix_listK K) (pv 1) (pe_ix (ix_tupK K) (pv 4) pe_int (fun _ _ => rfl)) (fun _ _ => rfl)) (pa_cons (pe_ix (ix_listK K) (pv 1) (pe_ix (ix_tupK K) (pv 4) pe_int (fun _ _ => rfl)) (fun _ _ => rfl)) pa_nil))))
      (pss_cons (ps_set (i := 6) sc_merged_marks.nd rfl (Or.inr rfl) (pe_callB (call_max2 rfl) (by rfl) T.n_max Boot.«max» (pa_cons (pe_ix (ix_listK K) (pv 1) (pe_ix (ix_tupK K) (pv 4) pe_int (fun _ _ => rfl)) (fun _ _ => rfl)) (pa_cons (pe_ix (ix_listK K) (pv 1) (pe_ix (ix_tupK K) (pv 4) pe_int (fun _ _ => rfl)) (fun _ _ => rfl)) pa_nil))))
      (pss_one (ps_if (pt_cmpR op_lt (pv 5) (pv 6) (nomark _))
      (pss_one (ps_lc (i := 1) rfl sc_merged_marks.nd rfl rfl (sc0 := defScope s_merged_marks) (N0 := ["web", "marks", "ties", "tie", "ends", "low", "high"]) (N' := ["mark", "high", "low"]) (o := 1) (fr := [6, 5]) ⟨rfl, by decide +kernel, by decide +kernel, by decide +kernel, rfl, by decide +kernel⟩ (pi_listK K (pv 1)) (own_name (by decide)) (fun _ _ _ _ => (pg_name (i := 0) (show List.Nodup (["mark", "high", "low"] : List Str) by decide +kernel) rfl (Or.inl rfl))) (fun _ _ _ _ => pts_nil) (fun _ _ _ _ => (pe_ifExp (pt_cmpR op_eq (pv 0) (pv 1) (nomark _)) (pv 2) (pv 0)))))
      pss_nil))))))
      (pss_one (ps_ret (pv 1)))), ?_⟩
    refine ⟨_, rfl, a, rfl, for_seq (k := kd) (K := K) (a := a) (xs := IL ns) (fun i σ H2 => ∃ (m : Addr) (v3 v4 v5 v6 : Option V), σ = [some (.ref w), some (.ref m), some (.ref a), v3, v4, v5, v6] ∧ Same H H2 ∧ (m = m0 ∨ H m = none) ∧ H2 m = some (.lst (IL (pmf M0 (endsOf ps (ns.take i))))))
      ⟨m0, none, none, none, none, rfl, Same.refl _, .inl rfl, hm⟩ (fun i σ H2 _ ⟨_, _, _, _, _, _, s2, _⟩ => hS.same s2) ?_ ?_⟩
    · rintro i x σ H2 hi ⟨m, v3, v4, v5, v6, rfl, s2, hm0, hm2⟩
      obtain ⟨z, rfl, hz⟩ := il_get hi
      obtain ⟨z0, z1⟩ := hI z (List.mem_of_getElem? hz)
      obtain ⟨p, hp⟩ : ∃ p, ps[z.toNat]? = some p := ⟨_, List.getElem?_eq_getElem (by omega)⟩
      obtain ⟨v, hv, tt, rfl, htt⟩ := h3.2 z.toNat p hp
      obtain ⟨e1, e2, e3, e4⟩ := g4 p (List.mem_of_getElem? hp)
      have ed : ps.getD z.toNat (0, 0) = p := getD_of hp
      -- ends = web.ties[tie]
      refine ⟨_, rfl, w, _, dx, _, _, rfl, s2 _ _ h1, T.cl_Web, T.n_Web_ties, wf_ties _ _, _, rfl, tl, xs, z, .ref tt, rfl, rfl, SqL.of (s2 _ _ h2), atI_of (n := z.toNat) (by omega) hv, ?_⟩
      have ht2 := s2 _ _ htt
      have hl : (pmf M0 (endsOf ps (ns.take i))).length = n.toNat := (pmf_length _ _).trans hlM
      generalize hM : pmf M0 (endsOf ps (ns.take i)) = M at *
      have ha : M[p.1.toNat]? = some (mk M p.1.toNat) := mk_some (by omega)
      have hb : M[p.2.toNat]? = some (mk M p.2.toNat) := mk_some (by omega)
      have iA : atI (IL M) p.1 = some (.int (mk M p.1.toNat)) := atI_of (n := p.1.toNat) (by omega) (by rw [List.getElem?_map, ha]; rfl)
      have iB : atI (IL M) p.2 = some (.int (mk M p.2.toNat)) := atI_of (n := p.2.toNat) (by omega) (by rw [List.getElem?_map, hb]; rfl)
      have t0 : atI ([.int p.1, .int p.2] : List V) 0 = some (.int p.1) := rfl
      have t1 : atI ([.int p.1, .int p.2] : List V) 1 = some (.int p.2) := rfl
      -- low, high
      refine ⟨_, rfl, _, rfl, tt, _, 0, _, rfl, rfl, SqT.of ht2, t0, m, _, p.1, _, rfl, rfl, SqL.of hm2, iA, _, rfl, _, rfl, tt, _, 1, _, rfl, rfl, SqT.of ht2, t1, m, _, p.2, _, rfl, rfl, SqL.of hm2, iB, _, _, rfl, ?_⟩
      refine ⟨_, rfl, _, rfl, tt, _, 0, _, rfl, rfl, SqT.of ht2, t0, m, _, p.1, _, rfl, rfl, SqL.of hm2, iA, _, rfl, _, rfl, tt, _, 1, _, rfl, rfl, SqT.of ht2, t1, m, _, p.2, _, rfl, rfl, SqL.of hm2, iB, _, _, rfl, ?_⟩
      have eL : (if mk M p.2.toNat < mk M p.1.toNat then mk M p.2.toNat else mk M p.1.toNat) = min (mk M p.1.toNat) (mk M p.2.toNat) := by
        rw [Int.min_def]; split <;> split <;> omega
      have eH : (if mk M p.2.toNat > mk M p.1.toNat then mk M p.2.toNat else mk M p.1.toNat) = max (mk M p.1.toNat) (mk M p.2.toNat) := by
        rw [Int.max_def]; split <;> split <;> omega
      refine ⟨_, rfl, _, rfl, _, _, rfl, rfl, _, rfl, ?_⟩
      rw [eL, eH]
      have step : pmf M0 (endsOf ps (ns.take (i + 1))) = pm M p.1.toNat p.2.toNat := by rw [endsOf_snoc hz, pmf_snoc, hM, ed]
      refine itd2 (fun hc => ?_) (fun hc => ?_)
      · refine ⟨_, rfl, m, rfl, ⟨_, SqL.of hm2⟩, lc_list (K := K) (a := m) (xs := IL M) (fun j ys H3 => H3 = H2 ∧ j ≤ M.length ∧ ys = IL ((M.take j).map fun k => if k = max (mk M p.1.toNat) (mk M p.2.toNat) then min (mk M p.1.toNat) (mk M p.2.toNat) else k)) ⟨rfl, Nat.zero_le _, rfl⟩ (small60' (by rw [il_length]; omega))
          (fun j ys H3 hj ⟨e, hjl, ey⟩ => ⟨e ▸ SqL.of hm2, by rw [ey, il_length, List.length_map, List.length_take]; omega⟩) ?_ ?_⟩
        · rintro j y ys H3 hj ⟨rfl, hjl, rfl⟩ S hSS
          obtain ⟨k, rfl, hk⟩ := il_get hj
          refine nmY ?_
          refine ⟨_, rfl, _, rfl, rfl, _, rfl, ?_⟩
          have hjl' : j < M.length := (List.getElem?_eq_some_iff.mp hk).1
          have app : ∀ r : Int, r = (if k = max (mk M p.1.toNat) (mk M p.2.toNat) then min (mk M p.1.toNat) (mk M p.2.toNat) else k) →
              IL ((M.take j).map fun k => if k = max (mk M p.1.toNat) (mk M p.2.toNat) then min (mk M p.1.toNat) (mk M p.2.toNat) else k) ++ [.int r] = IL ((M.take (j + 1)).map fun k => if k = max (mk M p.1.toNat) (mk M p.2.toNat) then min (mk M p.1.toNat) (mk M p.2.toNat) else k) := by
            intro r er
            rw [List.take_succ, hk, er]
            simp
          refine itd2 (fun he => ?_) (fun he => ?_)
          · refine ⟨_, rfl, hSS _ _ ⟨rfl, hjl', app _ ?_⟩⟩
            rw [if_pos (V.int.inj he)]
          · refine ⟨_, rfl, hSS _ _ ⟨rfl, hjl', app _ ?_⟩⟩
            rw [if_neg fun z => he (congrArg V.int z)]
        · rintro ys H3 ⟨rfl, _, rfl⟩ p' hp'
          refine ⟨p', _, _, _, _, rfl, same_new s2 hp', .inr (s2.free hp'), ?_⟩
          rw [upd_same, step, il_length, List.take_length]
          unfold pm
          rw [if_pos hc]
      · refine ⟨m, _, _, _, _, rfl, s2, hm0, ?_⟩
        rw [hm2, step]
        unfold pm
        rw [if_neg hc]
    · rintro σ H2 ⟨m, v3, v4, v5, v6, rfl, s2, hm0, hm2⟩
      rw [il_length, List.take_length] at hm2
      exact ⟨_, rfl, q m H2 s2 hm0 hm2⟩
end
end My
namespace My
open PySem L2 PyProof.Rows
set_option maxHeartbeats 4000000
/-- each place's mark, by the program's own steps -/
def sp_piece_marks (K : PySem.W.Frag) (C : Addr) : Sp := fun vs H Q _ => ∃ (w a : Addr) (n : Int) (ps : List (Int × Int)) (ns : List Int), vs = [.ref w, .ref a] ∧ WebAt C H w n ps ∧ GoodW n ps ∧ SqT K H a (IL ns) ∧ (∀ z ∈ ns, 0 ≤ z ∧ z < (ps.length : Int)) ∧
  ∀ (m : Addr) (H' : Hp), Same H H' → H m = none → H' m = some (.lst (IL (pms n.toNat (endsOf ps ns)))) → Q (.ref m) H'
section
variable {P : Program} {w : World} {K : PySem.W.Frag} {mg : Str → Option Value} {base : Heap} {t : Adr}
theorem sc_piece_marks : FnScope ["web", "ties"] ["web", "ties"] (defScope s_piece_marks) := ⟨rfl, rfl, rfl, by decide +kernel, rfl, by decide +kernel, by decide +kernel⟩
theorem ok_piece_marks (T : Txt K mg t) : FnOk P w K mg base CX0 2 t.a_piece_marks t.d_piece_marks ["web", "ties"] (sp_piece_marks K t.A_Web) := by
  refine T.f_piece_marks.ok sc_piece_marks (fun vs H Q E h => ?_) (fun cdv A outer s H vs Q E hr h => ?_)
  · obtain ⟨w, a, n, ps, ns, rfl, _⟩ := h
    rfl
  · obtain ⟨w, a, n, ps, ns, rfl, hW, hG, hS, hI, q⟩ := h
    refine ⟨_, (pss_one (ps_ret (pe_call (ok_merged_marks T) (hr.mono (by decide)) rfl T.m_merged_marks T.f_merged_marks.kp T.b_merged_marks .nil pass0 (pa_cons (pv 0) (pa_cons (pe_callTy (call_list_rng rfl) (by rfl) T.n_list Boot.«list» (pa_cons (pe_callTy call_rng1 (by rfl) T.n_range Boot.«range» (pa_cons (pe_fldK K (pv 0) rfl) pa_nil)) pa_nil)) (pa_cons (pv 1) pa_nil)))))), ?_⟩
    obtain ⟨dx, tl, xs, h1, h2, h3⟩ := id hW
    obtain ⟨g1, g2, g3, g4⟩ := id hG
    refine ⟨_, rfl, _, rfl, w, _, dx, _, _, rfl, h1, T.cl_Web, T.n_Web_places, wf_places _ _, n, rfl, fun r hr0 => ⟨r, 0, n, rfl, upd_same, ⟨by decide, by decide, by omega, by omega⟩, by omega, fun m hm => ?_⟩⟩
    have sm : Same H (upd (upd H r (.rng 0 n)) m (.lst ((rngI 0 n).map V.int))) := same_new (same_at hr0) hm
    refine ⟨_, rfl, w, m, a, n, ps, (List.range n.toNat).map (fun (i : Nat) => (i : Int)), true, ns, rfl, hW.same sm, hG, ?_, by simp, sqT_same sm hS, hI, fun m' H' s' hf hm' => ?_⟩
    · rw [upd_same, rngI_zero]
    · refine q m' H' (sm.trans s') ?_ hm'
      rcases hf with rfl | hf
      · exact (same_at hr0).free hm
      · exact sm.free hf
end
end My
namespace My
open PySem L2 PyProof.Rows
set_option maxHeartbeats 4000000
/-- the pieces over a set, by their marks -/
def sp_pieces_of (K : PySem.W.Frag) (C : Addr) : Sp := fun vs H Q _ => ∃ (w a : Addr) (n : Int) (ps : List (Int × Int)) (kd : Bool) (ns : List Int), vs = [.ref w, .ref a] ∧ WebAt C H w n ps ∧ GoodW n ps ∧ SqK kd K H a (IL ns) ∧ IsSet ps.length ns ∧
  ∀ (r : Addr) (as : List Addr) (H' : Hp), Same H H' → H r = none → H' r = some (.lst (as.map V.ref)) → r ∉ as → GrpAt H H' (grp (pms n.toNat (endsOf ps ns))) as → Q (.ref r) H'
section
variable {P : Program} {w : World} {K : PySem.W.Frag} {mg : Str → Option Value} {base : Heap} {t : Adr}
theorem sc_pieces_of : FnScope ["web", "ties", "pieces", "place", "mark"] ["web", "ties"] (defScope s_pieces_of) := ⟨rfl, rfl, rfl, by decide +kernel, rfl, by decide +kernel, by decide +kernel⟩
theorem ok_pieces_of (T : Txt K mg t) : FnOk P w K mg base CX0 4 t.a_pieces_of t.d_pieces_of ["web", "ties"] (sp_pieces_of K t.A_Web) := by
  refine T.f_pieces_of.ok sc_pieces_of (fun vs H Q E h => ?_) (fun cdv A outer s H vs Q E hr h => ?_)
  · obtain ⟨w, a, n, ps, kd, ns, rfl, _⟩ := h
    rfl
  · obtain ⟨w, a, n, ps, kd, ns, rfl, hW, hG, hS, hI, q⟩ := h
    refine ⟨_, (pss_cons (ps_set (i := 2) sc_pieces_of.nd rfl (Or.inl rfl) pe_dnewK)
      (pss_cons (ps_for PassesOwn.never rfl (pi_enumK K rfl T.n_enumerate (pa_cons (pe_call (ok_piece_marks T) (hr.mono (by decide)) rfl T.m_piece_marks T.f_piece_marks.kp T.b_piece_marks .nil pass0 (pa_cons (pv 0) (pa_cons (pe_call (ok_made_set T) (hr.mono (by decide)) rfl T.m_made_set T.f_made_set.kp T.b_made_set .nil pass0 (pa_cons (pv 0) (pa_cons (pv 1) pa_nil))) pa_nil))) pa_nil)) (pg_tupK (n := 2) K rfl (pgs_cons (pg_name (i := 3) sc_pieces_of.nd rfl (Or.inl rfl)) (pgs_cons (pg_name (i := 4) sc_pieces_of.nd rfl (Or.inl rfl)) pgs_nil)))
      (pss_one (ps_expr (pe_bmK K PySem.F.plainAttrs_list PySem.F.slot_list_append PySem.F.type_list_append mt_append (pe_bmK K PySem.F.plainAttrs_dict PySem.F.slot_dict_setdefault PySem.F.type_dict_setdefault mt_setdefault (pv 2) (pa_cons (pv 4) (pa_cons (pe_lst pa_nil) pa_nil))) (pa_cons (pv 3) pa_nil)))))
      (pss_one (ps_ret (pe_callTy (call_list_view rfl) (by rfl) T.n_list Boot.«list» (pa_cons (pe_bm0K K PySem.F.plainAttrs_dict PySem.F.slot_dict_values PySem.F.type_dict_values mt_values (pv 2)) pa_nil)))))), ?_⟩
    intro d hd
    have s0 : Same H (upd H d (.dK [])) := same_at hd
    refine ⟨_, rfl, _, rfl, _, rfl, w, a, n, ps, kd, ns, rfl, hW.same s0, hS.same s0, hI, fun r H1 s1 hr1 => ?_⟩
    refine ⟨w, r, n, ps, ns, rfl, (hW.same s0).same s1, hG, hr1, hI.all, fun m H2 s2 hm1 hm2 => ?_⟩
    have s02 : Same H H2 := (s0.trans s1).trans s2
    have hd2 : H2 d = some (.dK []) := s2 _ _ (s1 _ _ upd_same)
    have hl : (pms n.toNat (endsOf ps ns)).length = n.toNat := pms_length _ _
    generalize hM : pms n.toNat (endsOf ps ns) = M at *
    have hm0 : H m = none := (s0.trans s1).free hm1
    have n14 : M.length ≤ 14 := by have := hG.2.1; omega
    refine ⟨m, rfl, ⟨_, SqL.of hm2⟩, ?_⟩
    refine for_enum (K := K) (a := m) (xs := IL M) (fun i σ H3 => ∃ (as : List Addr) (v3 v4 : Option V), σ = [some (.ref w), some (.ref a), some (.ref d), v3, v4] ∧ i ≤ M.length ∧ Same H H3 ∧ H3 m = some (.lst (IL M)) ∧ H3 d = some (.dK (gkv (grpA M i) as)) ∧ d ∉ as ∧ m ∉ as ∧ GrpAt H H3 (grpA M i) as ∧ as.length ≤ i)
      ⟨[], none, none, rfl, Nat.zero_le _, s02, hm2, hd2, by simp, by simp, ⟨rfl, List.nodup_nil, fun i kv a e => by simp [grpA] at e, fun a ha => by simp at ha⟩, Nat.le_refl _⟩ (fun i σ H3 _ ⟨_, _, _, _, _, _, h, _⟩ => SqL.of h) ?_ ?_
    · rintro i x σ H3 pt hpt hi ⟨as, v3, v4, rfl, hil, s3, hm3, hd3, nda, nma, gA, hal⟩
      obtain ⟨k, rfl, hk⟩ := il_get hi
      have hk' : mk M i = k := getD_of hk
      have hil' : i < M.length := (List.getElem?_eq_some_iff.mp hk).1
      have s4 : Same H3 (upd H3 pt (.tup [.int i, .int k])) := same_at hpt
      refine ⟨pt, _, rfl, SqT.of upd_same, rfl, _, _, rfl, _, _, rfl, rfl, ?_⟩
      refine ⟨_, rfl, .inr (.inr (.inl ⟨rfl, .inl ⟨_, s4 _ _ hd3⟩⟩)), _, rfl, (by show 0 ≤ sizeLine; exact Nat.zero_le _), fun l hl0 => ?_⟩
      have s5 : Same H3 (upd (upd H3 pt (.tup [.int i, .int k])) l (.lst [])) := same_new s4 hl0
      have hd5 := s5 _ _ hd3
      have hl3 : H3 l = none := s4.free hl0
      have ndl : d ≠ l := ne_of_none hd3 hl3
      have gl := gA.len
      refine ⟨d, gkv (grpA M i) as, Sum.inl k, .ref l, rfl, rfl, hd5, ?_, fun v hv => ?_, fun hv => ?_⟩
      · rw [gkv_length gl]
        exact small60' (by omega)
      · -- the mark has its list
        rcases gkv_val (g := grpA M i) (as := as) (k := k) gl with ⟨h1, _⟩ | ⟨j, kv, b, e1, e2, e3, e4⟩
        · rw [h1] at hv; cases hv
        · rw [e4] at hv
          cases hv
          have hb5 := s5 _ _ (gA.at_ j kv b e1 e2)
          have hkm : k ∈ (grpA M i).map (·.1) := List.mem_map.mpr ⟨kv, List.mem_of_getElem? e1, e3⟩
          have hlen : kv.2.length ≤ i := grpA_len (List.mem_of_getElem? e1)
          refine ⟨.inl ⟨rfl, _, SqL.of hb5⟩, _, rfl, b, _, .int i, rfl, rfl, hb5, ?_, ?_⟩
          · rw [il_length]
            exact small60' (by omega)
          · have hbas : b ∈ as := List.mem_of_getElem? e2
            have hdb : d ≠ b := fun z => nda (z ▸ hbas)
            have hmb : m ≠ b := fun z => nma (z ▸ hbas)
            have hb0 := gA.new b hbas
            have ekeys : (grpA M (i + 1)).map (·.1) = (grpA M i).map (·.1) := by
              show (gstep (grpA M i) (i : Int) (mk M i)).map (·.1) = _
              rw [gstep_keys, hk', if_pos hkm]
            refine ⟨as, _, _, rfl, hil', same_upd hb0 (s3.trans s5), by rw [upd_ne hmb]; exact s5 _ _ hm3, by rw [upd_ne hdb, hd5, gkv_keys ekeys], nda, nma, ⟨?_, gA.nd, ?_, gA.new⟩, by omega⟩
            · have := congrArg List.length ekeys
              rw [List.length_map, List.length_map] at this
              omega
            · intro i2 kv2 a2 f1 f2
              have f1 : (gstep (grpA M i) (i : Int) (mk M i))[i2]? = some kv2 := f1
              unfold gstep at f1
              rw [hk', if_pos hkm, List.getElem?_map] at f1
              cases f3 : (grpA M i)[i2]? with
              | none => rw [f3] at f1; cases f1
              | some kv3 =>
                rw [f3] at f1
                have f1 : (if kv3.1 = k then (kv3.1, kv3.2 ++ [(i : Int)]) else kv3) = kv2 := Option.some.inj f1
                by_cases hj : i2 = j
                · subst hj
                  rw [e1] at f3
                  cases f3
                  rw [e2] at f2
                  cases f2
                  rw [if_pos e3] at f1
                  subst f1
                  rw [upd_same]
                  simp
                · have hab : a2 ≠ b := fun z => by
                    subst z
                    exact hj (nodup_get gA.nd f2 e2)
                  have hkk : ¬ kv3.1 = k := fun z => hj (nodup_get (grpA_nodup M i) (by rw [List.getElem?_map, f3]; exact congrArg some z) (by rw [List.getElem?_map, e1]; exact congrArg some e3))
                  rw [if_neg hkk] at f1
                  subst f1
                  rw [upd_ne hab]
                  exact s5 _ _ (gA.at_ i2 kv3 a2 f3 f2)
      · -- a new list
        rcases gkv_val (g := grpA M i) (as := as) (k := k) gl with ⟨h1, hkn⟩ | ⟨j, kv, b, e1, e2, e3, e4⟩
        · have hl6 : (upd (upd (upd H3 pt (.tup [.int i, .int k])) l (.lst [])) d (.dK (gkv (grpA M i) as ++ [(Sum.inl k, .ref l)]))) l = some (.lst []) := by rw [upd_ne (Ne.symm ndl), upd_same]
          refine ⟨.inl ⟨rfl, _, SqL.of hl6⟩, _, rfl, l, [], .int i, rfl, rfl, hl6, (by show 0 < sizeLine; decide), ?_⟩
          have hl0' : H l = none := s3.free hl3
          have hlas : l ∉ as := fun z => by
            obtain ⟨_, e⟩ := gA.mem z
            rw [hl3] at e
            cases e
          have hml : m ≠ l := ne_of_none hm3 hl3
          have hmd : m ≠ d := ne_of hm3 hd3 (fun z => nomatch z)
          have egr : grpA M (i + 1) = grpA M i ++ [(k, [(i : Int)])] := by
            show gstep (grpA M i) (i : Int) (mk M i) = _
            unfold gstep
            rw [hk', if_neg hkn]
          have hdH : H d = none := hd
          refine ⟨as ++ [l], _, _, rfl, hil', same_upd hl0' (same_upd hdH (s3.trans s5)), by rw [upd_ne hml, upd_ne hmd]; exact s5 _ _ hm3, ?_, ?_, ?_, ⟨?_, ?_, ?_, ?_⟩, ?_⟩
          · rw [upd_ne ndl, upd_same, egr, gkv_snoc gl]
          · rw [List.mem_append, List.mem_singleton]
            rintro (z | z)
            · exact nda z
            · exact ndl z
          · rw [List.mem_append, List.mem_singleton]
            rintro (z | z)
            · exact nma z
            · exact hml z
          · rw [egr, List.length_append, List.length_append, gl]
            rfl
          · exact nd_snoc gA.nd hlas
          · intro i2 kv2 a2 f1 f2
            rw [egr] at f1
            by_cases hi2 : i2 < (grpA M i).length
            · rw [List.getElem?_append_left hi2] at f1
              rw [List.getElem?_append_left (by omega)] at f2
              have e := gA.at_ i2 kv2 a2 f1 f2
              have n1 : a2 ≠ l := ne_of_none e hl3
              have n2 : a2 ≠ d := ne_of e hd3 (fun z => nomatch z)
              rw [upd_ne n1, upd_ne n2]
              exact s5 _ _ e
            · have h2 : i2 = (grpA M i).length := by
                have := (List.getElem?_eq_some_iff.mp f1).1
                rw [List.length_append, List.length_singleton] at this
                omega
              subst h2
              rw [List.getElem?_append_right (Nat.le_refl _), Nat.sub_self] at f1
              rw [List.getElem?_append_right (by omega), gl, Nat.sub_self] at f2
              cases f1
              cases f2
              rw [upd_same]
              rfl
          · intro a2 ha2
            rcases List.mem_append.mp ha2 with z | z
            · exact gA.new a2 z
            · rw [List.mem_singleton.mp z]; exact hl0'
          · rw [List.length_append, List.length_singleton]
            omega
        · rw [e4] at hv; cases hv
    · rintro σ H3 ⟨as, v3, v4, rfl, hil, s3, hm3, hd3, nda, nma, gA, hal⟩
      rw [il_length] at hd3 gA
      refine ⟨_, rfl, .inr (.inr (.inl ⟨rfl, .inl ⟨_, hd3⟩⟩)), d, _, rfl, rfl, hd3, fun p hp => ?_⟩
      have s6 : Same H3 (upd H3 p (viewO p d)) := same_at hp
      refine ⟨p, d, _, rfl, upd_same, s6 _ _ hd3, fun r hr0 => ?_⟩
      have s7 : Same H3 (upd (upd H3 p (viewO p d)) r (.lst ((gkv (grpA M M.length) as).map (·.2)))) := same_new s6 hr0
      refine q r as _ (s3.trans s7) ((s3.trans s6).free hr0) (by rw [upd_same, gkv_snd gA.len]) (fun z => ?_) (gA.same s7)
      obtain ⟨_, e⟩ := gA.mem z
      rw [s6.free hr0] at e
      cases e
end
end My
namespace My
open PySem L2 PyProof.Rows
set_option maxHeartbeats 4000000
def sp_is_joined (K : PySem.W.Frag) (C : Addr) : Sp := fun vs H Q _ => ∃ (w a : Addr) (n : Int) (ps : List (Int × Int)) (kd : Bool) (ns : List Int), vs = [.ref w, .ref a] ∧ WebAt C H w n ps ∧ GoodW n ps ∧ SqK kd K H a (IL ns) ∧ IsSet ps.length ns ∧
  ∀ (b : Bool) (H' : Hp), Same H H' → (b = true ↔ (grp (pms n.toNat (endsOf ps ns))).length = 1) → Q (.bl b) H'
section
variable {P : Program} {w : World} {K : PySem.W.Frag} {mg : Str → Option Value} {base : Heap} {t : Adr}
theorem sc_is_joined : FnScope ["web", "ties"] ["web", "ties"] (defScope s_is_joined) := ⟨rfl, rfl, rfl, by decide +kernel, rfl, by decide +kernel, by decide +kernel⟩
theorem ok_is_joined (T : Txt K mg t) : FnOk P w K mg base CX0 5 t.a_is_joined t.d_is_joined ["web", "ties"] (sp_is_joined K t.A_Web) := by
  refine T.f_is_joined.ok sc_is_joined (fun vs H Q E h => ?_) (fun cdv A outer s H vs Q E hr h => ?_)
  · obtain ⟨w, a, n, ps, kd, ns, rfl, _⟩ := h
    rfl
  · obtain ⟨w, a, n, ps, kd, ns, rfl, hW, hG, hS, hI, q⟩ := h
    refine ⟨_, (pss_one (ps_ret (pe_cmpR op_eq (pe_callB (call_lenK K) (by rfl) T.n_len Boot.«len» (pa_cons (pe_call (ok_pieces_of T) (hr.mono (by decide)) rfl T.m_pieces_of T.f_pieces_of.kp T.b_pieces_of .nil pass0 (pa_cons (pv 0) (pa_cons (pv 1) pa_nil))) pa_nil)) pe_int (nomark _)))), ?_⟩
    refine ⟨_, rfl, _, rfl, w, a, n, ps, kd, ns, rfl, hW, hG, hS, hI, fun r as H' s1 hr0 hr1 hnr gA => ?_⟩
    refine ⟨r, _, rfl, .inl (SqL.of hr1), rfl, ?_⟩
    rw [List.length_map, gA.len, dec_int]
    refine q _ H' s1 ?_
    rw [decide_eq_true_iff]
    omega
end
end My
namespace My
open PySem L2 PyProof.Rows
set_option maxHeartbeats 4000000
def sp_refuse_parted (K : PySem.W.Frag) (C B : Addr) : Sp := fun vs H Q E => ∃ (w : Addr) (n : Int) (ps : List (Int × Int)), vs = [.ref w] ∧ WebAt C H w n ps ∧ GoodW n ps ∧
  (Joined n ps → ∀ H' : Hp, Same H H' → Q .non H') ∧ (¬ Joined n ps → ∀ H' : Hp, Same H H' → E (.ref B) none H')
section
variable {P : Program} {w : World} {K : PySem.W.Frag} {mg : Str → Option Value} {base : Heap} {t : Adr}
theorem sc_refuse_parted : FnScope ["web"] ["web"] (defScope s_refuse_parted) := ⟨rfl, rfl, rfl, by decide +kernel, rfl, by decide +kernel, by decide +kernel⟩
theorem ok_refuse_parted (T : Txt K mg t) : FnOk P w K mg base (CXW P w) 6 t.a_refuse_parted t.d_refuse_parted ["web"] (sp_refuse_parted K t.A_Web t.A_Parted) := by
  refine T.f_refuse_parted.okX sc_refuse_parted (fun vs H Q E h => ?_) (fun cdv A outer s H vs Q E hr h => ?_)
  · obtain ⟨w, n, ps, rfl, _⟩ := h
    rfl
  · obtain ⟨w, n, ps, rfl, hW, hG, q, qe⟩ := h
    refine ⟨_, (pss_one (ps_if (pt_not (pt_val (pe_call (ok_is_joined T) (hr.mono (by decide)) rfl T.m_is_joined T.f_is_joined.kp T.b_is_joined .nil pass0 (pa_cons (pv 0) (pa_cons (pe_call (ok_all_ties T) (hr.mono (by decide)) rfl T.m_all_ties T.f_all_ties.kp T.b_all_ties .nil pass0 (pa_cons (pv 0) pa_nil)) pa_nil)))))
      (pss_one (ps_raise T.x_Parted T.c_Parted (pa_cons pe_str pa_nil)))
      pss_nil)), ?_⟩
    refine ⟨_, rfl, _, rfl, w, n, ps, rfl, hW, by have := hG.2.2.1; omega, fun r H1 s1 hr0 hr1 => ?_⟩
    refine ⟨w, r, n, ps, true, rgL ps.length, rfl, hW.same s1, hG, SqT.of hr1, rgL_set _, fun b H2 s2 hb => ⟨_, rfl, ?_⟩⟩
    rw [grp_conn (by have := hG.1; omega) (ends_in hG (rgL_set _).all)] at hb
    refine itnb (fun z => ?_) (fun z => ?_)
    · exact q (hb.mp z) H2 (s1.trans s2)
    · exact ⟨by show 1 ≤ sizeLine; decide, qe (fun g => by rw [hb.mpr g] at z; cases z) H2 (s1.trans s2)⟩
end
end My
namespace My
open PySem L2 PyProof.Rows
set_option maxHeartbeats 4000000
/-- the ties inside first, then those of the order: each that closes no ring -/
def sp_grown_tree (K : PySem.W.Frag) (C : Addr) : Sp := fun vs H Q _ => ∃ (w a b : Addr) (n : Int) (ps : List (Int × Int)) (ka kb : Bool) (ns os : List Int), vs = [.ref w, .ref a, .ref b] ∧ WebAt C H w n ps ∧ GoodW n ps ∧ SqK ka K H a (IL ns) ∧ SqK kb K H b (IL os) ∧ ns.length ≤ 1000 ∧ os.length ≤ 1000 ∧ (∀ z ∈ ns ++ os, 0 ≤ z ∧ z < (ps.length : Int)) ∧
  (((grw n.toNat ps (ns ++ os)).take ns.length ≠ ns ∨ ((grw n.toNat ps (ns ++ os)).length : Int) < n - 1) → ∀ H' : Hp, Same H H' → Q .non H') ∧
  ((grw n.toNat ps (ns ++ os)).take ns.length = ns → ¬ ((grw n.toNat ps (ns ++ os)).length : Int) < n - 1 → ∀ (r : Addr) (ms : List Int) (H' : Hp), ms.Perm (grw n.toNat ps (ns ++ os)) → ms.Pairwise (· ≤ ·) → Same H H' → H r = none → H' r = some (.tup (IL ms)) → Q (.ref r) H')
section
variable {P : Program} {w : World} {K : PySem.W.Frag} {mg : Str → Option Value} {base : Heap} {t : Adr}
theorem sc_grown_tree : FnScope ["web", "inside", "order", "marks", "grown", "tie", "ends"] ["web", "inside", "order"] (defScope s_grown_tree) := ⟨rfl, rfl, rfl, by decide +kernel, rfl, by decide +kernel, by decide +kernel⟩
theorem ok_grown_tree (T : Txt K mg t) : FnOk P w K mg base CX0 3 t.a_grown_tree t.d_grown_tree ["web", "inside", "order"] (sp_grown_tree K t.A_Web) := by
  refine T.f_grown_tree.ok sc_grown_tree (fun vs H Q E h => ?_) (fun cdv A outer s H vs Q E hr h => ?_)
  · obtain ⟨w, a, b, n, ps, ka, kb, ns, os, rfl, _⟩ := h
    rfl
  · obtain ⟨w, a, b, n, ps, ka, kb, ns, os, rfl, hW, hG, hS, hS2, hnl, hol, hI, q0, q1⟩ := h
    refine ⟨_, (pss_cons (ps_set (i := 3) sc_grown_tree.nd rfl (Or.inl rfl) (pe_call (ok_piece_marks T) (hr.mono (by decide)) rfl T.m_piece_marks T.f_piece_marks.kp T.b_piece_marks .nil pass0 (pa_cons (pv 0) (pa_cons (pe_tup pa_nil) pa_nil))))
      (pss_cons (ps_set (i := 4) sc_grown_tree.nd rfl (Or.inl rfl) (pe_lst pa_nil))
      (pss_cons (ps_for PassesOwn.never rfl (pi_listK K (pe_op op_cat (pe_callTy (call_listK K) (by rfl) T.n_list Boot.«list» (pa_cons (pv 1) pa_nil)) (pe_callTy (call_listK K) (by rfl) T.n_list Boot.«list» (pa_cons (pv 2) pa_nil)))) (pg_name (i := 5) sc_grown_tree.nd rfl (Or.inl rfl))
      (pss_cons (ps_set (i := 6) sc_grown_tree.nd rfl (Or.inl rfl) (pe_ix (ix_listK K) (pe_fldK K (pv 0) rfl) (pv 5) (fun _ _ => rfl)))
      (pss_one (ps_if (pt_cmpR op_ne (pe_ix (ix_listK K) (pv 3) (pe_ix (ix_tupK K) (pv 6) pe_int (fun _ _ => rfl)) (fun _ _ => rfl)) (pe_ix (ix_listK K) (pv 3) (pe_ix (ix_tupK K) (pv 6) pe_int (fun _ _ => rfl)) (fun _ _ => rfl)) (nomark _))
      (pss_cons (ps_set (i := 3) sc_grown_tree.nd rfl (Or.inl rfl) (pe_call (ok_merged_marks T) (hr.mono (by decide)) rfl T.m_merged_marks T.f_merged_marks.kp T.b_merged_marks .nil pass0 (pa_cons (pv 0) (pa_cons (pv 3) (pa_cons (pe_tup (pa_cons (pv 5) pa_nil)) pa_nil)))))
      (pss_one (ps_expr (pe_bmK K PySem.F.plainAttrs_list PySem.F.slot_list_append PySem.F.type_list_append mt_append (pv 4) (pa_cons (pv 5) pa_nil)))))
      pss_nil))))
      (pss_cons (ps_if (PW.pt (pw_or (pt_cmpR (op_neDK K (hu8 hr)) (pe_slice (sl_listK K) (pv 4) po_none (po_some (pe_callB (call_lenK K) (by rfl) T.n_len Boot.«len» (pa_cons (pv 1) pa_nil)))) (pe_callTy (call_listK K) (by rfl) T.n_list Boot.«list» (pa_cons (pv 1) pa_nil)) (nomark _)) (pw_or1 (pt_cmpR op_lt (pe_callB (call_lenK K) (by rfl) T.n_len Boot.«len» (pa_cons (pv 4) pa_nil)) (pe_op op_sub (pe_fldK K (pv 0) rfl) pe_int) (nomark _)))))
      (pss_one (ps_ret pe_non))
      pss_nil)
      (pss_one (ps_ret (pe_callTy (call_tupleK K) (by rfl) T.n_tuple Boot.«tuple» (pa_cons (pe_callB (call_sortedK K) (by rfl) T.n_sorted Boot.«sorted» (pa_cons (pv 4) pa_nil)) pa_nil)))))))), ?_⟩
    obtain ⟨g1, g2, g3, g4⟩ := id hG
    have one : 1 ≤ sizeLine := by decide
    -- marks = piece_marks(web, ())
    refine ⟨_, rfl, Nat.zero_le _, fun r0 hr0 => ?_⟩
    have s0 := same_at (o := .tup []) hr0
    refine ⟨w, r0, n, ps, [], rfl, hW.same s0, hG, SqT.of upd_same, fun _ e => (nomatch e), fun m H1 s1 hm0 hm1 => ?_⟩
    have s01 := s0.trans s1
    have hmf := s0.free hm0
    -- grown = []
    refine ⟨Nat.zero_le _, fun gl hgl => ?_⟩
    have s2 := same_at (o := .lst []) hgl
    have s02 := s01.trans s2
    have hgf := s01.free hgl
    -- list(inside) + list(order)
    refine ⟨_, rfl, a, _, rfl, (hS.same s02).or, fun l1 hl1 => ?_⟩
    have s3 := same_at (o := .lst (IL ns)) hl1
    have s03 := s02.trans s3
    refine ⟨_, rfl, b, _, rfl, (hS2.same s03).or, fun l2 hl2 => ?_⟩
    have s4 := same_at (o := .lst (IL os)) hl2
    have s04 := s03.trans s4
    refine ⟨l1, l2, _, _, rfl, rfl, s4 _ _ upd_same, upd_same, small60 (by rw [il_length, il_length]; omega), fun cl hcl => ?_⟩
    have s5 := same_at (o := .lst (IL ns ++ IL os)) hcl
    have s05 := s04.trans s5
    have eI : IL ns ++ IL os = IL (ns ++ os) := (il_append _ _).symm
    have hgl5 := s5 _ _ (s4 _ _ (s3 _ _ (upd_same (H := H1) (a := gl) (o := .lst []))))
    have hm5 := s5 _ _ (s4 _ _ (s3 _ _ (s2 _ _ hm1)))
    have hcl5 := upd_same (H := upd (upd (upd H1 gl (.lst [])) l1 (.lst (IL ns))) l2 (.lst (IL os))) (a := cl) (o := .lst (IL ns ++ IL os))
    have ncg : cl ≠ gl := fun e => by rw [e] at hcl; exact absurd ((s4 _ _ (s3 _ _ (upd_same (H := H1) (a := gl) (o := .lst [])))).symm.trans hcl) (by simp)
    have nmg : m ≠ gl := fun e => by rw [e] at hm1; exact absurd (hm1.symm.trans hgl) (by simp)
    rw [eI] at s5 s05 hgl5 hm5 hcl5 ⊢
    generalize upd (upd (upd (upd H1 gl (.lst [])) l1 (.lst (IL ns))) l2 (.lst (IL os))) cl (.lst (IL (ns ++ os))) = H5 at *
    refine ⟨cl, rfl, ⟨_, SqL.of hcl5⟩, for_list (K := K) (a := cl) (xs := IL (ns ++ os)) (fun i σ H2 => ∃ (mc : Addr) (v5 v6 : Option V), σ = [some (.ref w), some (.ref a), some (.ref b), some (.ref mc), some (.ref gl), v5, v6] ∧ Same H H2 ∧ mc ≠ gl ∧
        H2 cl = some (.lst (IL (ns ++ os))) ∧ H2 mc = some (.lst (IL (pms n.toNat (endsOf ps (grw n.toNat ps ((ns ++ os).take i)))))) ∧ H2 gl = some (.lst (IL (grw n.toNat ps ((ns ++ os).take i)))))
      ⟨m, none, none, rfl, s05, nmg, hcl5, hm5, hgl5⟩ (fun i σ H2 _ ⟨_, _, _, _, _, _, e, _⟩ => SqL.of e) ?_ ?_⟩
    · rintro i x σ H2 hi ⟨mc, v5, v6, rfl, s2, hne, hc2, hm2, hg2⟩
      obtain ⟨z, rfl, hz⟩ := il_get hi
      obtain ⟨z0, z1⟩ := hI z (List.mem_of_getElem? hz)
      have hIt : ∀ y ∈ (ns ++ os).take i, 0 ≤ y ∧ y < (ps.length : Int) := fun y hy => hI y (List.mem_of_mem_take hy)
      have est : (ns ++ os).take (i + 1) = (ns ++ os).take i ++ [z] := by rw [List.take_succ, hz]; rfl
      have eG : grw n.toNat ps ((ns ++ os).take (i + 1)) = gst n.toNat ps (grw n.toNat ps ((ns ++ os).take i)) z := by rw [est, grw_snoc]
      have hin := grw_in hG hIt
      have hgl14 := grw_len hG hIt
      generalize grw n.toNat ps ((ns ++ os).take i) = G at *
      obtain ⟨dx, tl, xs, h1, h2, h3⟩ := hW.same s2
      obtain ⟨p, hp⟩ : ∃ p, ps[z.toNat]? = some p := ⟨_, List.getElem?_eq_getElem (by omega)⟩
      obtain ⟨v, hv, tt, rfl, htt⟩ := h3.2 z.toNat p hp
      obtain ⟨e1, e2, e3, e4⟩ := g4 p (List.mem_of_getElem? hp)
      have ed : endOf ps z = (p.1.toNat, p.2.toNat) := by unfold endOf; rw [getD_of hp]
      have hl : (pms n.toNat (endsOf ps G)).length = n.toNat := pms_length _ _
      have iA : atI (IL (pms n.toNat (endsOf ps G))) p.1 = some (.int (mk (pms n.toNat (endsOf ps G)) p.1.toNat)) := atI_of (n := p.1.toNat) (by omega) (il_at (mk_some (by omega)))
      have iB : atI (IL (pms n.toNat (endsOf ps G))) p.2 = some (.int (mk (pms n.toNat (endsOf ps G)) p.2.toNat)) := atI_of (n := p.2.toNat) (by omega) (il_at (mk_some (by omega)))
      have t0 : atI ([.int p.1, .int p.2] : List V) 0 = some (.int p.1) := rfl
      have t1 : atI ([.int p.1, .int p.2] : List V) 1 = some (.int p.2) := rfl
      have key : mk (pms n.toNat (endsOf ps G)) p.1.toNat = mk (pms n.toNat (endsOf ps G)) p.2.toNat ↔ mk (lms n.toNat (endsOf ps G)) (endOf ps z).1 = mk (lms n.toNat (endsOf ps G)) (endOf ps z).2 := by
        rw [ed, pms_iff hin (by omega) (by omega), lms_iff hin (by omega) (by omega)]
      -- ends = web.ties[tie]
      refine ⟨_, rfl, w, _, dx, _, _, rfl, h1, T.cl_Web, T.n_Web_ties, wf_ties _ _, _, rfl, tl, xs, z, .ref tt, rfl, rfl, SqL.of h2, atI_of (n := z.toNat) (by omega) hv, ?_⟩
      refine ⟨_, rfl, _, rfl, tt, _, 0, _, rfl, rfl, SqT.of htt, t0, mc, _, p.1, _, rfl, rfl, SqL.of hm2, iA, _, rfl, _, rfl, tt, _, 1, _, rfl, rfl, SqT.of htt, t1, mc, _, p.2, _, rfl, rfl, SqL.of hm2, iB, rfl, _, rfl, ?_⟩
      rw [dec_int]
      refine itn2 (fun he => ?_) (fun he => ?_)
      · refine ⟨mc, _, _, rfl, s2, hne, hc2, ?_, ?_⟩
        · rw [eG]; unfold gst; rw [if_pos (key.mp he)]; exact hm2
        · rw [eG]; unfold gst; rw [if_pos (key.mp he)]; exact hg2
      · have eG2 : grw n.toNat ps ((ns ++ os).take (i + 1)) = G ++ [z] := by rw [eG]; unfold gst; rw [if_neg (fun e => he (key.mpr e))]
        refine ⟨_, rfl, _, rfl, _, rfl, one, fun p2 hp2 => ?_⟩
        have s6 := same_at (o := .tup [.int z]) hp2
        refine ⟨w, mc, p2, n, ps, _, true, [z], rfl, (hW.same s2).same s6, hG, s6 _ _ hm2, hl, SqT.of upd_same, fun y hy => by rw [List.mem_singleton.mp hy]; exact ⟨z0, z1⟩, fun m' H7 s7 hf hm7 => ?_⟩
        have s67 := s6.trans s7
        have hg7 := s67 _ _ hg2
        have hc7 := s67 _ _ hc2
        have nm' : m' ≠ gl := by
          rcases hf with rfl | hf
          · exact hne
          · exact fun e => absurd ((s6 _ _ hg2).symm.trans (e ▸ hf)) (by simp)
        refine ⟨_, rfl, .inl ⟨rfl, _, SqL.of hg7⟩, _, rfl, gl, _, _, rfl, rfl, hg7, small60' (by rw [il_length]; omega), ?_⟩
        refine ⟨m', _, _, rfl, same_upd hgf (s2.trans s67), nm', ?_, ?_, ?_⟩
        · rw [upd_ne ncg]; exact hc7
        · rw [upd_ne nm', hm7, eG2, ends_snoc, pms_snoc]
          rfl
        · rw [upd_same, eG2, il_snoc]
    · rintro σ H2 ⟨mc, v5, v6, rfl, s2, hne, hc2, hm2, hg2⟩
      rw [il_length, List.take_length] at hg2
      have hgl14 := grw_len hG hI
      generalize grw n.toNat ps (ns ++ os) = G at *
      -- grown[:len(inside)] != list(inside)
      refine ⟨_, rfl, _, rfl, a, _, rfl, (hS.same s2).or, _, rfl, gl, _, rfl, SqL.of hg2, fun r1 hr1 => ?_⟩
      have ec : cutV (IL G) none (some ((IL ns).length : Int)) = IL (G.take ns.length) := by rw [cut_upto (by omega), Int.toNat_natCast, il_length, il_take]
      rw [ec]
      have s3 := same_at (o := .lst (IL (G.take ns.length))) hr1
      refine ⟨_, rfl, a, _, rfl, (hS.same (s2.trans s3)).or, fun r2 hr2 => ?_⟩
      have s4 := same_at (o := .lst (IL ns)) hr2
      refine ⟨1, _, r1, r2, rfl, rfl, by decide, eqd_ints (SqL.of (s4 _ _ upd_same)) (SqL.of upd_same), _, rfl, ?_⟩
      have s24 := s2.trans (s3.trans s4)
      refine itn2 (fun he => ?_) (fun he => ?_)
      · obtain ⟨dx, tl, xs, h1, h2, h3⟩ := hW.same s24
        have hg4 := s4 _ _ (s3 _ _ hg2)
        refine ⟨_, rfl, gl, _, rfl, .inl (SqL.of hg4), _, rfl, w, _, dx, _, _, rfl, h1, T.cl_Web, T.n_Web_places, wf_places _ _, _, _, rfl, rfl, _, _, rfl, rfl, _, rfl, ?_⟩
        rw [il_length]
        refine itd2 (fun hc => ?_) (fun hc => ?_)
        · exact q0 (.inr hc) _ s24
        · refine ⟨_, rfl, gl, G, rfl, SqL.of hg4, by omega, fun ms hp1 hp2 l hl => ?_⟩
          have s5 := same_at (o := .lst (IL ms)) hl
          refine ⟨l, _, rfl, .inl ⟨SqL.of upd_same, fun r hr => ?_⟩⟩
          exact q1 he hc r ms _ hp1 hp2 ((s24.trans s5).trans (same_at hr)) ((s24.trans s5).free hr) upd_same
      · refine iteT ?_
        exact q0 (.inl he) _ s24
end
end My
namespace My
open PySem L2 PyProof.Rows
set_option maxHeartbeats 4000000
def sp_least_tree (K : PySem.W.Frag) (C B : Addr) : Sp := fun vs H Q E => ∃ (w : Addr) (n : Int) (ps : List (Int × Int)), vs = [.ref w] ∧ WebAt C H w n ps ∧ GoodW n ps ∧
  (¬ ((grd n.toNat ps ps.length).length : Int) < n - 1 → ∀ (r : Addr) (H' : Hp), Same H H' → H' r = some (.tup (IL (grd n.toNat ps ps.length))) → Q (.ref r) H') ∧
  (((grd n.toNat ps ps.length).length : Int) < n - 1 → ∀ H' : Hp, Same H H' → E (.ref B) none H')
section
variable {P : Program} {w : World} {K : PySem.W.Frag} {mg : Str → Option Value} {base : Heap} {t : Adr}
theorem sc_least_tree : FnScope ["web"] ["web"] (defScope s_least_tree) := ⟨rfl, rfl, rfl, by decide +kernel, rfl, by decide +kernel, by decide +kernel⟩
theorem ok_least_tree (T : Txt K mg t) : FnOk P w K mg base (CXW P w) 7 t.a_least_tree t.d_least_tree ["web"] (sp_least_tree K t.A_Web t.A_Parted) := by
  refine T.f_least_tree.okX sc_least_tree (fun vs H Q E h => ?_) (fun cdv A outer s H vs Q E hr h => ?_)
  · obtain ⟨w, n, ps, rfl, _⟩ := h
    rfl
  · obtain ⟨w, n, ps, rfl, hW, hG, q, q1⟩ := h
    refine ⟨_, (pss_cons (ps_expr (pe_call (ok_refuse_parted T) (hr.mono (by decide)) rfl T.m_refuse_parted T.f_refuse_parted.kp T.b_refuse_parted .nil pxs (pa_cons (pv 0) pa_nil)))
      (pss_one (ps_ret (pe_call (ok_grown_tree T) (hr.mono (by decide)) rfl T.m_grown_tree T.f_grown_tree.kp T.b_grown_tree .nil pass0 (pa_cons (pv 0) (pa_cons (pe_tup pa_nil) (pa_cons (pe_call (ok_all_ties T) (hr.mono (by decide)) rfl T.m_all_ties T.f_all_ties.kp T.b_all_ties .nil pass0 (pa_cons (pv 0) pa_nil)) pa_nil))))))), ?_⟩
    have hall : ∀ z ∈ rgL ps.length, 0 ≤ z ∧ z < (ps.length : Int) := fun z hz => rgL_mem.mp hz
    have eg : grw n.toNat ps (rgL ps.length) = grd n.toNat ps ps.length := grw_range _ _ _
    have hj := grd_joined hG
    refine ⟨_, rfl, w, n, ps, rfl, hW, hG, fun hJ H1 s1 => ?_, fun hJ H1 s1 => q1 (by rw [hj] at hJ; omega) H1 s1⟩
    have hf := hj.mp hJ
    refine ⟨_, rfl, Nat.zero_le _, fun r0 hr0 => ?_⟩
    have s0 := same_at (o := .tup []) hr0
    have s10 := s1.trans s0
    refine ⟨_, rfl, w, n, ps, rfl, hW.same s10, by have := hG.2.2.1; omega, fun r2 H2 s2 hr20 hr2 => ?_⟩
    refine ⟨w, r0, r2, n, ps, true, true, [], rgL ps.length, rfl, (hW.same s10).same s2, hG, SqT.of (s2 _ _ upd_same), SqT.of hr2, Nat.zero_le _, by rw [rgL_length]; have := hG.2.2.1; omega, hall, fun hx H3 s3 => ?_, fun _ _ r3 ms H3 hp1 hp2 s3 hr30 hr3 => ?_⟩
    · rw [List.nil_append, eg] at hx
      rcases hx with hx | hx
      · exact absurd rfl hx
      · exact absurd hx hf
    · rw [List.nil_append, eg] at hp1
      have e : ms = grd n.toNat ps ps.length := sorted_uniq hp1 hp2 ((grd_asc _).imp fun h => by omega)
      rw [e] at hr3
      exact q hf r3 H3 (s10.trans (s2.trans s3)) hr3
end
end My
namespace My
open PySem L2 PyProof.Rows
set_option maxHeartbeats 4000000
/-- the web whose trees are the cheapest ones -/
def sp_cheapest_web (K : PySem.W.Frag) (C : Addr) : Sp := fun vs H Q _ => ∃ (w b : Addr) (kd : Bool) (n : Int) (ps : List (Int × Int)) (ls : List Int), vs = [.ref w, .ref b] ∧ WebAt C H w n ps ∧ GoodW n ps ∧ SqK kd K H b (IL ls) ∧ ls.length = ps.length ∧ ∀ (w' : Addr) (H' : Hp), Same H H' → WebAt C H' w' n (cwT n.toNat ps ls) → Q (.ref w') H'
theorem ixN_cw {xs : List V} {i : Int} (h0 : 0 ≤ i) (h1 : i < (xs.length : Int)) : ixN xs.length i = some i.toNat := by
  unfold ixN
  rw [if_pos h0, if_pos (by omega)]
section
variable {P : Program} {w : World} {K : PySem.W.Frag} {mg : Str → Option Value} {base : Heap} {t : Adr}
theorem sc_cheapest_web : FnScope ["web", "lengths", "made", "marks", "length", "level", "merged", "spots", "tie", "ends"] ["web", "lengths"] (defScope s_cheapest_web) := ⟨rfl, rfl, rfl, by decide +kernel, rfl, by decide +kernel, by decide +kernel⟩
theorem ok_cheapest_web (T : Txt K mg t) : FnOk P w K mg base CX0 4 t.a_cheapest_web t.d_cheapest_web ["web", "lengths"] (sp_cheapest_web K t.A_Web) := by
  refine T.f_cheapest_web.ok sc_cheapest_web (fun vs H Q E h => ?_) (fun cdv A outer s H vs Q E hr h => ?_)
  · obtain ⟨w, b, kd, n, ps, ls, rfl, _⟩ := h
    rfl
  · obtain ⟨w, b, kd, n, ps, ls, rfl, hW, hG, hS, hl, q⟩ := h
    refine ⟨_, (pss_cons (ps_expr (pe_call (ok_refuse_bad_row T) (hr.mono (by decide)) rfl T.m_refuse_bad_row T.f_refuse_bad_row.kp T.b_refuse_bad_row .nil passN (pa_cons (pv 0) (pa_cons (pv 1) pa_nil))))
      (pss_cons (ps_set (i := 2) sc_cheapest_web.nd rfl (Or.inl rfl) (pe_callTy (call_listK K) (by rfl) T.n_list Boot.«list» (pa_cons (pe_fldK K (pv 0) rfl) pa_nil)))
      (pss_cons (ps_set (i := 3) sc_cheapest_web.nd rfl (Or.inl rfl) (pe_call (ok_piece_marks T) (hr.mono (by decide)) rfl T.m_piece_marks T.f_piece_marks.kp T.b_piece_marks .nil pass0 (pa_cons (pv 0) (pa_cons (pe_tup pa_nil) pa_nil))))
      (pss_cons (ps_for PassesOwn.never rfl (pi_listK K (pe_sortedSetQ K rfl rfl T.n_sorted rfl T.n_set (pa_cons (pv 1) pa_nil))) (pg_name (i := 4) sc_cheapest_web.nd rfl (Or.inr rfl))
      (pss_cons (ps_lc (i := 5) rfl sc_cheapest_web.nd rfl rfl (sc0 := defScope s_cheapest_web) (N0 := ["web", "lengths", "made", "marks", "length", "level", "merged", "spots", "tie", "ends"]) (N' := ["tie", "own", "length"]) (o := 2) (fr := [4]) ⟨rfl, by decide +kernel, by decide +kernel, by decide +kernel, rfl, by decide +kernel⟩ (pi_enumQ K rfl T.n_enumerate (pa_cons (pv 1) pa_nil)) (own_tup (own_cons (by decide) (own_cons (by decide) own_nil))) (fun _ _ _ _ => (pg_tupK (n := 2) K rfl (pgs_cons (pg_name (i := 0) (show List.Nodup (["tie", "own", "length"] : List Str) by decide +kernel) rfl (Or.inl rfl)) (pgs_cons (pg_name (i := 1) (show List.Nodup (["tie", "own", "length"] : List Str) by decide +kernel) rfl (Or.inl rfl)) pgs_nil)))) (fun _ _ _ _ => (pts_one (pt_cmpR op_eq (pv 1) (pv 2) (nomark _)))) (fun _ _ _ _ => (pv 0)))
      (pss_cons (ps_set (i := 6) sc_cheapest_web.nd rfl (Or.inl rfl) (pe_call (ok_merged_marks T) (hr.mono (by decide)) rfl T.m_merged_marks T.f_merged_marks.kp T.b_merged_marks .nil pass0 (pa_cons (pv 0) (pa_cons (pv 3) (pa_cons (pv 5) pa_nil)))))
      (pss_cons (ps_lc (i := 7) rfl sc_cheapest_web.nd rfl rfl (sc0 := defScope s_cheapest_web) (N0 := ["web", "lengths", "made", "marks", "length", "level", "merged", "spots", "tie", "ends"]) (N' := ["mark", "later"]) (o := 2) (fr := []) ⟨rfl, by decide +kernel, by decide +kernel, by decide +kernel, rfl, by decide +kernel⟩ (pi_zip K rfl T.n_zip (pa_cons (pv 3) (pa_cons (pv 6) pa_nil))) (own_tup (own_cons (by decide) (own_cons (by decide) own_nil))) (fun _ _ _ _ => (pg_tupK (n := 2) K rfl (pgs_cons (pg_name (i := 0) (show List.Nodup (["mark", "later"] : List Str) by decide +kernel) rfl (Or.inl rfl)) (pgs_cons (pg_name (i := 1) (show List.Nodup (["mark", "later"] : List Str) by decide +kernel) rfl (Or.inl rfl)) pgs_nil)))) (fun _ _ _ _ => pts_nil) (fun _ _ _ _ => (pe_ifExp (pt_cmpR op_eq (pv 0) (pv 1) (nomark _)) pe_int (pv 0))))
      (pss_cons (ps_for PassesOwn.never rfl (pi_listK K (pv 5)) (pg_name (i := 8) sc_cheapest_web.nd rfl (Or.inl rfl))
      (pss_cons (ps_set (i := 9) sc_cheapest_web.nd rfl (Or.inl rfl) (pe_ix (ix_listK K) (pe_fldK K (pv 0) rfl) (pv 8) (fun _ _ => rfl)))
      (pss_one (ps_asg (pe_tup (pa_cons (pe_ix (ix_listK K) (pv 7) (pe_ix (ix_tupK K) (pv 9) pe_int (fun _ _ => rfl)) (fun _ _ => rfl)) (pa_cons (pe_ix (ix_listK K) (pv 7) (pe_ix (ix_tupK K) (pv 9) pe_int (fun _ _ => rfl)) (fun _ _ => rfl)) pa_nil))) (pg_sub (pv 2) (pv 8) set_list)))))
      (pss_one (ps_set (i := 3) sc_cheapest_web.nd rfl (Or.inl rfl) (pv 6))))))))
      (pss_one (ps_ret (pe_make T.k_Web (ok_Web___init T) (hr.mono (by decide)) rfl T.c_Web T.b_Web___init .nil pass0 (pa_cons (pe_fldK K (pv 0) rfl) (pa_cons (pv 2) pa_nil))))))))), ?_⟩
    obtain ⟨g1, g2, g3, g4⟩ := id hG
    obtain ⟨dx, tl, xs, h1, h2, h3⟩ := id hW
    have hxl := h3.1
    -- refuse_bad_row
    refine ⟨_, rfl, _, rfl, w, b, n, ps, kd, ls, rfl, hW, hS, fun _ => ?_, fun h => absurd hl h⟩
    -- made
    refine ⟨_, rfl, w, _, dx, _, _, rfl, h1, T.cl_Web, T.n_Web_ties, wf_ties _ _, tl, xs, rfl, .inl (SqL.of h2), fun md hmd => ?_⟩
    have u1 := same_at (o := .lst xs) hmd
    have m1 := upd_same (H := H) (a := md) (o := .lst xs)
    generalize upd H md (.lst xs) = H1 at *
    refine nm ?_
    dsimp only
    -- marks
    refine ⟨_, rfl, Nat.zero_le _, fun t0 ht0 => ?_⟩
    have u2 := same_at (o := .tup []) ht0
    refine ⟨w, t0, n, ps, [], rfl, hW.same (u1.trans u2), hG, SqT.of upd_same, fun z hz => (by cases hz), fun m0 H2 s2 hm0 hm2 => ?_⟩
    have u3 := u2.trans s2
    have md0 : m0 ≠ md := Ne.symm (ne_of_none (u2 _ _ m1) hm0)
    have m2 := u3 _ _ m1
    have t2 := u1.trans u3
    have hmd0 : H md = none := hmd
    refine nm ?_
    dsimp only
    -- the lengths
    refine ⟨_, rfl, kd, b, ls, rfl, hS.same t2, by omega, fun Ls hLa hLm lA hlA => ?_⟩
    have u4 := same_at (o := .lst (IL Ls)) hlA
    have lmd : lA ≠ md := Ne.symm (ne_of_none m2 hlA)
    have hl4 := upd_same (H := H2) (a := lA) (o := .lst (IL Ls))
    have m4 := u4 _ _ m2
    have hm4 := u4 _ _ hm2
    have t4 := t2.trans u4
    show ∃ _, _
    refine ⟨lA, rfl, ⟨_, SqL.of hl4⟩, ?_⟩
    generalize upd H2 lA (.lst (IL Ls)) = H4 at *
    refine for_list (K := K) (a := lA) (xs := IL Ls) (fun j σ H5 => ∃ (m : Addr) (S : List Int) (ys : List V) (v4 v5 v6 v7 v8 v9 : Option V), σ = [some (.ref w), some (.ref b), some (.ref md), some (.ref m), v4, v5, v6, v7, v8, v9] ∧ Same H H5 ∧ m ≠ md ∧ H5 m = some (.lst (IL (pms n.toNat (endsOf ps S)))) ∧ (∀ z, z ∈ S ↔ (0 ≤ z ∧ z < (ps.length : Int)) ∧ lnz ls z ∈ Ls.take j) ∧ H5 md = some (.lst ys) ∧ PairsV H5 ys (mdT n.toNat ps ls fun i => ls.getD i 0 ∈ Ls.take j) ∧ H5 lA = some (.lst (IL Ls)))
      ⟨m0, [], xs, none, none, none, none, none, none, rfl, t4, md0, hm4, fun z => ⟨fun h => (by cases h), fun h => (by cases h.2)⟩, m4, (by rw [mdT_none fun i _ h => (by cases h)]; exact h3.same t4), hl4⟩ (fun j σ H5 _ ⟨_, _, _, _, _, _, _, _, _, _, _, _, _, _, _, _, e⟩ => SqL.of e) ?_ ?_
    · rintro j v σ H5 hj ⟨m, S, ys, v4, v5, v6, v7, v8, v9, rfl, s5, mmd, hm5, hSm, hy5, hY5, hl5⟩
      obtain ⟨x, rfl, hx⟩ := il_get hj
      refine nm ?_
      dsimp only
      -- level
      refine ⟨_, rfl, b, kd, rfl, ⟨_, hS.same s5⟩, lc_enumQ (K := K) (kd := kd) (a := b) (xs := IL ls) (fun i zs H6 => Same H5 H6 ∧ zs = IL (lvl ls x i)) ⟨Same.refl _, rfl⟩ (small60' (by rw [il_length]; omega)) (fun i zs H6 hi ⟨e, ez⟩ => ⟨hS.same (s5.trans e), by rw [ez, il_length]; exact (lvl_set ls x i).len⟩) ?_ ?_⟩
      · rintro i v zs H6 pt hpt hi ⟨s6, rfl⟩ SS hSS
        obtain ⟨y, rfl, hy⟩ := il_get hi
        have s7 := same_at (o := .tup [.int i, .int y]) hpt
        refine ⟨pt, _, rfl, SqT.of upd_same, rfl, _, _, rfl, _, _, rfl, rfl, ?_⟩
        have s67 := s6.trans s7
        have ey : ls.getD i 0 = y := getD_of hy
        refine ⟨_, rfl, _, rfl, rfl, _, rfl, ?_⟩
        rw [dec_int]
        refine itd2 (fun he => ?_) (fun he => ?_)
        · refine ⟨_, rfl, hSS _ _ ⟨s67, ?_⟩⟩
          rw [lvl_succ, if_pos (ey.trans he)]
          exact (il_snoc ..).symm
        · refine hSS _ _ ⟨s67, ?_⟩
          rw [lvl_succ, if_neg (fun h => he (ey.symm.trans h)), List.append_nil]
      rintro zs H6 ⟨s6, rfl⟩ lv hlv
      rw [il_length, hl]
      have s7 := same_at (o := .lst (IL (lvl ls x ps.length))) hlv
      have hv7 := upd_same (H := H6) (a := lv) (o := .lst (IL (lvl ls x ps.length)))
      have hy6 := s6 _ _ hy5
      have lvmd : lv ≠ md := Ne.symm (ne_of_none hy6 hlv)
      have s57 := s6.trans s7
      generalize upd H6 lv (.lst (IL (lvl ls x ps.length))) = H7 at *
      refine nm ?_
      dsimp only
      -- merged
      obtain ⟨up1, up2, up3⟩ := marks_up hG hl hLa hLm hx hSm
      have at1 := marks_at hG hl hLa hLm hx hSm
      refine ⟨_, rfl, _, rfl, _, rfl, w, m, lv, n, ps, _, false, lvl ls x ps.length, rfl, (hW.same s5).same s57, hG, s57 _ _ hm5, pms_length _ _, SqL.of hv7, (lvl_set ls x ps.length).all, fun m' H8 s8 hm' hm8 => ?_⟩
      rw [up1] at hm8
      have hy7 := s57 _ _ hy5
      have hy8 := s8 _ _ hy7
      have m'md : m' ≠ md := by
        rcases hm' with e | e
        · rw [e]; exact mmd
        · exact Ne.symm (ne_of_none hy7 e)
      have s58 := s57.trans s8
      have hm58 := s58 _ _ hm5
      refine nm ?_
      dsimp only
      -- spots
      refine ⟨_, rfl, _, rfl, m, m', rfl, ⟨_, _, SqL.of hm58, SqL.of hm8⟩, lc_zip (K := K) (a := m) (b := m') (xs := IL (pms n.toNat (endsOf ps S))) (ys := IL (pms n.toNat (endsOf ps (S ++ lvl ls x ps.length)))) (fun i zs H9 => Same H8 H9 ∧ i ≤ n.toNat ∧ zs = IL ((List.range i).map (spt n.toNat ps ls x))) ⟨Same.refl _, Nat.zero_le _, rfl⟩ (by rw [il_length, il_length, pms_length, pms_length]) (small60' (by rw [il_length, pms_length]; omega))
        (fun i zs H9 hi ⟨e, hi2, ez⟩ => ⟨SqL.of (e _ _ hm58), SqL.of (e _ _ hm8), by rw [ez, il_length, List.length_map, List.length_range]; exact Nat.le_refl _⟩) ?_ ?_⟩
      · rintro i u v zs H9 pt hpt hu hv ⟨s9, hil, rfl⟩ SS hSS
        obtain ⟨a1, rfl, ha1⟩ := il_get hu
        obtain ⟨b1, rfl, hb1⟩ := il_get hv
        have hil' : i < n.toNat := by have := (List.getElem?_eq_some_iff.mp ha1).1; rw [pms_length] at this; exact this
        have s10 := same_at (o := .tup [.int a1, .int b1]) hpt
        refine ⟨pt, _, rfl, SqT.of upd_same, rfl, _, _, rfl, _, _, rfl, rfl, ?_⟩
        have ea : mk (mA n.toNat ps ls x) i = a1 := by rw [← at1]; unfold mk; exact getD_of ha1
        have eb : mk (mB n.toNat ps ls x) i = b1 := by rw [← up2]; unfold mk; exact getD_of hb1
        have es : ∀ y : Int, (if a1 = b1 then 0 else a1) = y → IL ((List.range i).map (spt n.toNat ps ls x)) ++ [V.int y] = IL ((List.range (i + 1)).map (spt n.toNat ps ls x)) := fun y hy => by
          rw [List.range_succ, List.map_append]
          show _ = IL (_ ++ [spt n.toNat ps ls x i])
          unfold spt
          rw [ea, eb, hy]
          exact (il_snoc ..).symm
        refine ⟨_, rfl, _, rfl, rfl, _, rfl, ?_⟩
        rw [dec_int]
        refine itd2 (fun he => ?_) (fun he => ?_)
        · exact hSS _ _ ⟨s9.trans s10, hil', es 0 (if_pos he)⟩
        · exact ⟨_, rfl, hSS _ _ ⟨s9.trans s10, hil', es a1 (if_neg he)⟩⟩
      rintro zs H9 ⟨s9, _, rfl⟩ sp hsp
      rw [il_length, pms_length]
      have s10 := same_at (o := .lst (IL ((List.range n.toNat).map (spt n.toNat ps ls x)))) hsp
      have hsp10 := upd_same (H := H9) (a := sp) (o := .lst (IL ((List.range n.toNat).map (spt n.toNat ps ls x))))
      have hy9 := s9 _ _ hy8
      have spmd : sp ≠ md := Ne.symm (ne_of_none hy9 hsp)
      have s510 := s58.trans (s9.trans s10)
      have s810 := s9.trans s10
      generalize upd H9 sp (.lst (IL ((List.range n.toNat).map (spt n.toNat ps ls x)))) = H10 at *
      have hm10 := s810 _ _ hm8
      have hv10 := s810 _ _ (s8 _ _ hv7)
      have hy10 := s810 _ _ hy8
      have hY10 := hY5.same s510
      have hl10 := s510 _ _ hl5
      have t10 := s5.trans s510
      refine nm ?_
      dsimp only
      -- the ties of this length
      refine ⟨_, rfl, lv, rfl, ⟨_, SqL.of hv10⟩, for_list (K := K) (a := lv) (xs := IL (lvl ls x ps.length)) (fun k σ H11 => ∃ (ys : List V) (v8 v9 : Option V), σ = [some (.ref w), some (.ref b), some (.ref md), some (.ref m), some (.int x), some (.ref lv), some (.ref m'), some (.ref sp), v8, v9] ∧ (∀ a o, a ≠ md → H10 a = some o → H11 a = some o) ∧ H11 md = some (.lst ys) ∧ PairsV H11 ys (mdT n.toNat ps ls fun i => ls.getD i 0 ∈ Ls.take j ∨ (i : Int) ∈ (lvl ls x ps.length).take k)) ⟨ys, _, _, rfl, fun _ _ _ h => h, hy10, (by rw [mdT_congr (q := fun i => ls.getD i 0 ∈ Ls.take j) fun i _ => ⟨fun h => h.elim id fun h => (by cases h), .inl⟩]; exact hY10)⟩ (fun k σ H11 _ ⟨_, _, _, _, e, _⟩ => SqL.of (e _ _ lvmd hv10)) ?_ ?_⟩
      · rintro k v σ H11 hk ⟨ys, v8, v9, rfl, kp, hy11, hY11⟩
        obtain ⟨z, rfl, hz⟩ := il_get hk
        obtain ⟨zb, zl⟩ := lvl_mem.mp (List.mem_of_getElem? hz)
        have t11 : Same H H11 := fun a o e => kp a o (ne_of_none e hmd0) (t10 a o e)
        obtain ⟨p, hp⟩ : ∃ p, ps[z.toNat]? = some p := ⟨_, List.getElem?_eq_getElem (by omega)⟩
        obtain ⟨vv, hvv, tt, rfl, htt⟩ := h3.2 z.toNat p hp
        obtain ⟨e1, e2, e3, e4⟩ := g4 p (List.mem_of_getElem? hp)
        have ed : ps.getD z.toNat (0, 0) = p := getD_of hp
        have hsp11 := kp _ _ spmd hsp10
        have ht11 := t11 _ _ htt
        refine nm ?_
        dsimp only
        refine ⟨_, rfl, w, _, dx, _, _, rfl, t11 _ _ h1, T.cl_Web, T.n_Web_ties, wf_ties _ _, _, rfl, tl, xs, z, .ref tt, rfl, rfl, SqL.of (t11 _ _ h2), atI_of (n := z.toNat) (by omega) hvv, ?_⟩
        refine nm ?_
        dsimp only
        have at_ : ∀ y : Int, 0 ≤ y → y < n → atI (IL ((List.range n.toNat).map (spt n.toNat ps ls x))) y = some (.int (spt n.toNat ps ls x y.toNat)) := fun y y0 y1 => atI_of (n := y.toNat) (by omega) (by rw [List.getElem?_map, List.getElem?_map, List.getElem?_range (by omega)]; rfl)
        have c0 : atI ([.int p.1, .int p.2] : List V) 0 = some (.int p.1) := rfl
        have c1 : atI ([.int p.1, .int p.2] : List V) 1 = some (.int p.2) := rfl
        refine ⟨_, rfl, _, rfl, tt, _, 0, _, rfl, rfl, SqT.of ht11, c0, sp, _, p.1, _, rfl, rfl, SqL.of hsp11, at_ p.1 e1 e2, _, rfl, _, rfl, tt, _, 1, _, rfl, rfl, SqT.of ht11, c1, sp, _, p.2, _, rfl, rfl, SqL.of hsp11, at_ p.2 e3 e4, (by show 2 ≤ sizeLine; decide), fun tA htA => ?_⟩
        have s12 := same_at (o := .tup [.int (spt n.toNat ps ls x p.1.toNat), .int (spt n.toNat ps ls x p.2.toNat)]) htA
        have hy12 := s12 _ _ hy11
        have hA12 := upd_same (H := H11) (a := tA) (o := .tup [.int (spt n.toNat ps ls x p.1.toNat), .int (spt n.toNat ps ls x p.2.toNat)])
        have tmd : tA ≠ md := Ne.symm (ne_of_none hy11 htA)
        have hY12 := hY11.same s12
        have yl : ys.length = ps.length := by rw [hY12.1, mdT_len]
        refine ⟨_, rfl, _, rfl, md, _, _, z.toNat, rfl, rfl, hy12, ixN_cw zb.1 (by omega), ?_⟩
        refine ⟨ys.set z.toNat (.ref tA), some (.int z), some (.ref tt), rfl, fun a o ha e => ?_, upd_same, ?_⟩
        · rw [upd_ne ha]
          exact s12 _ _ (kp a o ha e)
        · have e5 : (spt n.toNat ps ls x p.1.toNat, spt n.toNat ps ls x p.2.toNat) = cwP n.toNat ps ls z.toNat := by
            unfold cwP
            rw [ed, show ls.getD z.toNat 0 = x from zl]
          have hP := (hY12.mut (l := md) (zs := ys.set z.toNat (.ref tA)) hy12).set z.toNat (v := .ref tA) (p := (spt n.toNat ps ls x p.1.toNat, spt n.toNat ps ls x p.2.toNat)) ⟨tA, rfl, by rw [upd_ne tmd]; exact hA12⟩
          rw [e5, mdT_put (q := fun i => ls.getD i 0 ∈ Ls.take j ∨ (i : Int) ∈ (lvl ls x ps.length).take (k + 1)) fun i _ => ?_] at hP
          · exact hP
          · rw [List.take_succ, hz]
            show _ ∨ (i : Int) ∈ (lvl ls x ps.length).take k ++ [z] ↔ _
            rw [List.mem_append, List.mem_singleton, or_assoc]
            have : (i : Int) = z ↔ i = z.toNat := by omega
            rw [this]
      rintro σ H11 ⟨ys', v8, v9, rfl, kp, hy11, hY11⟩
      rw [il_length, List.take_length] at hY11
      have t11 : Same H H11 := fun a o e => kp a o (ne_of_none e hmd0) (t10 a o e)
      refine ⟨_, rfl, ?_⟩
      refine nm ?_
      refine ⟨m', S ++ lvl ls x ps.length, ys', _, _, _, _, _, _, rfl, t11, m'md, kp _ _ m'md hm10, up3, hy11, ?_, kp _ _ lmd hl10⟩
      rw [mdT_congr (q := fun i => ls.getD i 0 ∈ Ls.take (j + 1)) fun i hi => ?_] at hY11
      · exact hY11
      · rw [List.take_succ, hx]
        show _ ↔ ls.getD i 0 ∈ Ls.take j ++ [x]
        rw [List.mem_append, List.mem_singleton, lvl_mem]
        have e : lnz ls (i : Int) = ls.getD i 0 := by unfold lnz; rw [Int.toNat_natCast]
        rw [e]
        constructor
        · rintro (h | h)
          · exact .inl h
          · exact .inr h.2
        · rintro (h | h)
          · exact .inl h
          · exact .inr ⟨⟨by omega, by omega⟩, h⟩
    rintro σ H5 ⟨m, S, ys, v4, v5, v6, v7, v8, v9, rfl, s5, mmd, hm5, hSm, hy5, hY5, hl5⟩
    rw [il_length, List.take_length, mdT_all fun i hi => (hLm _).mpr (by rw [List.getD_eq_getElem?_getD, List.getElem?_eq_getElem (show i < ls.length by omega)]; exact List.getElem_mem _)] at hY5
    refine ⟨_, rfl, w, _, dx, _, _, rfl, s5 _ _ h1, T.cl_Web, T.n_Web_places, wf_places _ _, _, rfl, fun w2 dx2 nx2 ndx2 nex2 => ?_⟩
    have v2 : Same H5 (upd (upd H5 dx2 (.own w2)) w2 (.ins t.A_Web dx2 [])) := same_new (same_at ndx2) (by rw [upd_ne (Ne.symm nex2)]; exact nx2)
    refine ⟨w2, dx2, n, md, false, ys, _, rfl, upd_same, fun o => (same_upd nx2 v2).seq (SqL.of hy5), hY5.same v2, cw_good hG hl, fun H6 hW6 k6 => ⟨rfl, ?_⟩⟩
    have v3 : Same H5 H6 := fun b o e => k6 b o (v2 b o e) (ne_of_none e nx2)
    exact q w2 H6 (s5.trans v3) hW6
end
end My
namespace My
open PySem L2 PyProof.Rows
set_option maxHeartbeats 4000000
def sp_cheapest_tree (K : PySem.W.Frag) (C B : Addr) : Sp := fun vs H Q E => ∃ (w b : Addr) (kd : Bool) (n : Int) (ps : List (Int × Int)) (ls : List Int), vs = [.ref w, .ref b] ∧ WebAt C H w n ps ∧ GoodW n ps ∧ SqK kd K H b (IL ls) ∧ ls.length = ps.length ∧
  (∀ (U : List Int) (r : Addr) (H' : Hp), IsTree n (cwT n.toNat ps ls) U → (∀ W, IsTree n (cwT n.toNat ps ls) W → HT.lexLt W U = false) → Same H H' → H' r = some (.tup (IL U)) → Q (.ref r) H') ∧
  ((∀ W, ¬ IsTree n (cwT n.toNat ps ls) W) → ∀ H' : Hp, Same H H' → E (.ref B) none H')
section
variable {P : Program} {w : World} {K : PySem.W.Frag} {mg : Str → Option Value} {base : Heap} {t : Adr}
theorem sc_cheapest_tree : FnScope ["web", "lengths"] ["web", "lengths"] (defScope s_cheapest_tree) := ⟨rfl, rfl, rfl, by decide +kernel, rfl, by decide +kernel, by decide +kernel⟩
theorem ok_cheapest_tree (T : Txt K mg t) : FnOk P w K mg base (CXW P w) 8 t.a_cheapest_tree t.d_cheapest_tree ["web", "lengths"] (sp_cheapest_tree K t.A_Web t.A_Parted) := by
  refine T.f_cheapest_tree.okX sc_cheapest_tree (fun vs H Q E h => ?_) (fun cdv A outer s H vs Q E hr h => ?_)
  · obtain ⟨w, b, kd, n, ps, ls, rfl, _⟩ := h
    rfl
  · obtain ⟨w, b, kd, n, ps, ls, rfl, hW, hG, hS, hl, q, qe⟩ := h
    refine ⟨_, (pss_one (ps_ret (pe_call (ok_least_tree T) (hr.mono (by decide)) rfl T.m_least_tree T.f_least_tree.kp T.b_least_tree .nil pxs (pa_cons (pe_call (ok_cheapest_web T) (hr.mono (by decide)) rfl T.m_cheapest_web T.f_cheapest_web.kp T.b_cheapest_web .nil pass0 (pa_cons (pv 0) (pa_cons (pv 1) pa_nil))) pa_nil)))), ?_⟩
    refine ⟨_, rfl, _, rfl, w, b, kd, n, ps, ls, rfl, hW, hG, hS, hl, fun w2 H1 s1 hW1 => ?_⟩
    have hC := cw_good hG hl
    refine ⟨w2, n, _, rfl, hW1, hC, fun hf r H2 s2 hr => ?_, fun hf H2 s2 => ?_⟩
    · exact q _ r H2 (grd_full hC hf) (fun W hV => grd_least hC hV) (s1.trans s2) hr
    · refine qe (fun W hV => ?_) H2 (s1.trans s2)
      have := (grd_tree hC hV).2.1
      omega
end
end My
namespace My
open PySem L2 PyProof.Rows
set_option maxHeartbeats 4000000
/-- a cell of the script -/
def sp_law_at (K : PySem.W.Frag) : Sp := fun vs H Q _ => ∃ (a : Addr) (ns : List Int) (k : Int), vs = [.ref a, .int k] ∧ SqL K H a (IL ns) ∧ 0 ≤ k ∧ ∀ r : Int, Q (.int r) H
section
variable {P : Program} {w : World} {K : PySem.W.Frag} {mg : Str → Option Value} {base : Heap} {t : Adr}
theorem sc_law_at : FnScope ["script", "k"] ["script", "k"] (defScope s_law_at) := ⟨rfl, rfl, rfl, by decide +kernel, rfl, by decide +kernel, by decide +kernel⟩
theorem ok_law_at (T : Txt K mg t) : FnOk P w K mg base CX0 1 t.a_law_at t.d_law_at ["script", "k"] (sp_law_at K) := by
  refine T.f_law_at.ok sc_law_at (fun vs H Q E h => ?_) (fun cdv A outer s H vs Q E hr h => ?_)
  · obtain ⟨a, ns, k, rfl, _⟩ := h
    rfl
  · obtain ⟨a, ns, k, rfl, hS, hk, q⟩ := h
    refine ⟨_, (pss_cons (ps_if (pt_cmpR op_lt (pv 1) (pe_callB (call_lenK K) (by rfl) T.n_len Boot.«len» (pa_cons (pv 0) pa_nil)) (nomark _))
      (pss_one (ps_ret (pe_ix (ix_listK K) (pv 0) (pv 1) (fun _ _ => rfl))))
      pss_nil)
      (pss_one (ps_ret pe_int))), ?_⟩
    refine ⟨_, rfl, _, rfl, a, _, rfl, .inl hS, _, _, rfl, rfl, _, rfl, ?_⟩
    refine ite2 (fun hc => ?_) (fun _ => ?_)
    · have hc := of_decide_eq_true hc
      rw [il_length] at hc
      obtain ⟨z, hz⟩ : ∃ z, ns[k.toNat]? = some z := ⟨_, List.getElem?_eq_getElem (by omega)⟩
      exact ⟨_, rfl, _, rfl, a, _, k, .int z, rfl, rfl, hS, atI_of (n := k.toNat) (by omega) (by rw [List.getElem?_map, hz]; rfl), q z⟩
    · exact q 0
end
end My
namespace My
open PySem L2 PyProof.Rows
set_option maxHeartbeats 4000000
/-- a number stirred out of two -/
def sp_law_stir : Sp := fun vs H Q _ => ∃ (c k : Int), vs = [.int c, .int k] ∧ ∀ r : Int, 0 ≤ r → r < 2147483629 → Q (.int r) H
section
variable {P : Program} {w : World} {K : PySem.W.Frag} {mg : Str → Option Value} {base : Heap} {t : Adr}
theorem sc_law_stir : FnScope ["cell", "k", "m"] ["cell", "k"] (defScope s_law_stir) := ⟨rfl, rfl, rfl, by decide +kernel, rfl, by decide +kernel, by decide +kernel⟩
theorem ok_law_stir (T : Txt K mg t) : FnOk P w K mg base CX0 1 t.a_law_stir t.d_law_stir ["cell", "k"] sp_law_stir := by
  refine T.f_law_stir.ok sc_law_stir (fun vs H Q E h => ?_) (fun cdv A outer s H vs Q E hr h => ?_)
  · obtain ⟨c, k, rfl, _⟩ := h
    rfl
  · obtain ⟨c, k, rfl, q⟩ := h
    refine ⟨_, (pss_cons (ps_set (i := 2) sc_law_stir.nd rfl (Or.inl rfl) (pe_op op_mod (pe_op op_mul (pe_op op_add (pe_op op_add (pe_op op_mod (pv 0) (pe_op op_pow pe_int pe_int)) (pe_op op_mul pe_int (pv 1))) pe_int) pe_int) pe_int))
      (pss_cons (ps_set (i := 2) sc_law_stir.nd rfl (Or.inl rfl) (pe_op op_mod (pe_op op_mul (pv 2) (pv 2)) pe_int))
      (pss_one (ps_ret (pe_op op_fdiv (pe_op op_mod (pe_op op_mul (pe_op op_add (pv 2) (pe_op op_mul pe_int (pe_op op_add (pv 1) pe_int))) pe_int) pe_int) pe_int))))), ?_⟩
    have m0 : -(2 ^ 64) < (c % 10 ^ 60 + 977 * k + 1) * 48271 % 2147483647 := by omega
    have m1 : (c % 10 ^ 60 + 977 * k + 1) * 48271 % 2147483647 < 2 ^ 64 := by omega
    refine ⟨_, rfl, _, _, rfl, rfl, ⟨by decide, by decide, by decide⟩, _, _, rfl, rfl, (by show (0 : Int) < 10 ^ 60; decide), _, rfl, _, _, rfl, rfl, .inl ⟨by decide, by decide⟩, _, _, rfl, rfl, _, _, rfl, rfl, _, _, rfl, rfl, .inr ⟨by decide, by decide⟩, _, _, rfl, rfl, (by show (0 : Int) < 2147483647; decide), ?_⟩
    refine ⟨_, rfl, _, rfl, _, _, rfl, rfl, .inl ⟨m0, m1⟩, _, _, rfl, rfl, (by show (0 : Int) < 2147483629; decide), ?_⟩
    refine ⟨_, rfl, _, rfl, _, _, rfl, rfl, _, _, rfl, rfl, .inl ⟨by decide, by decide⟩, _, _, rfl, rfl, _, _, rfl, rfl, .inr ⟨by decide, by decide⟩, _, _, rfl, rfl, (by show (0 : Int) < 2147483629; decide), _, _, rfl, rfl, ⟨by decide, by decide⟩, ?_⟩
    refine q _ ?_ ?_
    · refine Int.ediv_nonneg (Int.emod_nonneg _ (by decide)) (by decide)
    · refine Int.lt_of_le_of_lt (Int.ediv_le_self _ (Int.emod_nonneg _ (by decide))) (Int.emod_lt_of_pos _ (by decide))
end
end My
namespace My
open PySem L2 PyProof.Rows
set_option maxHeartbeats 4000000
/-- at most so many numbers out of the script -/
def sp_law_numbers (K : PySem.W.Frag) : Sp := fun vs H Q _ => ∃ (a : Addr) (ns : List Int) (st m : Nat), vs = [.ref a, .int st, .int m] ∧ SqL K H a (IL ns) ∧ ns.length ≤ 63 ∧ st ≤ 63 ∧ 1 ≤ m ∧ m ≤ 30 ∧ ∀ (r : Addr) (ms : List Int) (H' : Hp), Same H H' → H r = none → H' r = some (.lst (IL ms)) → ms.length ≤ m → Q (.ref r) H'
section
variable {P : Program} {w : World} {K : PySem.W.Frag} {mg : Str → Option Value} {base : Heap} {t : Adr}
theorem sc_law_numbers : FnScope ["script", "start", "most", "told", "k", "cell"] ["script", "start", "most"] (defScope s_law_numbers) := ⟨rfl, rfl, rfl, by decide +kernel, rfl, by decide +kernel, by decide +kernel⟩
theorem ok_law_numbers (T : Txt K mg t) : FnOk P w K mg base CX0 1 t.a_law_numbers t.d_law_numbers ["script", "start", "most"] (sp_law_numbers K) := by
  refine T.f_law_numbers.ok sc_law_numbers (fun vs H Q E h => ?_) (fun cdv A outer s H vs Q E hr h => ?_)
  · obtain ⟨a, ns, st, m, rfl, _⟩ := h
    rfl
  · obtain ⟨a, ns, st, m, rfl, hS, hn, hst, m1, m30, q⟩ := h
    refine ⟨_, (pss_cons (ps_set (i := 3) sc_law_numbers.nd rfl (Or.inl rfl) (pe_lst pa_nil))
      (pss_cons (ps_for PassesOwn.never rfl (pi_range2 rfl T.n_range (pa_cons (pv 1) (pa_cons (pe_callB (call_lenK K) (by rfl) T.n_len Boot.«len» (pa_cons (pv 0) pa_nil)) pa_nil))) (pg_name (i := 4) sc_law_numbers.nd rfl (Or.inl rfl))
      (pss_cons (ps_set (i := 5) sc_law_numbers.nd rfl (Or.inl rfl) (pe_op op_mod (pe_ix (ix_listK K) (pv 0) (pv 4) (fun _ _ => rfl)) (pe_op op_pow pe_int pe_int)))
      (pss_one (ps_if (pt_cmpR op_lt (pe_callB (call_lenK K) (by rfl) T.n_len Boot.«len» (pa_cons (pv 3) pa_nil)) (pv 2) (nomark _))
      (pss_one (ps_expr (pe_bmK K PySem.F.plainAttrs_list PySem.F.slot_list_append PySem.F.type_list_append mt_append (pv 3) (pa_cons (pv 5) pa_nil))))
      (pss_one (ps_asg (pe_op op_mod (pe_op op_add (pe_op op_mul (pe_ix (ix_listK K) (pv 3) (pe_op op_mod (pv 4) (pv 2)) (fun _ _ => rfl)) pe_int) (pv 5)) (pe_op op_pow pe_int pe_int)) (pg_sub (pv 3) (pe_op op_mod (pv 4) (pv 2)) set_list)))))))
      (pss_one (ps_ret (pv 3))))), ?_⟩
    have P18 : (0 : Int) < 10 ^ (18 : Int).toNat := by decide
    have M0 : (0 : Int) < (m : Int) := by omega
    refine ⟨Nat.zero_le _, fun tA htA => ?_⟩
    have s0 := same_at (o := .lst []) htA
    refine ⟨_, rfl, _, rfl, a, _, rfl, .inl (s0.seq hS), (st : Int), ((IL ns).length : Int), rfl, ⟨by omega, by omega, by omega, by rw [il_length]; omega⟩, ?_⟩
    refine for_range (lo := (st : Int)) (n := (((IL ns).length : Int) - (st : Int)).toNat) (fun j σ H4 => ∃ (fs : List Int) (v4 v5 : Option V), σ = [some (.ref a), some (.int st), some (.int m), some (.ref tA), v4, v5] ∧ Same H H4 ∧ H4 tA = some (.lst (IL fs)) ∧ fs.length ≤ m) ⟨[], none, none, rfl, s0, upd_same, Nat.zero_le _⟩ ?_ ?_
    · rintro j σ H4 hj ⟨fs, v4, v5, rfl, s4, h4, eg⟩
      rw [il_length] at hj
      obtain ⟨z, hz⟩ : ∃ z, ns[st + j]? = some z := ⟨_, List.getElem?_eq_getElem (by omega)⟩
      refine ⟨_, rfl, _, rfl, a, _, _, _, rfl, rfl, s4.seq hS, atI_of (n := st + j) (by omega) (il_at hz), _, _, rfl, rfl, ⟨by decide, by decide, by decide⟩, _, _, rfl, rfl, P18, ?_⟩
      refine ⟨_, rfl, tA, _, rfl, .inl (SqL.of h4), _, rfl, _, _, rfl, rfl, _, rfl, ?_⟩
      rw [il_length]
      refine itd2 (fun hc => ?_) (fun hc => ?_)
      · refine ⟨_, rfl, .inl ⟨rfl, _, SqL.of h4⟩, _, rfl, tA, _, _, rfl, rfl, h4, small60' (by rw [il_length]; omega), ?_⟩
        rw [← il_snoc]
        exact ⟨fs ++ [_], _, _, rfl, same_upd htA s4, upd_same, by rw [List.length_append]; show fs.length + 1 ≤ m; omega⟩
      · have x0 : 0 ≤ ((st : Int) + (j : Int)) % (m : Int) := Int.emod_nonneg _ (by omega)
        have x1 : ((st : Int) + (j : Int)) % (m : Int) < (m : Int) := Int.emod_lt_of_pos _ M0
        obtain ⟨f, hf⟩ : ∃ f, fs[(((st : Int) + (j : Int)) % (m : Int)).toNat]? = some f := ⟨_, List.getElem?_eq_getElem (by omega)⟩
        refine ⟨_, rfl, _, rfl, _, rfl, _, _, rfl, rfl, M0, tA, _, _, .int f, rfl, rfl, SqL.of h4, atI_of (n := (((st : Int) + (j : Int)) % (m : Int)).toNat) (by show _ = ((st : Int) + (j : Int)) % (m : Int); omega) (il_at hf), _, _, rfl, rfl, .inr ⟨by decide, by decide⟩, _, rfl, _, _, rfl, rfl, _, _, rfl, rfl, ⟨by decide, by decide, by decide⟩, _, _, rfl, rfl, P18, ?_⟩
        refine ⟨_, rfl, _, rfl, _, rfl, _, _, rfl, rfl, M0, tA, _, _, (((st : Int) + (j : Int)) % (m : Int)).toNat, rfl, rfl, h4, ?_, ?_⟩
        · rw [il_length]
          unfold ixN
          rw [if_pos x0, if_pos (by omega)]
        · refine ⟨fs.set (((st : Int) + (j : Int)) % (m : Int)).toNat ((f * 10007 + z % 10 ^ (18 : Int).toNat) % 10 ^ (18 : Int).toNat), _, _, rfl, same_upd htA s4, ?_, by rw [List.length_set]; exact eg⟩
          rw [upd_same]
          exact congrArg (fun l => some (HO.lst l)) (List.map_set ..).symm
    rintro σ H4 ⟨fs, v4, v5, rfl, s4, h4, eg⟩
    exact ⟨_, rfl, q tA fs H4 s4 htA h4 eg⟩
end
end My
namespace My
open PySem L2 PyProof.Rows
set_option maxHeartbeats 4000000
/-- a web's places and ties by a number's digits -/
def sp_law_digits : Sp := fun vs H Q _ => ∃ (c mp mt : Int), vs = [.int c, .int mp, .int mt] ∧ 1 ≤ mp ∧ mp ≤ 14 ∧ 0 ≤ mt ∧ mt ≤ 30 ∧
  ∀ (r l : Addr) (n : Int) (xs : List V) (ps : List (Int × Int)) (H' : Hp), Same H H' → H' r = some (.tup [.int n, .ref l]) → H l = none → H' l = some (.lst xs) → PairsV H' xs ps → GoodW n ps → n ≤ mp → (ps.length : Int) ≤ mt → Q (.ref r) H'
section
variable {P : Program} {w : World} {K : PySem.W.Frag} {mg : Str → Option Value} {base : Heap} {t : Adr}
theorem sc_law_digits : FnScope ["cell", "most_places", "most_ties", "places", "whole", "ties", "rest", "k"] ["cell", "most_places", "most_ties"] (defScope s_law_digits) := ⟨rfl, rfl, rfl, by decide +kernel, rfl, by decide +kernel, by decide +kernel⟩
theorem ok_law_digits (T : Txt K mg t) : FnOk P w K mg base CX0 2 t.a_law_digits t.d_law_digits ["cell", "most_places", "most_ties"] sp_law_digits := by
  refine T.f_law_digits.ok sc_law_digits (fun vs H Q E h => ?_) (fun cdv A outer s H vs Q E hr h => ?_)
  · obtain ⟨c, mp, mt, rfl, _⟩ := h
    rfl
  · obtain ⟨c, mp, mt, rfl, p1, p14, t0, t30, q⟩ := h
    refine ⟨_, (pss_cons (ps_set (i := 3) sc_law_digits.nd rfl (Or.inl rfl) (pe_op op_add pe_int (pe_op op_mod (pv 0) (pv 1))))
      (pss_cons (ps_set (i := 4) sc_law_digits.nd rfl (Or.inl rfl) (pe_op op_fdiv (pv 0) (pv 1)))
      (pss_cons (ps_set (i := 5) sc_law_digits.nd rfl (Or.inl rfl) (pe_lst pa_nil))
      (pss_cons (ps_set (i := 6) sc_law_digits.nd rfl (Or.inl rfl) (pe_op op_fdiv (pv 4) (pe_op op_add (pv 2) pe_int)))
      (pss_cons (ps_for PassesOwn.never rfl (pi_range1 rfl T.n_range (pa_cons (pe_op op_mod (pv 4) (pe_op op_add (pv 2) pe_int)) pa_nil)) (pg_name (i := 7) sc_law_digits.nd rfl (Or.inl rfl))
      (pss_cons (ps_if (pt_cmpR (op_inK K) (pv 6) (pe_lst (pa_cons pe_int (pa_cons (pe_un un_neg pe_int) pa_nil))) rfl)
      (pss_one (ps_expr (pe_bmK K PySem.F.plainAttrs_list PySem.F.slot_list_append PySem.F.type_list_append mt_append (pv 5) (pa_cons (pe_tup (pa_cons (pe_op op_mod (pe_call (ok_law_stir T) (hr.mono (by decide)) rfl T.m_law_stir T.f_law_stir.kp T.b_law_stir .nil pass0 (pa_cons (pv 4) (pa_cons (pe_op op_mul pe_int (pv 7)) pa_nil))) (pv 3)) (pa_cons (pe_op op_mod (pe_call (ok_law_stir T) (hr.mono (by decide)) rfl T.m_law_stir T.f_law_stir.kp T.b_law_stir .nil pass0 (pa_cons (pv 4) (pa_cons (pe_op op_add (pe_op op_mul pe_int (pv 7)) pe_int) pa_nil))) (pv 3)) pa_nil))) pa_nil))))
      (pss_one (ps_expr (pe_bmK K PySem.F.plainAttrs_list PySem.F.slot_list_append PySem.F.type_list_append mt_append (pv 5) (pa_cons (pe_tup (pa_cons (pe_op op_mod (pv 6) (pv 3)) (pa_cons (pe_op op_mod (pe_op op_fdiv (pv 6) (pv 3)) (pv 3)) pa_nil))) pa_nil)))))
      (pss_one (ps_set (i := 6) sc_law_digits.nd rfl (Or.inl rfl) (pe_op op_fdiv (pv 6) (pe_op op_mul (pv 3) (pv 3)))))))
      (pss_one (ps_ret (pe_tup (pa_cons (pv 3) (pa_cons (pv 5) pa_nil)))))))))), ?_⟩
    have two : 2 ≤ sizeLine := by decide
    have c0 : 0 ≤ c % mp := Int.emod_nonneg _ (by omega)
    have c1 : c % mp < mp := Int.emod_lt_of_pos _ (by omega)
    refine ⟨_, rfl, _, rfl, _, _, rfl, rfl, (by show 0 < mp; omega), _, _, rfl, rfl, ?_⟩
    refine ⟨_, rfl, _, rfl, _, _, rfl, rfl, ⟨by show 0 < mp; omega, by show mp < 1073741824; omega⟩, ?_⟩
    refine ⟨Nat.zero_le _, fun l hl => ?_⟩
    refine ⟨_, rfl, _, rfl, _, _, rfl, rfl, _, _, rfl, rfl, ⟨by show 0 < mt + 1; omega, by show mt + 1 < 1073741824; omega⟩, ?_⟩
    have e0 : 0 ≤ c / mp % (mt + 1) := Int.emod_nonneg _ (by omega)
    have e1 : c / mp % (mt + 1) < mt + 1 := Int.emod_lt_of_pos _ (by omega)
    obtain ⟨n, hn⟩ : ∃ n, n = 1 + c % mp := ⟨_, rfl⟩
    have n1 : 1 ≤ n := by omega
    have n14 : n ≤ mp := by omega
    have nn1 : 0 < n * n := Int.mul_pos (by omega) (by omega)
    have nn2 : n * n ≤ 14 * 14 := Int.mul_le_mul (by omega) (by omega) (by omega) (by decide)
    refine ⟨_, rfl, _, rfl, _, _, rfl, rfl, _, _, rfl, rfl, (by show 0 < mt + 1; omega), c / mp % (mt + 1), rfl, by omega, by omega, for_range (lo := 0) (n := (c / mp % (mt + 1)).toNat) (fun i σ H2 => ∃ (z : Int) (xs : List V) (ps : List (Int × Int)) (v : Option V), σ = [some (.int c), some (.int mp), some (.int mt), some (.int n), some (.int (c / mp)), some (.ref l), some (.int z), v] ∧ Same H H2 ∧ H2 l = some (.lst xs) ∧ PairsV H2 xs ps ∧ ps.length = i ∧ ∀ p ∈ ps, 0 ≤ p.1 ∧ p.1 < n ∧ 0 ≤ p.2 ∧ p.2 < n)
      ⟨_, [], [], none, by rw [hn]; rfl, same_at hl, upd_same, PairsV.nil, rfl, fun _ h => (by cases h)⟩ ?_ ?_⟩
    · rintro i σ H2 hi ⟨z, xs, ps, v, rfl, s2, h2, hP, hlp, hb⟩
      have xl : xs.length < sizeLine := small60' (by rw [hP.1]; omega)
      have put : ∀ (a b zz : Int) (H3 : Hp) (tp : Addr) (vv : Option V), Same H2 H3 → H3 tp = none → 0 ≤ a → a < n → 0 ≤ b → b < n → ∃ (z : Int) (xs2 : List V) (ps : List (Int × Int)) (v : Option V), [some (.int c), some (.int mp), some (.int mt), some (.int n), some (.int (c / mp)), some (.ref l), some (.int zz), vv] = [some (.int c), some (.int mp), some (.int mt), some (.int n), some (.int (c / mp)), some (.ref l), some (.int z), v] ∧ Same H (upd (upd H3 tp (.tup [.int a, .int b])) l (.lst (xs ++ [.ref tp]))) ∧ (upd (upd H3 tp (.tup [.int a, .int b])) l (.lst (xs ++ [.ref tp]))) l = some (.lst xs2) ∧ PairsV (upd (upd H3 tp (.tup [.int a, .int b])) l (.lst (xs ++ [.ref tp]))) xs2 ps ∧ ps.length = i + 1 ∧ ∀ p ∈ ps, 0 ≤ p.1 ∧ p.1 < n ∧ 0 ≤ p.2 ∧ p.2 < n := by
        intro a b zz H3 tp vv s3 htp a0 a1 b0 b1
        have s4 := same_at (o := .tup [.int a, .int b]) htp
        have hl4 := s4 _ _ (s3 _ _ h2)
        refine ⟨zz, xs ++ [.ref tp], ps ++ [(a, b)], vv, rfl, same_upd hl ((s2.trans s3).trans s4), upd_same, ?_, by rw [List.length_append, hlp]; rfl, fun p hp => ?_⟩
        · exact (((hP.same s3).same s4).snoc ⟨tp, rfl, upd_same⟩).mut hl4
        · rcases List.mem_append.mp hp with h | h
          · exact hb p h
          · rw [List.mem_singleton.mp h]; exact ⟨a0, a1, b0, b1⟩
      have md : ∀ z : Int, 0 ≤ z % n ∧ z % n < n := fun z => ⟨Int.emod_nonneg _ (by omega), Int.emod_lt_of_pos _ (by omega)⟩
      have N0 : (0 : Int) < n := by omega
      have ND : (0 : Int) < n ∧ n < 1073741824 := by omega
      have NN : (0 : Int) < n * n ∧ n * n < 1073741824 := by omega
      have NM : -(2 ^ 64) < n ∧ n < 2 ^ 64 := by omega
      refine ⟨_, rfl, _, rfl, two, fun lp hlp => ?_⟩
      have s3 := same_at (o := .lst [.int 0, .int (-1)]) hlp
      refine ⟨lp, _, rfl, .inl (SqL.of upd_same), rfl, rfl, _, rfl, ?_⟩
      have h3 := s3 _ _ h2
      refine itb (fun _ => ?_) (fun _ => ?_)
      · refine ⟨_, rfl, .inl ⟨rfl, _, SqL.of h3⟩, ?_⟩
        refine ⟨_, rfl, _, rfl, _, _, rfl, rfl, .inl ⟨by decide, by decide⟩, _, _, rfl, fun r1 _ _ => ⟨_, rfl, _, _, rfl, rfl, N0, ?_⟩⟩
        refine ⟨_, rfl, _, rfl, _, _, rfl, rfl, .inl ⟨by decide, by decide⟩, _, _, rfl, rfl, _, _, rfl, fun r2 _ _ => ⟨_, rfl, _, _, rfl, rfl, N0, two, fun tp htp => ?_⟩⟩
        refine ⟨l, xs, _, rfl, rfl, (same_at htp) _ _ h3, xl, ?_⟩
        refine ⟨_, rfl, _, rfl, _, rfl, _, _, rfl, rfl, .inl NM, _, _, rfl, rfl, NN, ?_⟩
        exact put _ _ _ _ tp _ s3 htp (md _).1 (md _).2 (md _).1 (md _).2
      · refine ⟨_, rfl, .inl ⟨rfl, _, SqL.of h3⟩, ?_⟩
        refine ⟨_, rfl, _, rfl, _, _, rfl, rfl, N0, _, rfl, _, rfl, _, _, rfl, rfl, ND, _, rfl, _, _, rfl, rfl, N0, two, fun tp htp => ?_⟩
        refine ⟨l, xs, _, rfl, rfl, (same_at htp) _ _ h3, xl, ?_⟩
        refine ⟨_, rfl, _, rfl, _, rfl, _, _, rfl, rfl, .inl NM, _, _, rfl, rfl, NN, ?_⟩
        exact put _ _ _ _ tp _ s3 htp (md _).1 (md _).2 (md _).1 (md _).2
    · rintro σ H2 ⟨z, xs, ps, v, rfl, s2, h2, hP, hlp, hb⟩
      refine ⟨_, rfl, _, rfl, two, fun r hr => ?_⟩
      have s3 := same_at (o := .tup [.int n, .ref l]) hr
      exact q r l n xs ps _ (s2.trans s3) upd_same hl (s3 _ _ h2) (hP.same s3) ⟨by omega, by omega, by omega, hb⟩ (by omega) (by omega)
end
end My
namespace My
open PySem L2 PyProof.Rows
set_option maxHeartbeats 4000000
/-- a web's places and ties out of a script -/
def sp_law_web (K : PySem.W.Frag) : Sp := fun vs H Q _ => ∃ (a : Addr) (ns : List Int) (mp : Int) (mt : Nat), vs = [.ref a, .int mp, .int mt] ∧ SqL K H a (IL ns) ∧ ns.length ≤ 63 ∧ 1 ≤ mp ∧ mp ≤ 14 ∧ 1 ≤ mt ∧ mt ≤ 30 ∧
  ∀ (r l : Addr) (n : Int) (xs : List V) (ps : List (Int × Int)) (H' : Hp), Same H H' → H' r = some (.tup [.int n, .ref l]) → H l = none → H' l = some (.lst xs) → PairsV H' xs ps → GoodW n ps → n ≤ mp → (ps.length : Int) ≤ mt → Q (.ref r) H'
section
variable {P : Program} {w : World} {K : PySem.W.Frag} {mg : Str → Option Value} {base : Heap} {t : Adr}
theorem sc_law_web : FnScope ["script", "most_places", "most_ties", "head", "places", "ties", "k", "number", "one", "other"] ["script", "most_places", "most_ties"] (defScope s_law_web) := ⟨rfl, rfl, rfl, by decide +kernel, rfl, by decide +kernel, by decide +kernel⟩
theorem ok_law_web (T : Txt K mg t) : FnOk P w K mg base CX0 3 t.a_law_web t.d_law_web ["script", "most_places", "most_ties"] (sp_law_web K) := by
  refine T.f_law_web.ok sc_law_web (fun vs H Q E h => ?_) (fun cdv A outer s H vs Q E hr h => ?_)
  · obtain ⟨a, ns, mp, mt, rfl, _⟩ := h
    rfl
  · obtain ⟨a, ns, mp, mt, rfl, hS, hn63, p1, p14, t1, t30, q⟩ := h
    refine ⟨_, (pss_cons (ps_set (i := 3) sc_law_web.nd rfl (Or.inl rfl) (pe_call (ok_law_at T) (hr.mono (by decide)) rfl T.m_law_at T.f_law_at.kp T.b_law_at .nil pass0 (pa_cons (pv 0) (pa_cons pe_int pa_nil))))
      (pss_cons (ps_if (pt_cmpR op_eq (pe_op op_mod (pv 3) pe_int) pe_int (nomark _))
      (pss_one (ps_ret (pe_call (ok_law_digits T) (hr.mono (by decide)) rfl T.m_law_digits T.f_law_digits.kp T.b_law_digits .nil pass0 (pa_cons (pe_call (ok_law_at T) (hr.mono (by decide)) rfl T.m_law_at T.f_law_at.kp T.b_law_at .nil pass0 (pa_cons (pv 0) (pa_cons pe_int pa_nil))) (pa_cons (pv 1) (pa_cons (pv 2) pa_nil))))))
      pss_nil)
      (pss_cons (ps_set (i := 4) sc_law_web.nd rfl (Or.inl rfl) (pe_op op_add pe_int (pe_op op_mod (pe_op op_fdiv (pv 3) pe_int) (pv 1))))
      (pss_cons (ps_set (i := 5) sc_law_web.nd rfl (Or.inl rfl) (pe_lst pa_nil))
      (pss_cons (ps_for PassesOwn.never rfl (pi_enumK K rfl T.n_enumerate (pa_cons (pe_call (ok_law_numbers T) (hr.mono (by decide)) rfl T.m_law_numbers T.f_law_numbers.kp T.b_law_numbers .nil pass0 (pa_cons (pv 0) (pa_cons pe_int (pa_cons (pv 2) pa_nil)))) pa_nil)) (pg_tupK (n := 2) K rfl (pgs_cons (pg_name (i := 6) sc_law_web.nd rfl (Or.inl rfl)) (pgs_cons (pg_name (i := 7) sc_law_web.nd rfl (Or.inl rfl)) pgs_nil)))
      (pss_cons (ps_set (i := 8) sc_law_web.nd rfl (Or.inl rfl) (pe_op op_mod (pe_call (ok_law_stir T) (hr.mono (by decide)) rfl T.m_law_stir T.f_law_stir.kp T.b_law_stir .nil pass0 (pa_cons (pv 7) (pa_cons pe_int pa_nil))) (pv 4)))
      (pss_cons (ps_set (i := 9) sc_law_web.nd rfl (Or.inl rfl) (pe_op op_mod (pe_call (ok_law_stir T) (hr.mono (by decide)) rfl T.m_law_stir T.f_law_stir.kp T.b_law_stir .nil pass0 (pa_cons (pv 7) (pa_cons pe_int pa_nil))) (pv 4)))
      (pss_cons (ps_if (PW.pt (pw_and (pt_cmpR op_lt (pe_op op_add (pv 6) pe_int) (pv 4) (nomark _)) (pw_and1 (pt_cmpR op_gt (pe_op op_mod (pe_call (ok_law_stir T) (hr.mono (by decide)) rfl T.m_law_stir T.f_law_stir.kp T.b_law_stir .nil pass0 (pa_cons (pv 7) (pa_cons pe_int pa_nil))) pe_int) pe_int (nomark _)))))
      (pss_cons (ps_set (i := 8) sc_law_web.nd rfl (Or.inl rfl) (pe_op op_mod (pe_call (ok_law_stir T) (hr.mono (by decide)) rfl T.m_law_stir T.f_law_stir.kp T.b_law_stir .nil pass0 (pa_cons (pv 7) (pa_cons pe_int pa_nil))) (pe_op op_add (pv 6) pe_int)))
      (pss_one (ps_set (i := 9) sc_law_web.nd rfl (Or.inl rfl) (pe_op op_add (pv 6) pe_int))))
      pss_nil)
      (pss_one (ps_expr (pe_bmK K PySem.F.plainAttrs_list PySem.F.slot_list_append PySem.F.type_list_append mt_append (pv 5) (pa_cons (pe_ix (ix_listK K) (pe_lst (pa_cons (pe_tup (pa_cons (pv 8) (pa_cons (pv 9) pa_nil))) (pa_cons (pe_tup (pa_cons (pv 9) (pa_cons (pv 8) pa_nil))) pa_nil))) (pe_op op_mod (pe_call (ok_law_stir T) (hr.mono (by decide)) rfl T.m_law_stir T.f_law_stir.kp T.b_law_stir .nil pass0 (pa_cons (pv 7) (pa_cons pe_int pa_nil))) pe_int) (fun _ _ => rfl)) pa_nil))))))))
      (pss_one (ps_ret (pe_tup (pa_cons (pv 4) (pa_cons (pv 5) pa_nil)))))))))), ?_⟩
    have two : 2 ≤ sizeLine := by decide
    refine ⟨_, rfl, a, ns, 0, rfl, hS, by decide, fun hd => ?_⟩
    refine ⟨_, rfl, _, _, rfl, rfl, (by show (0 : Int) < 2; decide), rfl, _, rfl, ?_⟩
    rw [dec_int]
    refine itd2 (fun _ => ?_) (fun _ => ?_)
    · exact ⟨_, rfl, a, ns, 1, rfl, hS, by decide, fun c => ⟨_, rfl, _, rfl, c, mp, mt, rfl, p1, p14, by omega, by omega, q⟩⟩
    have c0 : 0 ≤ hd / 2 % mp := Int.emod_nonneg _ (by omega)
    have c1 : hd / 2 % mp < mp := Int.emod_lt_of_pos _ (by omega)
    refine ⟨_, rfl, _, _, rfl, rfl, ⟨by decide, by decide⟩, _, rfl, _, _, rfl, rfl, (by show 0 < mp; omega), _, _, rfl, rfl, ?_⟩
    obtain ⟨n, hn⟩ : ∃ n, n = 1 + hd / 2 % mp := ⟨_, rfl⟩
    have n1 : 1 ≤ n := by omega
    have n14 : n ≤ mp := by omega
    have N0 : (0 : Int) < n := by omega
    refine ⟨Nat.zero_le _, fun l hl => ?_⟩
    have s0 := same_at (o := .lst []) hl
    refine ⟨_, rfl, _, rfl, a, ns, 1, mt, rfl, s0.seq hS, hn63, by decide, t1, t30, fun m ms H1 s1 hm0 hm1 hml => ?_⟩
    have s01 := s0.trans s1
    have nml : m ≠ l := fun e => by rw [e, upd_same] at hm0; cases hm0
    refine ⟨m, rfl, ⟨_, SqL.of hm1⟩, ?_⟩
    refine for_enum (K := K) (a := m) (xs := IL ms) (fun i σ H2 => ∃ (xs : List V) (ps : List (Int × Int)) (v6 v7 v8 v9 : Option V), σ = [some (.ref a), some (.int mp), some (.int mt), some (.int hd), some (.int n), some (.ref l), v6, v7, v8, v9] ∧ Same H H2 ∧ H2 m = some (.lst (IL ms)) ∧ H2 l = some (.lst xs) ∧ PairsV H2 xs ps ∧ ps.length = i ∧ ∀ p ∈ ps, 0 ≤ p.1 ∧ p.1 < n ∧ 0 ≤ p.2 ∧ p.2 < n)
      ⟨[], [], none, none, none, none, by rw [hn]; rfl, s01, hm1, s1 _ _ upd_same, PairsV.nil, rfl, fun _ h => (by cases h)⟩ (fun i σ H2 _ ⟨_, _, _, _, _, _, _, _, h, _⟩ => SqL.of h) ?_ ?_
    · rintro i x σ H2 pt hpt hi ⟨xs, ps, v6, v7, v8, v9, rfl, s2, hm2, h2, hP, hlp, hb⟩
      obtain ⟨k, rfl, hk⟩ := il_get hi
      have hi30 := (List.getElem?_eq_some_iff.mp hk).1
      have xl : xs.length < sizeLine := small60' (by rw [hP.1]; omega)
      have s3 := same_at (o := .tup [.int i, .int k]) hpt
      have md : ∀ z : Int, 0 ≤ z % n ∧ z % n < n := fun z => ⟨Int.emod_nonneg _ (by omega), Int.emod_lt_of_pos _ (by omega)⟩
      refine ⟨pt, _, rfl, SqT.of upd_same, rfl, _, _, rfl, _, _, rfl, rfl, ?_⟩
      generalize upd H2 pt (.tup [.int i, .int k]) = H3 at *
      have h3 := s3 _ _ h2
      refine ⟨_, rfl, _, _, rfl, fun r1 _ _ => ⟨_, rfl, _, _, rfl, rfl, N0, ?_⟩⟩
      refine ⟨_, rfl, _, _, rfl, fun r2 _ _ => ⟨_, rfl, _, _, rfl, rfl, N0, ?_⟩⟩
      refine nm ?_
      refine nx_mk ?_
      refine cont1 (fun σ H4 => ∃ (o1 o2 : Int), σ = [some (.ref a), some (.int mp), some (.int mt), some (.int hd), some (.int n), some (.ref l), some (.int i), some (.int k), some (.int o1), some (.int o2)] ∧ H4 = H3 ∧ 0 ≤ o1 ∧ o1 < n ∧ 0 ≤ o2 ∧ o2 < n) ?_ ?_
      · rintro σ H4 ⟨o1, o2, rfl, rfl, a0, a1, b0, b1⟩
        refine ⟨_, rfl, .inl ⟨rfl, _, SqL.of h3⟩, _, rfl, _, rfl, two, fun t1 ht1 => ⟨_, rfl, _, rfl, two, fun t2 ht2 => ⟨two, fun pl hpl => ?_⟩⟩⟩
        have y1 := same_at (o := .tup [.int o1, .int o2]) ht1
        have y2 := same_at (o := .tup [.int o2, .int o1]) ht2
        have y3 := same_at (o := .lst [.ref t1, .ref t2]) hpl
        have hx1 := y3 _ _ (y2 _ _ (upd_same (H := H4) (a := t1) (o := .tup [.int o1, .int o2])))
        have hx2 := y3 _ _ (upd_same (a := t2) (o := .tup [.int o2, .int o1]))
        have hx3 : (upd (upd (upd H4 t1 (.tup [.int o1, .int o2])) t2 (.tup [.int o2, .int o1])) pl (.lst [.ref t1, .ref t2])) pl = some (.lst [.ref t1, .ref t2]) := upd_same
        have y13 := (y1.trans y2).trans y3
        generalize upd (upd (upd H4 t1 (.tup [.int o1, .int o2])) t2 (.tup [.int o2, .int o1])) pl (.lst [.ref t1, .ref t2]) = H5 at *
        refine ⟨_, rfl, _, _, rfl, fun u u0 u1 => ?_⟩
        obtain ⟨tt, p, hidx, htt, hp⟩ : ∃ (tt : Addr) (p : Int × Int), atI ([.ref t1, .ref t2] : List V) (u % 2) = some (.ref tt) ∧ H5 tt = some (.tup [.int p.1, .int p.2]) ∧ (0 ≤ p.1 ∧ p.1 < n ∧ 0 ≤ p.2 ∧ p.2 < n) := by
          rcases (by omega : u % 2 = 0 ∨ u % 2 = 1) with e | e <;> rw [e]
          · exact ⟨t1, (o1, o2), rfl, hx1, a0, a1, b0, b1⟩
          · exact ⟨t2, (o2, o1), rfl, hx2, b0, b1, a0, a1⟩
        refine ⟨_, _, rfl, rfl, (by show (0 : Int) < 2; decide), pl, _, _, .ref tt, rfl, rfl, SqL.of hx3, hidx, l, xs, _, rfl, rfl, y13 _ _ h3, xl, ?_⟩
        have s35 := (s2.trans s3).trans y13
        refine ⟨xs ++ [.ref tt], ps ++ [p], _, _, _, _, rfl, same_upd hl s35, ?_, upd_same, ?_, by rw [List.length_append, hlp]; rfl, fun p' hp' => ?_⟩
        · rw [upd_ne nml]
          exact y13 _ _ (s3 _ _ hm2)
        · exact (((hP.same s3).same y13).snoc ⟨tt, rfl, htt⟩).mut (y13 _ _ h3)
        · rcases List.mem_append.mp hp' with h | h
          · exact hb p' h
          · rw [List.mem_singleton.mp h]; exact hp
      · intro Kn hK
        have alt : Kn [some (.ref a), some (.int mp), some (.int mt), some (.int hd), some (.int n), some (.ref l), some (.int i), some (.int k), some (.int (r1 % n)), some (.int (r2 % n))] H3 := hK _ _ ⟨_, _, rfl, rfl, (md _).1, (md _).2, (md _).1, (md _).2⟩
        refine ⟨_, rfl, _, _, rfl, rfl, _, rfl, _, _, rfl, rfl, _, rfl, ?_⟩
        refine itd2 (fun hc => ?_) (fun hc => alt)
        refine ⟨_, rfl, _, _, rfl, fun r3 _ _ => ⟨_, _, rfl, rfl, (by show (0 : Int) < 8; decide), _, _, rfl, rfl, _, rfl, ?_⟩⟩
        refine itd2 (fun hc2 => ?_) (fun hc2 => alt)
        have I0 : (0 : Int) < (i : Int) + 1 := by omega
        have g0 : ∀ z : Int, 0 ≤ z % ((i : Int) + 1) ∧ z % ((i : Int) + 1) < (i : Int) + 1 := fun z => ⟨Int.emod_nonneg _ (by omega), Int.emod_lt_of_pos _ I0⟩
        refine ⟨_, rfl, _, _, rfl, fun r4 _ _ => ⟨_, rfl, _, _, rfl, rfl, _, _, rfl, rfl, I0, ?_⟩⟩
        refine ⟨_, rfl, _, _, rfl, rfl, ?_⟩
        exact hK _ _ ⟨r4 % ((i : Int) + 1), (i : Int) + 1, rfl, rfl, (g0 r4).1, by have := (g0 r4).2; omega, by omega, by omega⟩
    · rintro σ H2 ⟨xs, ps, v6, v7, v8, v9, rfl, s2, hm2, h2, hP, hlp, hb⟩
      refine ⟨_, rfl, _, rfl, two, fun r hr => ?_⟩
      have s3 := same_at (o := .tup [.int n, .ref l]) hr
      rw [il_length] at hlp
      exact q r l n xs ps _ (s2.trans s3) upd_same hl (s3 _ _ h2) (hP.same s3) ⟨by omega, by omega, by omega, hb⟩ (by omega) (by omega)
end
end My
namespace My
open PySem L2 PyProof.Rows
set_option maxHeartbeats 4000000
/-- a forest and its marks, as they lie -/
def PhV (n : Nat) (ps : List (Int × Int)) (H : Hp) (x : V) (l : List Int) : Prop := ∃ t p h, x = .ref t ∧ H t = some (.tup [.ref p, .ref h]) ∧ H p = some (.tup (IL l)) ∧ H h = some (.tup (IL (lms n (endsOf ps l))))
theorem PhV.same {n : Nat} {ps : List (Int × Int)} {H H' : Hp} {x : V} {l : List Int} (s : Same H H') (h : PhV n ps H x l) : PhV n ps H' x l := by
  obtain ⟨t, p, q, e, h1, h2, h3⟩ := h
  exact ⟨t, p, q, e, s _ _ h1, s _ _ h2, s _ _ h3⟩
theorem PhV.mut {n : Nat} {ps : List (Int × Int)} {H : Hp} {d : Addr} {ys zs : List V} {x : V} {l : List Int} (h : PhV n ps H x l) (hd : H d = some (.lst ys)) : PhV n ps (upd H d (.lst zs)) x l := by
  obtain ⟨t, p, q, e, h1, h2, h3⟩ := h
  exact ⟨t, p, q, e, by rw [upd_ne (ne_of h1 hd (fun z => nomatch z))]; exact h1, by rw [upd_ne (ne_of h2 hd (fun z => nomatch z))]; exact h2, by rw [upd_ne (ne_of h3 hd (fun z => nomatch z))]; exact h3⟩
theorem ends_at {ps : List (Int × Int)} {z : Int} {p : Int × Int} (h : ps[z.toNat]? = some p) : endOf ps z = (p.1.toNat, p.2.toNat) := by unfold endOf; rw [getD_of h]
/-- all trees of the web, in their order -/
def sp_law_trees (K : PySem.W.Frag) : Sp := fun vs H Q _ => ∃ (n : Int) (a : Addr) (xs : List V) (ps : List (Int × Int)), vs = [.int n, .ref a] ∧ SqL K H a xs ∧ PairsV H xs ps ∧ GoodW n ps ∧ n ≤ 6 ∧ ps.length ≤ 12 ∧
  ∀ (r : Addr) (ys : List V) (L : List (List Int)) (H' : Hp), Same H H' → H r = none → H' r = some (.lst ys) → TupsV H' ys L → L.length ≤ 300000 → (∀ l, l ∈ L ↔ IsTree n ps l) → L.Pairwise lexS → Q (.ref r) H'
section
variable {P : Program} {w : World} {K : PySem.W.Frag} {mg : Str → Option Value} {base : Heap} {t : Adr}
theorem sc_law_trees : FnScope ["places", "ties", "told", "k", "longer", "part", "heads", "tie", "one", "other", "joined_heads"] ["places", "ties"] (defScope s_law_trees) := ⟨rfl, rfl, rfl, by decide +kernel, rfl, by decide +kernel, by decide +kernel⟩
theorem ok_law_trees (T : Txt K mg t) : FnOk P w K mg base CX0 1 t.a_law_trees t.d_law_trees ["places", "ties"] (sp_law_trees K) := by
  refine T.f_law_trees.ok sc_law_trees (fun vs H Q E h => ?_) (fun cdv A outer s H vs Q E hr h => ?_)
  · obtain ⟨n, a, xs, ps, rfl, _⟩ := h
    rfl
  · obtain ⟨n, a, xs, ps, rfl, hA, hP, hG, n6, p12, q⟩ := h
    refine ⟨_, (pss_cons (ps_set (i := 2) sc_law_trees.nd rfl (Or.inl rfl) (pe_lst (pa_cons (pe_tup (pa_cons (pe_tup pa_nil) (pa_cons (pe_callTy (call_tuple_rng rfl) (by rfl) T.n_tuple Boot.«tuple» (pa_cons (pe_callTy call_rng1 (by rfl) T.n_range Boot.«range» (pa_cons (pv 0) pa_nil)) pa_nil)) pa_nil))) pa_nil)))
      (pss_cons (ps_for PassesOwn.never rfl (pi_range1 rfl T.n_range (pa_cons (pe_op op_sub (pv 0) pe_int) pa_nil)) (pg_name (i := 3) sc_law_trees.nd rfl (Or.inl rfl))
      (pss_cons (ps_set (i := 4) sc_law_trees.nd rfl (Or.inl rfl) (pe_lst pa_nil))
      (pss_cons (ps_for PassesOwn.never rfl (pi_listK K (pv 2)) (pg_tupK (n := 2) K rfl (pgs_cons (pg_name (i := 5) sc_law_trees.nd rfl (Or.inl rfl)) (pgs_cons (pg_name (i := 6) sc_law_trees.nd rfl (Or.inl rfl)) pgs_nil)))
      (pss_one (ps_for PassesOwn.never rfl (pi_range2 rfl T.n_range (pa_cons (pe_op op_add (pe_callB (call_maxTI K rfl) (by rfl) T.n_max Boot.«max» (pa_cons (pe_op (op_catQ K) (pe_tup (pa_cons (pe_un un_neg pe_int) pa_nil)) (pv 5)) pa_nil)) pe_int) (pa_cons (pe_callB (call_lenK K) (by rfl) T.n_len Boot.«len» (pa_cons (pv 1) pa_nil)) pa_nil))) (pg_name (i := 7) sc_law_trees.nd rfl (Or.inl rfl))
      (pss_cons (ps_set (i := 8) sc_law_trees.nd rfl (Or.inr rfl) (pe_ix (ix_tupK K) (pv 6) (pe_ix (ix_tupK K) (pe_ix (ix_listK K) (pv 1) (pv 7) (fun _ _ => rfl)) pe_int (fun _ _ => rfl)) (fun _ _ => rfl)))
      (pss_cons (ps_set (i := 9) sc_law_trees.nd rfl (Or.inr rfl) (pe_ix (ix_tupK K) (pv 6) (pe_ix (ix_tupK K) (pe_ix (ix_listK K) (pv 1) (pv 7) (fun _ _ => rfl)) pe_int (fun _ _ => rfl)) (fun _ _ => rfl)))
      (pss_one (ps_if (pt_cmpR op_ne (pv 8) (pv 9) (nomark _))
      (pss_cons (ps_set (i := 10) sc_law_trees.nd rfl (Or.inl rfl) (pe_callTy (call_tupleH K) (by rfl) T.n_tuple Boot.«tuple» (pa_cons (pe_lc rfl (sc0 := defScope s_law_trees) (N0 := ["places", "ties", "told", "k", "longer", "part", "heads", "tie", "one", "other", "joined_heads"]) (N' := ["head", "other", "one"]) (o := 1) (fr := [9, 8]) ⟨rfl, by decide +kernel, by decide +kernel, by decide +kernel, rfl, by decide +kernel⟩ (pi_tupK K (pv 6)) (own_name (by decide)) (fun _ _ _ _ => (pg_name (i := 0) (show List.Nodup (["head", "other", "one"] : List Str) by decide +kernel) rfl (Or.inl rfl))) (fun _ _ _ _ => pts_nil) (fun _ _ _ _ => (pe_ifExp (pt_cmpR op_eq (pv 0) (pv 1) (nomark _)) (pv 2) (pv 0)))) pa_nil)))
      (pss_one (ps_expr (pe_bmK K PySem.F.plainAttrs_list PySem.F.slot_list_append PySem.F.type_list_append mt_append (pv 4) (pa_cons (pe_tup (pa_cons (pe_op (op_catQ K) (pv 5) (pe_tup (pa_cons (pv 7) pa_nil))) (pa_cons (pv 10) pa_nil))) pa_nil)))))
      pss_nil)))))))
      (pss_one (ps_set (i := 2) sc_law_trees.nd rfl (Or.inl rfl) (pv 4))))))
      (pss_one (ps_ret (pe_lc rfl (sc0 := defScope s_law_trees) (N0 := ["places", "ties", "told", "k", "longer", "part", "heads", "tie", "one", "other", "joined_heads"]) (N' := ["part", "heads"]) (o := 2) (fr := []) ⟨rfl, by decide +kernel, by decide +kernel, by decide +kernel, rfl, by decide +kernel⟩ (pi_listK K (pv 2)) (own_tup (own_cons (by decide) (own_cons (by decide) own_nil))) (fun _ _ _ _ => (pg_tupK (n := 2) K rfl (pgs_cons (pg_name (i := 0) (show List.Nodup (["part", "heads"] : List Str) by decide +kernel) rfl (Or.inl rfl)) (pgs_cons (pg_name (i := 1) (show List.Nodup (["part", "heads"] : List Str) by decide +kernel) rfl (Or.inl rfl)) pgs_nil)))) (fun _ _ _ _ => pts_nil) (fun _ _ _ _ => (pv 0))))))), ?_⟩
    obtain ⟨g1, g2, g3, g4⟩ := id hG
    have hlx := hP.1
    have one : 1 ≤ sizeLine := by decide
    have two : 2 ≤ sizeLine := by decide
    have big : ∀ k : Nat, k ≤ 5 → (cmb (ps.length : Int) k).length ≤ 248832 := fun k hk => Nat.le_trans (cmb_len12 p12 k) (by rcases (by omega : k = 0 ∨ k = 1 ∨ k = 2 ∨ k = 3 ∨ k = 4 ∨ k = 5) with e | e | e | e | e | e <;> rw [e] <;> decide)
    have bigF : ∀ k : Nat, k ≤ 5 → (frs n.toNat ps k).length ≤ 248832 := fun k hk => Nat.le_trans (List.length_filter_le ..) (big k hk)
    have bh0 : ∀ H : Hp, Bears (PhV n.toNat ps H) [] [] := fun H => ⟨rfl, fun i l e => by simp at e⟩
    -- told = [((), tuple(range(places)))]
    refine ⟨Nat.zero_le _, fun t0 ht0 => ?_⟩
    have s0 := same_at (o := .tup []) ht0
    refine ⟨_, rfl, n, rfl, fun rg hrg => ⟨rg, 0, n, rfl, upd_same, ⟨by decide, by decide, by omega, by omega⟩, by omega, fun h0 hh0 => ?_⟩⟩
    have s1 := same_new (o := .tup ((rngI 0 n).map V.int)) (same_at (o := .rng 0 n) hrg) hh0
    refine ⟨two, fun pr hpr => ⟨one, fun d0 hd0 => ?_⟩⟩
    have s2 := same_at (o := .tup [.ref t0, .ref h0]) hpr
    have s3 := same_at (o := .lst [.ref pr]) hd0
    have e0 : (rngI 0 n).map V.int = IL (lms n.toNat (endsOf ps [])) := by rw [rngI_zero]; rfl
    have f1 := (s2.trans s3) _ _ (upd_same (a := h0) (o := .tup ((rngI 0 n).map V.int)))
    have hB0 : Bears (PhV n.toNat ps (upd (upd (upd (upd (upd H t0 (.tup [])) rg (.rng 0 n)) h0 (.tup ((rngI 0 n).map V.int))) pr (.tup [.ref t0, .ref h0])) d0 (.lst [.ref pr]))) [.ref pr] (frs n.toNat ps 0) :=
      (bh0 _).snoc ⟨pr, t0, h0, rfl, s3 _ _ upd_same, (s1.trans (s2.trans s3)) _ _ upd_same, by rw [← e0]; exact f1⟩
    refine ⟨_, rfl, _, _, rfl, rfl, _, rfl, by omega, by omega, for_range (lo := 0) (n := (n - 1).toNat) (fun i σ H2 => ∃ (d : Addr) (ys : List V) (v3 v4 v5 v6 v7 v8 v9 v10 : Option V), σ = [some (.int n), some (.ref a), some (.ref d), v3, v4, v5, v6, v7, v8, v9, v10] ∧ Same H H2 ∧ H2 d = some (.lst ys) ∧ Bears (PhV n.toNat ps H2) ys (frs n.toNat ps i))
      ⟨d0, [.ref pr], none, none, none, none, none, none, none, none, rfl, s0.trans (s1.trans (s2.trans s3)), upd_same, hB0⟩ ?_ ?_⟩
    · rintro i σ H2 hi ⟨d, ys, v3, v4, v5, v6, v7, v8, v9, v10, rfl, s2, hd, hB⟩
      have hi5 : i < 5 := by omega
      refine ⟨Nat.zero_le _, fun e he => ?_⟩
      have s3 := same_at (o := .lst []) he
      refine ⟨_, rfl, d, rfl, ⟨_, SqL.of (s3 _ _ hd)⟩, for_list (K := K) (a := d) (xs := ys) (fun j σ H4 => ∃ (zs : List V) (v5 v6 v7 v8 v9 v10 : Option V), σ = [some (.int n), some (.ref a), some (.ref d), some (.int (0 + (i : Int))), some (.ref e), v5, v6, v7, v8, v9, v10] ∧ Same H2 H4 ∧ H4 e = some (.lst zs) ∧ Bears (PhV n.toNat ps H4) zs (((frs n.toNat ps i).take j).flatMap fun l => (ext1 (ps.length : Int) l).filter (Fr n.toNat ps)))
        ⟨[], _, _, _, _, _, _, rfl, s3, upd_same, bh0 _⟩ (fun j σ H4 _ ⟨_, _, _, _, _, _, _, _, e, _⟩ => SqL.of (e _ _ hd)) ?_ ?_⟩
      · rintro j v σ H4 hj ⟨zs, v5, v6, v7, v8, v9, v10, rfl, s4, he4, hZ⟩
        obtain ⟨l, hl, tt, pA, hA', rfl, htt, hpA, hhA⟩ := hB.at hj
        obtain ⟨ll, hI, hFr⟩ := frs_mem (List.mem_of_getElem? hl)
        have hnx : nxt l ≤ 12 ∧ 0 ≤ nxt l := by
          unfold nxt
          cases q : l.getLast? with
          | none => exact ⟨by show (0 : Int) ≤ 12; decide, Int.le_refl 0⟩
          | some x => have := hI.all x (List.mem_of_getLast? q); exact ⟨by show x + 1 ≤ 12; omega, by show 0 ≤ x + 1; omega⟩
        have zl : ∀ (w : List (List Int)) (zs : List V), w.length ≤ 12 → zs.length ≤ (((frs n.toNat ps i).take j).flatMap fun l => (ext1 (ps.length : Int) l).filter (Fr n.toNat ps)).length + w.length → zs.length < sizeLine := fun w zs hw h => by
          have h1 : (((frs n.toNat ps i).take j).flatMap fun l => (ext1 (ps.length : Int) l).filter (Fr n.toNat ps)).length ≤ 248832 := by
            have h2 : (((frs n.toNat ps i).take j).flatMap fun l => (ext1 (ps.length : Int) l).filter (Fr n.toNat ps)).length ≤ (frs n.toNat ps (i + 1)).length := by
              rw [frs_succ]
              conv => rhs; rw [← List.take_append_drop j (frs n.toNat ps i), List.flatMap_append, List.length_append]
              exact Nat.le_add_right _ _
            exact Nat.le_trans h2 (bigF (i + 1) (by omega))
          exact small60' (by omega)
        refine ⟨tt, _, rfl, SqT.of (s4 _ _ htt), rfl, _, _, rfl, _, _, rfl, rfl, ?_⟩
        have hpA4 := s4 _ _ hpA
        have hhA4 := s4 _ _ hhA
        -- range(max((-1,) + part) + 1, len(ties))
        refine ⟨_, rfl, one, fun m1 hm1 => ?_⟩
        have u1 := same_at (o := .tup [.int (-1)]) hm1
        refine ⟨_, rfl, m1, pA, _, _, rfl, rfl, upd_same, u1 _ _ hpA4, small60 (by rw [il_length]; show 1 + _ ≤ _; omega), fun r1 H5 u2 hr1 => ?_⟩
        have s5 := u1.trans u2
        refine ⟨r1, -1 :: l, rfl, SqT.of hr1, Nat.succ_pos _, fun mx hx1 hx2 => ?_⟩
        have hmx := max_nxt hI hx1 hx2
        have s25 := s4.trans s5
        refine ⟨_, _, rfl, rfl, _, rfl, a, xs, rfl, .inl ((s2.trans s25).seq hA), mx + 1, (xs.length : Int), rfl, ⟨by omega, by omega, by omega, by omega⟩, ?_⟩
        have he5 := s5 _ _ he4
        refine for_range (lo := mx + 1) (n := ((xs.length : Int) - (mx + 1)).toNat) (fun q σ H6 => ∃ (zs : List V) (v7 v8 v9 v10 : Option V), σ = [some (.int n), some (.ref a), some (.ref d), some (.int (0 + (i : Int))), some (.ref e), some (.ref pA), some (.ref hA'), v7, v8, v9, v10] ∧ Same H2 H6 ∧ H6 e = some (.lst zs) ∧ Bears (PhV n.toNat ps H6) zs ((((frs n.toNat ps i).take j).flatMap fun l => (ext1 (ps.length : Int) l).filter (Fr n.toNat ps)) ++ ((List.range q).map fun (t : Nat) => l ++ [nxt l + (t : Int)]).filter (Fr n.toNat ps)))
          ⟨zs, _, _, _, _, rfl, s25, he5, by rw [List.range_zero, List.map_nil, List.filter_nil, List.append_nil]; exact hZ.imp fun _ _ h => h.same s5⟩ ?_ ?_
        · rintro q' σ H6 hq ⟨zs, v7, v8, v9, v10, rfl, s6, he6, hZ⟩
          obtain ⟨z, hz⟩ : ∃ z : Int, z = mx + 1 + (q' : Int) := ⟨_, rfl⟩
          rw [← hz]
          have zb : 0 ≤ z ∧ z < (ps.length : Int) := by omega
          have hzn : nxt l + (q' : Int) = z := by omega
          have sH6 := s2.trans s6
          obtain ⟨p, hp⟩ : ∃ p, ps[z.toNat]? = some p := ⟨_, List.getElem?_eq_getElem (by omega)⟩
          obtain ⟨vv, hvv, tz, rfl, htz⟩ := hP.2 _ p hp
          have htz6 := sH6 _ _ htz
          obtain ⟨b1, b2, b3, b4⟩ := g4 p (List.mem_of_getElem? hp)
          have hpA6 := s6 _ _ hpA
          have hhA6 := s6 _ _ hhA
          have lL : (lms n.toNat (endsOf ps l)).length = n.toNat := lms_length _ _
          have eo := ends_at hp
          have lsn : lms n.toNat (endsOf ps (l ++ [z])) = lm (lms n.toNat (endsOf ps l)) p.1.toNat p.2.toNat := by rw [ends_snoc, eo, lms_snoc]
          have frz := fr_snoc (n := n.toNat) (ps := ps) (l := l) (z := z)
          rw [eo] at frz
          generalize lms n.toNat (endsOf ps l) = M at *
          have iA : atI (IL M) p.1 = some (.int (mk M p.1.toNat)) := atI_of (n := p.1.toNat) (by omega) (il_at (mk_some (by omega)))
          have iB : atI (IL M) p.2 = some (.int (mk M p.2.toNat)) := atI_of (n := p.2.toNat) (by omega) (il_at (mk_some (by omega)))
          have hat : atI xs z = some (.ref tz) := atI_of (n := z.toNat) (by omega) hvv
          refine ⟨_, rfl, _, rfl, _, rfl, a, xs, z, .ref tz, rfl, rfl, sH6.seq hA, hat, tz, _, 0, .int p.1, rfl, rfl, SqT.of htz6, rfl, hA', _, p.1, _, rfl, rfl, SqT.of hhA6, iA, ?_⟩
          refine ⟨_, rfl, _, rfl, _, rfl, a, xs, z, .ref tz, rfl, rfl, sH6.seq hA, hat, tz, _, 1, .int p.2, rfl, rfl, SqT.of htz6, rfl, hA', _, p.2, _, rfl, rfl, SqT.of hhA6, iB, ?_⟩
          refine ⟨_, rfl, _, rfl, rfl, _, rfl, ?_⟩
          rw [dec_int]
          have lst : ((List.range (q' + 1)).map fun (t : Nat) => l ++ [nxt l + (t : Int)]).filter (Fr n.toNat ps) = ((List.range q').map fun (t : Nat) => l ++ [nxt l + (t : Int)]).filter (Fr n.toNat ps) ++ (if Fr n.toNat ps (l ++ [z]) = true then [l ++ [z]] else []) := by
            rw [List.range_succ, List.map_append, List.filter_append]
            refine congrArg _ ?_
            show List.filter _ [l ++ [nxt l + (q' : Int)]] = _
            rw [hzn, List.filter_cons]
            rfl
          refine itn2 (fun heq => ?_) (fun hne => ?_)
          · refine ⟨zs, _, _, _, _, rfl, s6, he6, ?_⟩
            rw [lst, if_neg (fun h => (frz.mp h).2 heq), List.append_nil]
            exact hZ
          have hFz : Fr n.toNat ps (l ++ [z]) = true := frz.mpr ⟨hFr, hne⟩
          refine ⟨_, rfl, hA', rfl, ⟨_, SqT.of hhA6⟩, lc_tup (K := K) (a := hA') (xs := IL M) (fun w us H7 => H7 = H6 ∧ w ≤ M.length ∧ us = IL ((M.take w).map fun k => if k = mk M p.2.toNat then mk M p.1.toNat else k)) ⟨rfl, Nat.zero_le _, rfl⟩ (small60' (by rw [il_length]; omega))
            (fun w us H7 hw ⟨e, hw2, ey⟩ => ⟨e ▸ SqT.of hhA6, by rw [ey, il_length, List.length_map, List.length_take]; omega⟩) ?_ ?_⟩
          · rintro w v us H7 hw ⟨rfl, hwl, rfl⟩ S hSS
            obtain ⟨y, rfl, hy⟩ := il_get hw
            have hwl' := (List.getElem?_eq_some_iff.mp hy).1
            have app : ∀ v : Int, v = (if y = mk M p.2.toNat then mk M p.1.toNat else y) → IL ((M.take w).map fun k => if k = mk M p.2.toNat then mk M p.1.toNat else k) ++ [.int v] = IL ((M.take (w + 1)).map fun k => if k = mk M p.2.toNat then mk M p.1.toNat else k) := fun v hv => by
              rw [List.take_succ, hy, List.map_append, hv]
              exact (il_snoc _ _).symm
            refine nm ?_
            refine ⟨_, rfl, _, rfl, rfl, _, rfl, ?_⟩
            rw [dec_int]
            refine itd2 (fun hc => ?_) (fun hc => ?_)
            · exact ⟨_, rfl, hSS _ _ ⟨rfl, hwl', app _ (by rw [if_pos hc])⟩⟩
            · exact ⟨_, rfl, hSS _ _ ⟨rfl, hwl', app _ (by rw [if_neg hc])⟩⟩
          rintro us H7 ⟨rfl, _, rfl⟩ la hla
          rw [il_length, List.take_length]
          have elm : (M.map fun k => if k = mk M p.2.toNat then mk M p.1.toNat else k) = lms n.toNat (endsOf ps (l ++ [z])) := by
            rw [lsn]
            unfold lm
            rw [if_pos hne]
          have w1 := same_at (o := .lst (IL (M.map fun k => if k = mk M p.2.toNat then mk M p.1.toNat else k))) hla
          refine ⟨la, _, rfl, .inr (SqL.of upd_same), fun jA H8 w2 hjA => ?_⟩
          have w12 := w1.trans w2
          have he8 := w12 _ _ he6
          refine ⟨_, rfl, .inl ⟨rfl, _, SqL.of he8⟩, _, rfl, _, rfl, one, fun p2 hp2 => ?_⟩
          have w3 := same_at (o := .tup [.int z]) hp2
          refine ⟨pA, p2, _, _, rfl, rfl, (w12.trans w3) _ _ hpA6, upd_same, small60 (by rw [il_length]; show _ + 1 ≤ _; omega), fun r3 H9 w4 hr3 => ?_⟩
          have w14 := w12.trans (w3.trans w4)
          refine ⟨_, rfl, two, fun tn htn => ?_⟩
          have w5 := same_at (o := .tup [.ref r3, .ref jA]) htn
          have w15 := w14.trans w5
          have he10 := w15 _ _ he6
          have xl : zs.length < sizeLine := zl (((List.range q').map fun (t : Nat) => l ++ [nxt l + (t : Int)]).filter (Fr n.toNat ps)) zs (by
            have h1 : (((List.range q').map fun (t : Nat) => l ++ [nxt l + (t : Int)]).filter (Fr n.toNat ps)).length ≤ q' := by
              refine Nat.le_trans (List.length_filter_le ..) ?_
              rw [List.length_map, List.length_range]
              exact Nat.le_refl _
            omega) (by rw [hZ.1, List.length_append]; exact Nat.le_refl _)
          refine ⟨e, zs, _, rfl, rfl, he10, xl, ?_⟩
          have heN : H2 e = none := he
          refine ⟨zs ++ [.ref tn], _, _, _, _, rfl, same_upd heN (s6.trans w15), upd_same, ?_⟩
          rw [lst, if_pos hFz, ← List.append_assoc]
          have hn : PhV n.toNat ps (upd H9 tn (.tup [.ref r3, .ref jA])) (.ref tn) (l ++ [z]) := ⟨tn, r3, jA, rfl, upd_same, by rw [w5 _ _ hr3, il_snoc], by rw [← elm]; exact (w3.trans (w4.trans w5)) _ _ hjA⟩
          exact ((hZ.imp fun _ _ h => h.same w15).snoc hn).imp fun _ _ h => h.mut he10
        · rintro σ H6 ⟨zs, v7, v8, v9, v10, rfl, s6, he6, hZ⟩
          refine ⟨zs, _, _, _, _, _, _, rfl, s6, he6, ?_⟩
          rw [flat_succ hl]
          have ee : ext1 (ps.length : Int) l = (List.range ((xs.length : Int) - (mx + 1)).toNat).map fun (t : Nat) => l ++ [nxt l + (t : Int)] := by unfold ext1; rw [hmx, hlx]
          rw [ee]
          exact hZ
      · rintro σ H4 ⟨zs, v5, v6, v7, v8, v9, v10, rfl, s4, he4, hZ⟩
        refine ⟨_, rfl, e, zs, _, _, _, _, _, _, _, _, rfl, s2.trans s4, he4, ?_⟩
        rw [hB.1, List.take_length] at hZ
        rw [frs_succ]
        exact hZ
    · rintro σ H2 ⟨d, ys, v3, v4, v5, v6, v7, v8, v9, v10, rfl, s2, hd, hB⟩
      have yl : ys.length ≤ 248832 := by rw [hB.1]; exact bigF _ (by omega)
      refine ⟨_, rfl, d, rfl, ⟨_, SqL.of hd⟩, lc_list (K := K) (a := d) (xs := ys) (fun i ws H3 => H3 = H2 ∧ i ≤ ys.length ∧ TupsV H2 ws ((frs n.toNat ps (n - 1).toNat).take i)) ⟨rfl, Nat.zero_le _, TupsV.nil⟩ (small60' (by omega))
        (fun i ws H3 hi ⟨e, hi2, ey⟩ => ⟨e ▸ SqL.of hd, by rw [ey.1, List.length_take]; omega⟩) ?_ ?_⟩
      · rintro i v ws H3 hi ⟨rfl, hil, hW⟩ S hSS
        obtain ⟨l, hl, tt, pA, hA', rfl, htt, hpA, hhA⟩ := hB.at hi
        have hil' : i < ys.length := (List.getElem?_eq_some_iff.mp hi).1
        refine ⟨tt, _, rfl, SqT.of htt, rfl, _, _, rfl, _, _, rfl, rfl, ?_⟩
        refine ⟨_, rfl, hSS _ _ ⟨rfl, hil', ?_⟩⟩
        rw [List.take_succ, hl]
        exact hW.snoc ⟨pA, rfl, hpA⟩
      · rintro ws H3 ⟨rfl, _, hW⟩ p hp
        rw [hB.1, List.take_length] at hW
        refine q p ws _ _ (s2.trans (same_at hp)) (s2.free hp) upd_same (hW.same (same_at hp)) ?_ (fun l => frs_tree hG) ((cmb_asc _ _).sublist List.filter_sublist)
        have := bigF (n - 1).toNat (by omega)
        omega
end
end My
namespace My
open PySem L2 PyProof.Rows
set_option maxHeartbeats 4000000
theorem far_pow {k : Int} (h0 : 0 ≤ k) (h1 : k ≤ 30) : -(10 ^ 200) < (48271 + 2 * k) ^ (12 : Int).toNat ∧ (48271 + 2 * k) ^ (12 : Int).toNat < 10 ^ 200 := by
  have h : ((48271 + 2 * k) ^ (12 : Int).toNat).natAbs ≤ 50000 ^ 12 := by
    rw [Int.natAbs_pow]
    exact Nat.pow_le_pow_left (by omega) 12
  have e : (50000 : Nat) ^ 12 < 10 ^ 100 := by decide
  generalize (48271 + 2 * k) ^ (12 : Int).toNat = x at *
  omega
/-- so many lengths -/
def sp_law_lengths (K : PySem.W.Frag) : Sp := fun vs H Q _ => ∃ (a : Addr) (ns : List Int) (c : Nat), vs = [.ref a, .int c] ∧ SqL K H a (IL ns) ∧ c ≤ 30 ∧ ∀ (r : Addr) (ls : List Int) (H' : Hp), Same H H' → H r = none → H' r = some (.lst (IL ls)) → ls.length = c → Q (.ref r) H'
section
variable {P : Program} {w : World} {K : PySem.W.Frag} {mg : Str → Option Value} {base : Heap} {t : Adr}
theorem sc_law_lengths : FnScope ["script", "count", "head", "rest", "lengths", "k", "far"] ["script", "count"] (defScope s_law_lengths) := ⟨rfl, rfl, rfl, by decide +kernel, rfl, by decide +kernel, by decide +kernel⟩
theorem ok_law_lengths (T : Txt K mg t) : FnOk P w K mg base CX0 2 t.a_law_lengths t.d_law_lengths ["script", "count"] (sp_law_lengths K) := by
  refine T.f_law_lengths.ok sc_law_lengths (fun vs H Q E h => ?_) (fun cdv A outer s H vs Q E hr h => ?_)
  · obtain ⟨a, ns, c, rfl, _⟩ := h
    rfl
  · obtain ⟨a, ns, c, rfl, hS, c30, q⟩ := h
    refine ⟨_, (pss_cons (ps_set (i := 2) sc_law_lengths.nd rfl (Or.inl rfl) (pe_call (ok_law_at T) (hr.mono (by decide)) rfl T.m_law_at T.f_law_at.kp T.b_law_at .nil pass0 (pa_cons (pv 0) (pa_cons pe_int pa_nil))))
      (pss_cons (ps_set (i := 3) sc_law_lengths.nd rfl (Or.inl rfl) (pe_op op_fdiv (pv 2) pe_int))
      (pss_cons (ps_set (i := 4) sc_law_lengths.nd rfl (Or.inl rfl) (pe_lst pa_nil))
      (pss_cons (ps_for PassesOwn.never rfl (pi_range1 rfl T.n_range (pa_cons (pv 1) pa_nil)) (pg_name (i := 5) sc_law_lengths.nd rfl (Or.inl rfl))
      (pss_cons (ps_if (PW.pt (pw_and (pt_cmpR op_eq (pe_op op_mod (pv 2) pe_int) pe_int (nomark _)) (pw_and1 (pt_cmpR (op_inK K) (pv 3) (pe_lst (pa_cons pe_int (pa_cons (pe_un un_neg pe_int) pa_nil))) rfl))))
      (pss_one (ps_expr (pe_bmK K PySem.F.plainAttrs_list PySem.F.slot_list_append PySem.F.type_list_append mt_append (pv 4) (pa_cons (pe_op op_sub (pe_op op_mod (pe_call (ok_law_stir T) (hr.mono (by decide)) rfl T.m_law_stir T.f_law_stir.kp T.b_law_stir .nil pass0 (pa_cons (pv 2) (pa_cons (pe_op op_add pe_int (pv 5)) pa_nil))) pe_int) pe_int) pa_nil))))
      (pss_one (ps_if (pt_cmpR op_eq (pe_op op_mod (pv 2) pe_int) pe_int (nomark _))
      (pss_one (ps_expr (pe_bmK K PySem.F.plainAttrs_list PySem.F.slot_list_append PySem.F.type_list_append mt_append (pv 4) (pa_cons (pe_op op_sub (pe_op op_mod (pv 3) pe_int) pe_int) pa_nil))))
      (pss_one (ps_if (pt_cmpR op_eq (pe_op op_mod (pe_op op_fdiv (pv 2) pe_int) pe_int) pe_int (nomark _))
      (pss_cons (ps_set (i := 6) sc_law_lengths.nd rfl (Or.inl rfl) (pe_op op_mulC (pe_op op_add (pe_op op_add (pe_op op_mod (pv 2) (pe_op op_pow pe_int pe_int)) (pe_op op_mulC pe_int (pv 5))) pe_int) (pe_op op_pow (pe_op op_add pe_int (pe_op op_mulC pe_int (pv 5))) pe_int)))
      (pss_one (ps_expr (pe_bmK K PySem.F.plainAttrs_list PySem.F.slot_list_append PySem.F.type_list_append mt_append (pv 4) (pa_cons (pe_op op_sub (pe_op op_mod (pv 6) (pe_op op_pow pe_int pe_int)) (pe_op op_mulC pe_int (pe_op op_pow pe_int pe_int))) pa_nil)))))
      (pss_one (ps_expr (pe_bmK K PySem.F.plainAttrs_list PySem.F.slot_list_append PySem.F.type_list_append mt_append (pv 4) (pa_cons (pe_op op_sub (pe_op op_mod (pe_call (ok_law_stir T) (hr.mono (by decide)) rfl T.m_law_stir T.f_law_stir.kp T.b_law_stir .nil pass0 (pa_cons (pv 2) (pa_cons (pe_op op_add pe_int (pv 5)) pa_nil))) (pe_ix (ix_listK K) (pe_lst (pa_cons pe_int (pa_cons pe_int pa_nil))) (pe_op op_mod (pe_op op_fdiv (pv 2) pe_int) pe_int) (fun _ _ => rfl))) pe_int) pa_nil)))))))))
      (pss_one (ps_set (i := 3) sc_law_lengths.nd rfl (Or.inl rfl) (pe_op op_fdiv (pv 3) pe_int)))))
      (pss_one (ps_ret (pv 4))))))), ?_⟩
    have two : 2 ≤ sizeLine := by decide
    refine ⟨_, rfl, a, ns, 2, rfl, hS, by decide, fun hd => ?_⟩
    refine ⟨_, rfl, _, _, rfl, rfl, ⟨by decide, by decide⟩, ?_⟩
    refine ⟨Nat.zero_le _, fun l hl => ?_⟩
    refine ⟨_, rfl, c, rfl, by omega, by omega, for_range (lo := 0) (n := (c : Int).toNat) (fun i σ H2 => ∃ (z : Int) (W : List Int) (v5 v6 : Option V), σ = [some (.ref a), some (.int c), some (.int hd), some (.int z), some (.ref l), v5, v6] ∧ W.length = i ∧ Same H H2 ∧ H2 l = some (.lst (IL W))) ⟨_, [], none, none, rfl, rfl, same_at hl, upd_same⟩ ?_ ?_⟩
    · rintro i σ H2 hi ⟨z, W, v5, v6, rfl, hW, s2, h2⟩
      have wl : (IL W).length < sizeLine := small60' (by rw [il_length]; omega)
      have app : ∀ (H3 : Hp) (v : Int) (zz : Int) (w5 w6 : Option V), Same H2 H3 → ∃ (z : Int) (W2 : List Int) (v5 v6 : Option V), [some (.ref a), some (.int c), some (.int hd), some (.int zz), some (.ref l), w5, w6] = [some (.ref a), some (.int c), some (.int hd), some (.int z), some (.ref l), v5, v6] ∧ W2.length = i + 1 ∧ Same H (upd H3 l (.lst (IL W ++ [.int v]))) ∧ (upd H3 l (.lst (IL W ++ [.int v]))) l = some (.lst (IL W2)) := fun H3 v zz w5 w6 s3 =>
        ⟨zz, W ++ [v], w5, w6, rfl, by rw [List.length_append, hW]; rfl, same_upd hl (s2.trans s3), by rw [upd_same, il_snoc]⟩
      have P2 : (0 : Int) < 2 := by decide
      have P7 : (0 : Int) < 7 := by decide
      have D7 : (0 : Int) < 7 ∧ (7 : Int) < 1073741824 := by decide
      have D2 : (0 : Int) < 2 ∧ (2 : Int) < 1073741824 := by decide
      refine ⟨_, rfl, _, _, rfl, rfl, P2, rfl, _, rfl, ?_⟩
      rw [dec_int]
      refine itd2 (fun he => ?_) (fun he => ?_)
      · refine ⟨_, rfl, _, rfl, two, fun lp hlp => ?_⟩
        have s3 := same_at (o := .lst [.int 0, .int (-1)]) hlp
        refine ⟨lp, _, rfl, .inl (SqL.of upd_same), rfl, rfl, _, rfl, ?_⟩
        have h3 := s3 _ _ h2
        refine itb (fun _ => ?_) (fun _ => ?_)
        · refine ⟨_, rfl, .inl ⟨rfl, _, SqL.of h3⟩, _, rfl, _, rfl, _, _, rfl, rfl, _, _, rfl, fun r _ _ => ⟨_, _, rfl, rfl, P7, _, _, rfl, rfl, l, _, _, rfl, rfl, h3, wl, ?_⟩⟩
          refine ⟨_, rfl, _, _, rfl, rfl, D7, ?_⟩
          exact app _ _ _ _ _ s3
        · refine ⟨_, rfl, _, _, rfl, rfl, P2, rfl, _, rfl, ?_⟩
          rw [dec_int]
          refine itd he ?_
          refine ⟨_, rfl, .inl ⟨rfl, _, SqL.of h3⟩, _, rfl, _, _, rfl, rfl, P7, _, _, rfl, rfl, l, _, _, rfl, rfl, h3, wl, ?_⟩
          refine ⟨_, rfl, _, _, rfl, rfl, D7, ?_⟩
          exact app _ _ _ _ _ s3
      · refine ⟨_, rfl, _, _, rfl, rfl, P2, rfl, _, rfl, ?_⟩
        rw [dec_int]
        refine itdn he ?_
        refine ⟨_, rfl, _, _, rfl, rfl, D2, _, _, rfl, rfl, (by show (0 : Int) < 3; decide), rfl, _, rfl, ?_⟩
        rw [dec_int]
        refine itd2 (fun hf => ?_) (fun hf => ?_)
        · have f0 : -(10 ^ 200) < hd % 10 ^ 60 + 7919 * (0 + (i : Int)) + 1 := by omega
          have f1 : hd % 10 ^ 60 + 7919 * (0 + (i : Int)) + 1 < 10 ^ 200 := by omega
          have k0 : -(10 ^ 200) < (0 + (i : Int)) ∧ (0 + (i : Int)) < 10 ^ 200 := by omega
          have fp := far_pow (k := 0 + (i : Int)) (by omega) (by omega)
          have fa : (48271 + 2 * (0 + (i : Int))).natAbs < 2 ^ 64 := by omega
          refine ⟨_, rfl, _, _, rfl, rfl, ⟨by decide, by decide, by decide⟩, _, _, rfl, rfl, (by show (0 : Int) < 10 ^ 60; decide), _, rfl, _, _, rfl, rfl, ⟨⟨by decide, by decide⟩, k0⟩, _, _, rfl, rfl, _, _, rfl, rfl, _, rfl, _, _, rfl, rfl, ⟨⟨by decide, by decide⟩, k0⟩, _, _, rfl, rfl, _, _, rfl, rfl, ⟨by decide, by decide, fa⟩, _, _, rfl, rfl, ⟨⟨f0, f1⟩, fp⟩, ?_⟩
          refine ⟨_, rfl, .inl ⟨rfl, _, SqL.of h2⟩, _, rfl, _, _, rfl, rfl, ⟨by decide, by decide, by decide⟩, _, _, rfl, rfl, (by show (0 : Int) < 10 ^ 50; decide), _, _, rfl, rfl, ⟨by decide, by decide, by decide⟩, _, _, rfl, rfl, ⟨⟨by decide, by decide⟩, ⟨by decide, by decide⟩⟩, _, _, rfl, rfl, l, _, _, rfl, rfl, h2, wl, ?_⟩
          refine ⟨_, rfl, _, _, rfl, rfl, D7, ?_⟩
          exact app _ _ _ _ _ (Same.refl _)
        · refine ⟨_, rfl, .inl ⟨rfl, _, SqL.of h2⟩, _, rfl, _, rfl, _, _, rfl, rfl, _, _, rfl, fun r _ _ => ⟨two, fun pl hpl => ?_⟩⟩
          have s3 := same_at (o := .lst [.int 3, .int 9]) hpl
          have h3 := s3 _ _ h2
          obtain ⟨w, hw, w0⟩ : ∃ w : Int, atI ([.int 3, .int 9] : List V) (hd / 6 % 2) = some (.int w) ∧ 0 < w := by
            rcases (by omega : hd / 6 % 2 = 0 ∨ hd / 6 % 2 = 1) with e | e <;> rw [e]
            · exact ⟨3, rfl, by decide⟩
            · exact ⟨9, rfl, by decide⟩
          refine ⟨_, rfl, _, _, rfl, rfl, ⟨by decide, by decide⟩, _, _, rfl, rfl, P2, pl, _, _, .int w, rfl, rfl, SqL.of upd_same, hw, _, _, rfl, rfl, w0, _, _, rfl, rfl, l, _, _, rfl, rfl, h3, wl, ?_⟩
          refine ⟨_, rfl, _, _, rfl, rfl, D7, ?_⟩
          exact app _ _ _ _ _ s3
    rintro σ H2 ⟨z, W, v5, v6, rfl, hW, s2, h2⟩
    exact ⟨_, rfl, q l W H2 s2 hl h2 (by omega)⟩
end
end My
namespace My
open PySem L2 PyProof.Rows
set_option maxHeartbeats 4000000
/-- whether it was refused, and the tree -/
def sp_law_told (K : PySem.W.Frag) (C : Addr) : Sp := fun vs H Q _ => ∃ (w b : Addr) (kd : Bool) (n : Int) (ps : List (Int × Int)) (ls : List Int), vs = [.ref w, .ref b] ∧ WebAt C H w n ps ∧ GoodW n ps ∧ SqK kd K H b (IL ls) ∧ ls.length = ps.length ∧
  (∀ (U : List Int) (t r : Addr) (H' : Hp), IsTree n (cwT n.toNat ps ls) U → (∀ W, IsTree n (cwT n.toNat ps ls) W → HT.lexLt W U = false) → Same H H' → H' t = some (.tup [.bl false, .ref r]) → H' r = some (.tup (IL U)) → Q (.ref t) H') ∧
  ((∀ W, ¬ IsTree n (cwT n.toNat ps ls) W) → ∀ (t : Addr) (H' : Hp), Same H H' → H' t = some (.tup [.bl true, .non]) → Q (.ref t) H')
section
variable {P : Program} {w : World} {K : PySem.W.Frag} {mg : Str → Option Value} {base : Heap} {t : Adr}
theorem sc_law_told : FnScope ["web", "lengths", "found", "parted", "e"] ["web", "lengths"] (defScope s_law_told) := ⟨rfl, rfl, rfl, by decide +kernel, rfl, by decide +kernel, by decide +kernel⟩
theorem ok_law_told (T : Txt K mg t) : FnOk P w K mg base CX0 9 t.a_law_told t.d_law_told ["web", "lengths"] (sp_law_told K t.A_Web) := by
  refine T.f_law_told.ok sc_law_told (fun vs H Q E h => ?_) (fun cdv A outer s H vs Q E hr h => ?_)
  · obtain ⟨w, b, kd, n, ps, ls, rfl, _⟩ := h
    rfl
  · obtain ⟨w, b, kd, n, ps, ls, rfl, hW, hG, hS, hl, q1, q2⟩ := h
    refine ⟨_, (pss_cons (ps_set (i := 2) sc_law_told.nd rfl (Or.inl rfl) pe_non)
      (pss_cons (ps_set (i := 3) sc_law_told.nd rfl (Or.inl rfl) pe_bl)
      (pss_cons (ps_try (i := 4) rfl rfl rfl sc_law_told.nd rfl rfl T.c_WebError rfl (fun R _ => (pss_one (ps_set (i := 2) sc_law_told.nd rfl (Or.inl rfl) (pe_callX (ok_cheapest_tree T) (hr.mono (by decide)) rfl T.m_cheapest_tree T.f_cheapest_tree.kp T.b_cheapest_tree .nil pxT (pa_cons (pv 0) (pa_cons (pv 1) pa_nil)))))) (fun e C oe _ hoe => (pss_one (ps_set (i := 3) sc_law_told.nd rfl (Or.inl rfl) (pe_and (pe_callB (call_isiX K (List.mem_append_right _ (List.mem_singleton.mpr rfl)) hoe) (by rfl) T.n_isinstance Boot.«isinstance» (pa_cons (pv 4) (pa_cons (pe_glob (v := V.ref t.A_Parted) rfl T.c_Parted rfl) pa_nil))) (pe_and (pe_callB (call_isiX K (List.mem_append_right _ (List.mem_singleton.mpr rfl)) hoe) (by rfl) T.n_isinstance Boot.«isinstance» (pa_cons (pv 4) (pa_cons (pe_bltn (v := V.ty "ValueError") rfl T.n_ValueError Boot.«ValueError» rfl) pa_nil))) (pe_one (pe_not (pe_callB (call_isiX K (List.mem_append_right _ (List.mem_singleton.mpr rfl)) hoe) (by rfl) T.n_isinstance Boot.«isinstance» (pa_cons (pv 4) (pa_cons (pe_glob (v := V.ref t.A_BadRow) rfl T.c_BadRow rfl) pa_nil)))))))))))
      (pss_one (ps_ret (pe_tup (pa_cons (pv 3) (pa_cons (pv 2) pa_nil)))))))), ?_⟩
    have two : 2 ≤ sizeLine := by decide
    refine asgC ?_
    refine asgC ?_
    refine contS (fun σ H2 => ∃ (v : V) (p : Bool), σ = [some (.ref w), some (.ref b), some v, some (.bl p), none] ∧ Same H H2 ∧ ((p = true ∧ v = .non ∧ ∀ W, ¬ IsTree n (cwT n.toNat ps ls) W) ∨ (p = false ∧ ∃ (U : List Int) (r : Addr), v = .ref r ∧ H2 r = some (.tup (IL U)) ∧ IsTree n (cwT n.toNat ps ls) U ∧ ∀ W, IsTree n (cwT n.toNat ps ls) W → HT.lexLt W U = false))) ?_ ?_
    rotate_left
    · intro Kn hK
      refine ⟨_, rfl, _, rfl, w, b, kd, n, ps, ls, rfl, hW, hG, hS, hl, fun U rr H2 hU hm s2 hr2 => ?_, fun hno H2 s2 => ⟨_, rfl, T.em_Parted, fun e he => ?_⟩⟩
      · exact hK _ _ ⟨.ref rr, false, rfl, s2, .inr ⟨rfl, U, rr, rfl, hr2, hU, hm⟩⟩
      · refine ⟨_, rfl, _, _, _, rfl, fun z h => h, T.x_Parted, kit_same, _, rfl, iteT ?_⟩
        refine ⟨_, rfl, _, _, _, rfl, fun z h => h, T.x_Parted, T.ki_Parted_ValueError, _, rfl, iteT ?_⟩
        refine ⟨_, rfl, _, _, _, rfl, fun z h => h, T.x_Parted, T.ki_Parted_BadRow, _, rfl, ?_⟩
        exact hK _ _ ⟨.non, true, rfl, s2, .inl ⟨rfl, rfl, hno⟩⟩
    rintro σ H2 ⟨v, p, rfl, s2, h2⟩
    refine ⟨_, rfl, _, rfl, two, fun tt htt => ?_⟩
    have u3 := same_at (o := .tup [.bl p, v]) htt
    rcases h2 with ⟨rfl, rfl, hno⟩ | ⟨rfl, U, r, rfl, hr, hU, hm⟩
    · exact q2 hno tt _ (s2.trans u3) upd_same
    · exact q1 U tt r _ hU hm (s2.trans u3) upd_same (u3 _ _ hr)
end
end My
namespace My
open PySem L2 PyProof.Rows
set_option maxHeartbeats 4000000
def sp_law (K : PySem.W.Frag) : Sp := fun vs H Q _ => ∃ (a : Addr) (ns : List Int), vs = [.ref a] ∧ SqL K H a (IL ns) ∧ ns.length ≤ 63 ∧ ∀ H', Q (.bl true) H'
/-- a tree behind its length, as it lies -/
def RkV (H : Hp) (v : V) (x : Int × List Int) : Prop := ∃ a q, v = .ref a ∧ H a = some (.tup [.int x.1, .ref q]) ∧ H q = some (.tup (IL x.2))
theorem RkV.same {H H' : Hp} {v : V} {x : Int × List Int} (s : Same H H') (h : RkV H v x) : RkV H' v x := by
  obtain ⟨a, q, e, h1, h2⟩ := h
  exact ⟨a, q, e, s _ _ h1, s _ _ h2⟩
section
variable {P : Program} {w : World} {K : PySem.W.Frag} {mg : Str → Option Value} {base : Heap} {t : Adr}
theorem sc_law : FnScope ["script", "places", "ties", "web", "lengths", "ranks", "handed", "parted", "found"] ["script"] (defScope s_law) := ⟨rfl, rfl, rfl, by decide +kernel, rfl, by decide +kernel, by decide +kernel⟩
theorem ok_law (T : Txt K mg t) : FnOk P w K mg base CX0 12 t.a_law t.d_law ["script"] (sp_law K) := by
  refine T.f_law.ok sc_law (fun vs H Q E h => ?_) (fun cdv A outer s H vs Q E hr h => ?_)
  · obtain ⟨a, ns, rfl, _⟩ := h
    rfl
  · obtain ⟨a, ns, rfl, hS, hn63, k⟩ := h
    refine ⟨_, (pss_cons (ps_asg (pe_call (ok_law_web T) (hr.mono (by decide)) rfl T.m_law_web T.f_law_web.kp T.b_law_web .nil pass0 (pa_cons (pv 0) (pa_cons pe_int (pa_cons pe_int pa_nil)))) (pg_tupK (n := 2) K rfl (pgs_cons (pg_name (i := 1) sc_law.nd rfl (Or.inl rfl)) (pgs_cons (pg_name (i := 2) sc_law.nd rfl (Or.inl rfl)) pgs_nil))))
      (pss_cons (ps_set (i := 3) sc_law.nd rfl (Or.inl rfl) (pe_make T.k_Web (ok_Web___init T) (hr.mono (by decide)) rfl T.c_Web T.b_Web___init .nil pass0 (pa_cons (pv 1) (pa_cons (pe_callTy (call_listK K) (by rfl) T.n_list Boot.«list» (pa_cons (pv 2) pa_nil)) pa_nil))))
      (pss_cons (ps_set (i := 4) sc_law.nd rfl (Or.inr rfl) (pe_call (ok_law_lengths T) (hr.mono (by decide)) rfl T.m_law_lengths T.f_law_lengths.kp T.b_law_lengths .nil pass0 (pa_cons (pv 0) (pa_cons (pe_callB (call_lenK K) (by rfl) T.n_len Boot.«len» (pa_cons (pv 2) pa_nil)) pa_nil))))
      (pss_cons (ps_lc (i := 5) rfl sc_law.nd rfl rfl (sc0 := defScope s_law) (N0 := ["script", "places", "ties", "web", "lengths", "ranks", "handed", "parted", "found"]) (N' := ["tree", "lengths"]) (o := 1) (fr := [4]) ⟨rfl, by decide +kernel, by decide +kernel, by decide +kernel, rfl, by decide +kernel⟩ (pi_listK K (pe_call (ok_law_trees T) (hr.mono (by decide)) rfl T.m_law_trees T.f_law_trees.kp T.b_law_trees .nil pass0 (pa_cons (pv 1) (pa_cons (pv 2) pa_nil)))) (own_name (by decide)) (fun _ _ _ _ => (pg_name (i := 0) (show List.Nodup (["tree", "lengths"] : List Str) by decide +kernel) rfl (Or.inl rfl))) (fun _ _ _ _ => pts_nil) (fun _ _ _ _ => (pe_tup (pa_cons (pe_callB (call_sumK K rfl) (by rfl) T.n_sum Boot.«sum» (pa_cons (pe_lc rfl (sc0 := ({ kind := PySem.ScopeKind.function, names := [ (PySem.Str.ofString ".0", PySem.NameKind.local), (PySem.Str.ofString "tree", PySem.NameKind.local), (PySem.Str.ofString "sum", PySem.NameKind.globalImplicit), (PySem.Str.ofString "lengths", PySem.NameKind.cell)], isGenerator := false, isCoroutine := false, more := [] : PySem.Scope })) (N0 := ["tree", "lengths"]) (N' := ["tie", "lengths"]) (o := 1) (fr := [1]) ⟨rfl, by decide +kernel, by decide +kernel, by decide +kernel, rfl, by decide +kernel⟩ (pi_tupK K (pv 0)) (own_name (by decide)) (fun _ _ _ _ => (pg_name (i := 0) (show List.Nodup (["tie", "lengths"] : List Str) by decide +kernel) rfl (Or.inl rfl))) (fun _ _ _ _ => pts_nil) (fun _ _ _ _ => (pe_ix (ix_listK K) (pv 1) (pv 0) (fun _ _ => rfl)))) pa_nil)) (pa_cons (pv 0) pa_nil)))))
      (pss_cons (ps_set (i := 6) sc_law.nd rfl (Or.inl rfl) (pe_callTy (call_listK K) (by rfl) T.n_list Boot.«list» (pa_cons (pv 4) pa_nil)))
      (pss_cons (ps_asg (pe_call (ok_law_told T) (hr.mono (by decide)) rfl T.m_law_told T.f_law_told.kp T.b_law_told .nil pass0 (pa_cons (pv 3) (pa_cons (pv 6) pa_nil))) (pg_tupK (n := 2) K rfl (pgs_cons (pg_name (i := 7) sc_law.nd rfl (Or.inl rfl)) (pgs_cons (pg_name (i := 8) sc_law.nd rfl (Or.inl rfl)) pgs_nil))))
      (pss_cons (ps_if (pt_cmpR (op_neDK K (hu8 hr)) (pv 6) (pv 4) (nomark _))
      (pss_one (ps_ret pe_bl))
      pss_nil)
      (pss_cons (ps_if (pt_cmpR (op_eqDK K (hu8 hr)) (pv 5) (pe_lst pa_nil) (nomark _))
      (pss_one (ps_ret (pv 7)))
      pss_nil)
      (pss_cons (ps_if (PW.pt (pw_or (pt_val (pv 7)) (pw_or (pt_not (pt_val (pe_callB (call_isiK K (T := "tuple")) (by rfl) T.n_isinstance Boot.«isinstance» (pa_cons (pv 8) (pa_cons (pe_bltn (v := V.ty "tuple") rfl T.n_tuple Boot.«tuple» rfl) pa_nil))))) (pw_or1 (pt_cmpR (op_neDK K (hu8 hr)) (pv 8) (pe_ix (ix_tupK K) (pe_callB (call_minPT K rfl (hu8 hr)) (by rfl) T.n_min Boot.«min» (pa_cons (pv 5) pa_nil)) pe_int (fun _ _ => rfl)) (nomark _))))))
      (pss_one (ps_ret pe_bl))
      pss_nil)
      (pss_one (ps_ret (pe_cmpR (op_eqDK K (hu8 hr)) (pe_call (ok_cheapest_tree T) (hr.mono (by decide)) rfl T.m_cheapest_tree T.f_cheapest_tree.kp T.b_cheapest_tree .nil passN (pa_cons (pv 3) (pa_cons (pe_callTy (call_tupleK K) (by rfl) T.n_tuple Boot.«tuple» (pa_cons (pv 4) pa_nil)) pa_nil))) (pv 8) (nomark _))))))))))))), ?_⟩
    have two : 2 ≤ sizeLine := by decide
    refine ⟨_, rfl, a, ns, 6, 12, rfl, hS, hn63, by decide, by decide, by decide, by decide, fun r l n xs ps H1 s1 hr1 hl0 hl1 hP hG hnm hcc => ?_⟩
    refine ⟨r, _, rfl, SqT.of hr1, rfl, _, _, rfl, _, _, rfl, rfl, ?_⟩
    have hlx := hP.1
    obtain ⟨g1, g2, g3, g4⟩ := id hG
    -- web
    refine ⟨_, rfl, _, rfl, l, _, rfl, .inl (SqL.of hl1), fun lc hlc => ?_⟩
    have t0 := same_at (o := .lst xs) hlc
    have hlc2 : (upd H1 lc (.lst xs)) lc = some (.lst xs) := upd_same
    generalize upd H1 lc (.lst xs) = H2 at *
    intro x dx nx ndx nex
    have t1 : Same H2 (upd (upd H2 dx (.own x)) x (.ins t.A_Web dx [])) := same_new (same_at ndx) (by rw [upd_ne (Ne.symm nex)]; exact nx)
    refine ⟨x, dx, n, lc, false, xs, ps, rfl, upd_same, fun o => ?_, hP.same (t0.trans t1), hG, fun H3 hW k3 => ⟨rfl, ?_⟩⟩
    · exact SqL.of (by rw [upd_ne (ne_of_none hlc2 nx), upd_ne (ne_of_none hlc2 nx), upd_ne (ne_of_none hlc2 ndx)]; exact hlc2)
    have t03 : Same H1 H3 := t0.trans fun b o e => k3 b o (t1 b o e) (ne_of_none e nx)
    have hl3 := t03 _ _ hl1
    have hP3 := hP.same t03
    have hS3 := (s1.trans t03).seq hS
    -- lengths
    refine ⟨_, rfl, _, rfl, l, xs, rfl, .inl (SqL.of hl3), a, ns, xs.length, rfl, hS3, by omega, fun LA ls H4 s4 hL0 hL4 hLl => ?_⟩
    have hLp : ls.length = ps.length := by omega
    have hl4 := s4 _ _ hl3
    have hW4 := hW.same s4
    -- ranks
    refine ⟨_, rfl, _, rfl, n, l, xs, ps, rfl, SqL.of hl4, hP3.same s4, hG, by omega, by omega, fun TA ys L H5 s5 hT0 hT5 hTL hL3 hmem hasc => ?_⟩
    have hL5 := s5 _ _ hL4
    have hyl := hTL.1
    refine ⟨TA, rfl, ⟨_, SqL.of hT5⟩, lc_list (K := K) (a := TA) (xs := ys) (fun i zs H7 => Same H5 H7 ∧ i ≤ ys.length ∧ Bears (RkV H7) zs ((L.take i).map fun T => (sumL ls T, T))) ⟨Same.refl _, Nat.zero_le _, ⟨rfl, fun i l e => by simp at e⟩⟩ (small60' (by omega))
      (fun i zs H7 hi ⟨e, hi2, ey⟩ => ⟨SqL.of (e _ _ hT5), by rw [ey.1, List.length_map, List.length_take]; omega⟩) ?_ ?_⟩
    · rintro i v zs H7 hi ⟨s7, hil, hR⟩ S hSS
      obtain ⟨T, hTi, tt, rfl, htt⟩ := hTL.at hi
      have hil' : i < ys.length := (List.getElem?_eq_some_iff.mp hi).1
      have hT := (hmem T).mp (List.mem_of_getElem? hTi)
      have hms := isSet_iff.mp hT.1
      have htl := hT.1.len
      have htt7 := s7 _ _ htt
      have hL7 := s7 _ _ hL5
      refine nm ?_
      refine ⟨_, rfl, tt, rfl, ⟨_, SqT.of htt7⟩, lc_tup (K := K) (a := tt) (xs := IL T) (fun j ws H8 => H8 = H7 ∧ ws = IL ((T.take j).map (lnz ls)) ∧ j ≤ T.length) ⟨rfl, rfl, Nat.zero_le _⟩ (small60' (by rw [il_length]; omega)) (fun j ws H8 hj ⟨e, ew, hj2⟩ => ⟨e ▸ SqT.of htt7, by rw [ew, il_length, List.length_map, List.length_take]; omega⟩) ?_ ?_⟩
      · rintro j v ws H8 hj ⟨rfl, rfl, hjl⟩ S2 hSS2
        obtain ⟨z, rfl, hz⟩ := il_get hj
        obtain ⟨z0, z1⟩ := hms.1 z (List.mem_of_getElem? hz)
        obtain ⟨y, hy⟩ : ∃ y, ls[z.toNat]? = some y := ⟨_, List.getElem?_eq_getElem (by omega)⟩
        refine nm ?_
        refine ⟨_, rfl, _, rfl, LA, _, _, .int y, rfl, rfl, SqL.of hL7, atI_of (n := z.toNat) (by omega) (il_at hy), ?_⟩
        refine hSS2 _ _ ⟨rfl, ?_, (List.getElem?_eq_some_iff.mp hz).1⟩
        have e : lnz ls z = y := getD_of hy
        rw [List.take_succ, hz, List.map_append]
        show _ = IL (_ ++ [lnz ls z])
        rw [e]
        exact (il_snoc _ _).symm
      · rintro ws H8 ⟨rfl, rfl, _⟩ lA hlA
        rw [il_length, List.take_length]
        have u8 := same_at (o := .lst (IL (T.map (lnz ls)))) hlA
        refine ⟨lA, _, rfl, SqL.of upd_same, _, rfl, two, fun pa hpa => ?_⟩
        have u9 := same_at (o := .tup [.int (T.map (lnz ls)).sum, .ref tt]) hpa
        refine hSS _ _ ⟨s7.trans (u8.trans u9), hil', ?_⟩
        rw [List.take_succ, hTi, List.map_append]
        exact (hR.imp fun _ _ h => (h.same u8).same u9).snoc ⟨pa, tt, rfl, upd_same, u9 _ _ (u8 _ _ htt7)⟩
    rintro zs H7 ⟨s7, _, hR⟩ RA hRA
    rw [hyl, List.take_length] at hR
    have hzl := hR.1
    rw [List.length_map] at hzl
    have u8 := same_at (o := .lst zs) hRA
    have hR8 : Bears (RkV (upd H7 RA (.lst zs))) zs (L.map fun T => (sumL ls T, T)) := hR.imp fun _ _ h => h.same u8
    have k8 : (upd H7 RA (.lst zs)) RA = some (.lst zs) := upd_same
    have s48 := s5.trans (s7.trans u8)
    generalize upd H7 RA (.lst zs) = H8 at *
    clear hR
    refine nm ?_
    dsimp only
    -- handed
    refine ⟨_, rfl, LA, _, rfl, .inl (SqL.of (s48 _ _ hL4)), fun hA hhA => ?_⟩
    have u9 := same_at (o := .lst (IL ls)) hhA
    have k9 := upd_same (H := H8) (a := hA) (o := .lst (IL ls))
    have s49 := s48.trans u9
    have hR9 : Bears (RkV (upd H8 hA (.lst (IL ls)))) zs (L.map fun T => (sumL ls T, T)) := hR8.imp fun _ _ h => h.same u9
    have kR9 := u9 _ _ k8
    generalize upd H8 hA (.lst (IL ls)) = H9 at *
    clear hR8
    refine nm ?_
    dsimp only
    -- told
    refine contS (fun σ H10 => ∃ (p : Bool) (fv : V), σ = [some (.ref a), some (.int n), some (.ref l), some (.ref x), some (.ref LA), some (.ref RA), some (.ref hA), some (.bl p), some fv] ∧ Same H9 H10 ∧ ((p = true ∧ fv = .non ∧ ∀ W, ¬ IsTree n (cwT n.toNat ps ls) W) ∨ (p = false ∧ ∃ (U : List Int) (r : Addr), fv = .ref r ∧ H10 r = some (.tup (IL U)) ∧ IsTree n (cwT n.toNat ps ls) U ∧ ∀ W, IsTree n (cwT n.toNat ps ls) W → HT.lexLt W U = false))) ?_ ?_
    rotate_left
    · intro Kn hK
      refine ⟨_, rfl, _, rfl, x, hA, false, n, ps, ls, rfl, hW4.same s49, hG, SqL.of k9, hLp, fun U tt r H10 hU hm s10 htt hr => ?_, fun hno tt H10 s10 htt => ?_⟩
      · exact ⟨tt, _, rfl, SqT.of htt, rfl, _, _, rfl, _, _, rfl, rfl, hK _ _ ⟨false, .ref r, rfl, s10, .inr ⟨rfl, U, r, rfl, hr, hU, hm⟩⟩⟩
      · exact ⟨tt, _, rfl, SqT.of htt, rfl, _, _, rfl, _, _, rfl, rfl, hK _ _ ⟨true, .non, rfl, s10, .inl ⟨rfl, rfl, hno⟩⟩⟩
    rintro σ H10 ⟨p, fv, rfl, s10, hcase⟩
    have s410 := s49.trans s10
    have hL10 := s410 _ _ hL4
    have hR10 : Bears (RkV H10) zs (L.map fun T => (sumL ls T, T)) := hR9.imp fun _ _ h => h.same s10
    have kR10 := s10 _ _ kR9
    -- handed as it was
    refine ⟨_, rfl, _, rfl, 1, _, hA, LA, rfl, rfl, by decide, eqd_ints (SqL.of (s10 _ _ k9)) (SqL.of hL10), _, rfl, ?_⟩
    refine itn rfl ?_
    show (_ : Prop)
    refine nx_mk ?_
    -- ranks == []
    refine ⟨_, rfl, Nat.zero_le _, fun e1 he1 => ?_⟩
    have u11 := same_at (o := .lst []) he1
    by_cases hL0 : L = []
    · subst hL0
      obtain rfl : zs = [] := List.length_eq_zero_iff.mp hzl
      have eq0 : EqD K (upd H10 e1 (.lst [])) 1 (.ref RA) (.ref e1) true := EqD.lsts (e := fun _ => true) (xs := []) (ys := []) (SqL.of (u11 _ _ kR10)) (SqL.of upd_same) rfl fun i x y h => by simp at h
      refine ⟨1, _, RA, e1, rfl, rfl, by decide, eq0, _, rfl, ?_⟩
      refine iteT ?_
      refine ⟨_, rfl, ?_⟩
      rcases hcase with ⟨rfl, _, _⟩ | ⟨_, U, r, _, _, hU, _⟩
      · exact k _
      · exact absurd ((hmem U).mpr ((cw_min hG hLp).mp hU).1) (by simp)
    · have hz0 : zs.length ≠ ([] : List V).length := fun z => hL0 (List.length_eq_zero_iff.mp (by rw [← hzl]; exact z))
      refine ⟨1, _, RA, e1, rfl, rfl, by decide, EqD.lens (n := 0) (SqL.of (u11 _ _ kR10)) (SqL.of upd_same) hz0, _, rfl, ?_⟩
      refine iteF ?_
      show (_ : Prop)
      refine nx_mk ?_
      have s411 := s410.trans u11
      have hR11 : Bears (RkV (upd H10 e1 (.lst []))) zs (L.map fun T => (sumL ls T, T)) := hR10.imp fun _ _ h => h.same u11
      have kR11 := u11 _ _ kR10
      have someT : ∃ W, IsTree n ps W := by
        cases L with
        | nil => exact absurd rfl hL0
        | cons m L => exact ⟨m, (hmem m).mp List.mem_cons_self⟩
      rcases hcase with ⟨_, _, hno⟩ | ⟨rfl, U, r, rfl, hr, hU, hm⟩
      · obtain ⟨W, hW'⟩ := (cw_some hG hLp).mp someT
        exact absurd hW' (hno W)
      have hr11 := u11 _ _ hr
      generalize upd H10 e1 (.lst []) = H11 at *
      refine ⟨_, rfl, _, rfl, ?_⟩
      refine iteF ?_
      refine ⟨_, rfl, _, _, _, rfl, TyOf.tup hr11, kit_same, _, rfl, ?_⟩
      refine iteF ?_
      -- the least
      refine ⟨_, rfl, _, rfl, RA, zs, L.map (fun T => (sumL ls T, T)), true, rfl, SqL.of kR11, Nat.pos_of_ne_zero hz0, hR11.1, fun i rk e => ?_, fun h => (by cases h), fun i a2 rk e1' e2' hleast => ?_⟩
      · obtain ⟨v, ev, a3, q3, rfl, h1, h2⟩ := hR11.2 i rk e
        exact ⟨a3, q3, [], ev, SqT.of h1, SqT.of h2, fun _ => rfl⟩
      obtain ⟨v, ev, a3, q3, rfl, h1, h2⟩ := hR11.2 i rk e1'
      rw [e2'] at ev
      cases ev
      have hx : rk.1 = sumL ls rk.2 ∧ rk.2 ∈ L := by
        obtain ⟨T, hT, rfl⟩ := List.mem_map.mp (List.mem_of_getElem? e1')
        exact ⟨rfl, hT⟩
      have hxt := (hmem rk.2).mp hx.2
      have inR : ∀ W, IsTree n ps W → (sumL ls W, W) ∈ L.map (fun T => (sumL ls T, T)) := fun W hW' => List.mem_map.mpr ⟨W, (hmem W).mpr hW', rfl⟩
      have hxc : IsTree n (cwT n.toNat ps ls) rk.2 := (cw_min hG hLp).mpr ⟨hxt, fun W hW' => by
        have := hleast _ (inR W hW')
        rcases (by omega : sumL ls W < sumL ls rk.2 ∨ sumL ls rk.2 ≤ sumL ls W) with c | c
        · rw [HT.ltP_iff.mpr (.inl (by rw [hx.1]; exact c))] at this
          cases this
        · exact c⟩
      have hUx : U = rk.2 := by
        obtain ⟨hU1, hU2⟩ := (cw_min hG hLp).mp hU
        obtain ⟨_, hx2⟩ := (cw_min hG hLp).mp hxc
        have se : sumL ls U = sumL ls rk.2 := Int.le_antisymm (hU2 _ hxt) (hx2 _ hU1)
        refine lex_eq ?_ (hm _ hxc)
        have := hleast _ (inR U hU1)
        cases hc : HT.lexLt U rk.2 with
        | false => rfl
        | true =>
          rw [HT.ltP_iff.mpr (.inr ⟨by rw [hx.1]; exact se, hc⟩)] at this
          cases this
      refine ⟨a2, _, 1, .ref q3, rfl, rfl, SqT.of h1, rfl, 1, _, r, q3, rfl, rfl, by decide, eqd_tints (SqT.of hr11) (SqT.of h2), _, rfl, ?_⟩
      refine itn hUx ?_
      show (_ : Prop)
      refine nx_mk ?_
      -- of a tuple
      refine ⟨_, rfl, _, rfl, LA, _, rfl, .inl ⟨SqL.of (s411 _ _ hL4), fun tp htp => ?_⟩⟩
      have u12 := same_at (o := .tup (IL ls)) htp
      refine ⟨x, tp, true, n, ps, ls, rfl, (hW4.same s411).same u12, hG, SqT.of upd_same, hLp, fun U2 r2 H13 hU2 hm2 s13 hr2 => ?_, fun hno => absurd hU (hno U)⟩
      refine ⟨_, rfl, 1, _, r2, r, rfl, rfl, by decide, eqd_tints (SqT.of hr2) (SqT.of (s13 _ _ (u12 _ _ hr11))), ?_⟩
      have e : decide (U2 = U) = true := decide_eq_true (lex_eq (hm _ hU2) (hm2 _ hU))
      rw [e]
      exact k _
end
end My
namespace My
open PySem L2
theorem law_binds {K : PySem.W.Frag} {f : Addr} {fd : FuncData} (F : Fun K "law" "law" s_law f fd) (s : Shared) (u : Value) : BindsTo s fd ⟨[u], []⟩ [("script", u)] := by
  obtain ⟨oc, od, kV, doc, pm, an, cdv, ct, osl, rfl, lk, hcd⟩ := F.ex
  exact .of_eq rfl
end My
open PySem PySem.W PyProof.Rows
set_option maxRecDepth 100000 in
set_option maxHeartbeats 0 in
theorem PySem.Challenge.cw_spanrow_k61_cheapest_by_trial_holds : PySem.Challenge.rw_spanrow_k61_cheapest_by_trial.Holds := by
  w_on; o_law; k_head; (case hw => w_witness2)
  k_fill
  refine L2.walk_ofK (l := PySem.Challenge.rw_spanrow_k61_cheapest_by_trial) (n := 63) (k := 12) (x := "script") (CX := L2.CX0) (sp := My.sp_law) rfl (by decide) rfl ⟨rfl, by decide, by decide⟩ (fun w h Y => PySem.W.kIn_of Y) ?F (fun _ H a ns hl _ hS => ⟨a, ns, rfl, hS, hl, fun _ => rfl⟩) (fun _ _ _ _ z => z)
  case F =>
    intro w mg fa h KX G hmg
    have h_is_tie : My.FX (L2.KOf KX) mg "is_tie" "is_tie" My.s_is_tie := by
      dsimp only [L2.KOf]
      refine' My.fx_mk KX G ?a ?l ?c ?k
      (case a => k_is); (case l => k_is); (case c => k_is); (case k => k_is)
    have h_refuse_bad_web : My.FX (L2.KOf KX) mg "refuse_bad_web" "refuse_bad_web" My.s_refuse_bad_web := by
      dsimp only [L2.KOf]
      refine' My.fx_mk KX G ?a ?l ?c ?k
      (case a => k_is); (case l => k_is); (case c => k_is); (case k => k_is)
    have h_refuse_bad_row : My.FX (L2.KOf KX) mg "refuse_bad_row" "refuse_bad_row" My.s_refuse_bad_row := by
      dsimp only [L2.KOf]
      refine' My.fx_mk KX G ?a ?l ?c ?k
      (case a => k_is); (case l => k_is); (case c => k_is); (case k => k_is)
    have h_all_ties : My.FX (L2.KOf KX) mg "all_ties" "all_ties" My.s_all_ties := by
      dsimp only [L2.KOf]
      refine' My.fx_mk KX G ?a ?l ?c ?k
      (case a => k_is); (case l => k_is); (case c => k_is); (case k => k_is)
    have h_is_set : My.FX (L2.KOf KX) mg "is_set" "is_set" My.s_is_set := by
      dsimp only [L2.KOf]
      refine' My.fx_mk KX G ?a ?l ?c ?k
      (case a => k_is); (case l => k_is); (case c => k_is); (case k => k_is)
    have h_made_set : My.FX (L2.KOf KX) mg "made_set" "made_set" My.s_made_set := by
      dsimp only [L2.KOf]
      refine' My.fx_mk KX G ?a ?l ?c ?k
      (case a => k_is); (case l => k_is); (case c => k_is); (case k => k_is)
    have h_merged_marks : My.FX (L2.KOf KX) mg "merged_marks" "merged_marks" My.s_merged_marks := by
      dsimp only [L2.KOf]
      refine' My.fx_mk KX G ?a ?l ?c ?k
      (case a => k_is); (case l => k_is); (case c => k_is); (case k => k_is)
    have h_piece_marks : My.FX (L2.KOf KX) mg "piece_marks" "piece_marks" My.s_piece_marks := by
      dsimp only [L2.KOf]
      refine' My.fx_mk KX G ?a ?l ?c ?k
      (case a => k_is); (case l => k_is); (case c => k_is); (case k => k_is)
    have h_pieces_of : My.FX (L2.KOf KX) mg "pieces_of" "pieces_of" My.s_pieces_of := by
      dsimp only [L2.KOf]
      refine' My.fx_mk KX G ?a ?l ?c ?k
      (case a => k_is); (case l => k_is); (case c => k_is); (case k => k_is)
    have h_is_joined : My.FX (L2.KOf KX) mg "is_joined" "is_joined" My.s_is_joined := by
      dsimp only [L2.KOf]
      refine' My.fx_mk KX G ?a ?l ?c ?k
      (case a => k_is); (case l => k_is); (case c => k_is); (case k => k_is)
    have h_refuse_parted : My.FX (L2.KOf KX) mg "refuse_parted" "refuse_parted" My.s_refuse_parted := by
      dsimp only [L2.KOf]
      refine' My.fx_mk KX G ?a ?l ?c ?k
      (case a => k_is); (case l => k_is); (case c => k_is); (case k => k_is)
    have h_grown_tree : My.FX (L2.KOf KX) mg "grown_tree" "grown_tree" My.s_grown_tree := by
      dsimp only [L2.KOf]
      refine' My.fx_mk KX G ?a ?l ?c ?k
      (case a => k_is); (case l => k_is); (case c => k_is); (case k => k_is)
    have h_least_tree : My.FX (L2.KOf KX) mg "least_tree" "least_tree" My.s_least_tree := by
      dsimp only [L2.KOf]
      refine' My.fx_mk KX G ?a ?l ?c ?k
      (case a => k_is); (case l => k_is); (case c => k_is); (case k => k_is)
    have h_cheapest_web : My.FX (L2.KOf KX) mg "cheapest_web" "cheapest_web" My.s_cheapest_web := by
      dsimp only [L2.KOf]
      refine' My.fx_mk KX G ?a ?l ?c ?k
      (case a => k_is); (case l => k_is); (case c => k_is); (case k => k_is)
    have h_cheapest_tree : My.FX (L2.KOf KX) mg "cheapest_tree" "cheapest_tree" My.s_cheapest_tree := by
      dsimp only [L2.KOf]
      refine' My.fx_mk KX G ?a ?l ?c ?k
      (case a => k_is); (case l => k_is); (case c => k_is); (case k => k_is)
    have h_law_at : My.FX (L2.KOf KX) mg "_law_at" "_law_at" My.s_law_at := by
      dsimp only [L2.KOf]
      refine' My.fx_mk KX G ?a ?l ?c ?k
      (case a => k_is); (case l => k_is); (case c => k_is); (case k => k_is)
    have h_law_stir : My.FX (L2.KOf KX) mg "_law_stir" "_law_stir" My.s_law_stir := by
      dsimp only [L2.KOf]
      refine' My.fx_mk KX G ?a ?l ?c ?k
      (case a => k_is); (case l => k_is); (case c => k_is); (case k => k_is)
    have h_law_numbers : My.FX (L2.KOf KX) mg "_law_numbers" "_law_numbers" My.s_law_numbers := by
      dsimp only [L2.KOf]
      refine' My.fx_mk KX G ?a ?l ?c ?k
      (case a => k_is); (case l => k_is); (case c => k_is); (case k => k_is)
    have h_law_digits : My.FX (L2.KOf KX) mg "_law_digits" "_law_digits" My.s_law_digits := by
      dsimp only [L2.KOf]
      refine' My.fx_mk KX G ?a ?l ?c ?k
      (case a => k_is); (case l => k_is); (case c => k_is); (case k => k_is)
    have h_law_web : My.FX (L2.KOf KX) mg "_law_web" "_law_web" My.s_law_web := by
      dsimp only [L2.KOf]
      refine' My.fx_mk KX G ?a ?l ?c ?k
      (case a => k_is); (case l => k_is); (case c => k_is); (case k => k_is)
    have h_law_trees : My.FX (L2.KOf KX) mg "_law_trees" "_law_trees" My.s_law_trees := by
      dsimp only [L2.KOf]
      refine' My.fx_mk KX G ?a ?l ?c ?k
      (case a => k_is); (case l => k_is); (case c => k_is); (case k => k_is)
    have h_law_lengths : My.FX (L2.KOf KX) mg "_law_lengths" "_law_lengths" My.s_law_lengths := by
      dsimp only [L2.KOf]
      refine' My.fx_mk KX G ?a ?l ?c ?k
      (case a => k_is); (case l => k_is); (case c => k_is); (case k => k_is)
    have h_law_told : My.FX (L2.KOf KX) mg "_law_told" "_law_told" My.s_law_told := by
      dsimp only [L2.KOf]
      refine' My.fx_mk KX G ?a ?l ?c ?k
      (case a => k_is); (case l => k_is); (case c => k_is); (case k => k_is)
    have h_law : My.FX (L2.KOf KX) mg "law" "law" My.s_law := by
      dsimp only [L2.KOf]
      refine' My.fx_mk KX G ?a ?l ?c ?k
      (case a => k_is); (case l => k_is); (case c => k_is); (case k => k_is)
    have h_Web : My.CXF (L2.KOf KX) mg "Web" "Web.__init__" My.s_Web___init ["places", "ties"] := by
      dsimp only [L2.KOf]
      refine' My.cx_mk KX G ?aC ?a ?i ?l ?c ?k ?pg ?hd ?po ?sa ?mk ?kc ?na
      (case aC => k_is); (case a => k_is); (case i => k_is); (case l => k_is); (case c => k_is); (case k => k_is)
      (case pg => k_is); (case hd => k_is); (case po => k_is); (case sa => k_is); (case mk => k_is); (case kc => k_is)
      (case na => (intro f hf; simp only [List.mem_cons, List.not_mem_nil, or_false] at hf; rcases hf with rfl | rfl <;> k_is))
    have hX : ∃ A_WebError A_Parted A_BadRow : Addr, mg "WebError" = some (.ref A_WebError) ∧ mg "Parted" = some (.ref A_Parted) ∧ mg "BadRow" = some (.ref A_BadRow) ∧ L2.XCls (L2.KOf KX) (A_Parted) ∧ L2.XCls (L2.KOf KX) (A_BadRow) ∧ PySem.W.kitOne (L2.KOf KX) (.ref (A_Parted)) (.type "ValueError") = some true ∧ PySem.W.kitOne (L2.KOf KX) (.ref (A_Parted)) (.ref (A_BadRow)) = some false ∧ PySem.W.exmOne (L2.KOf KX) (.ref (A_Parted)) (.ref (A_WebError)) = some true ∧ PySem.W.kitOne (L2.KOf KX) (.ref (A_BadRow)) (.ref (A_Parted)) = some false ∧ PySem.W.kitOne (L2.KOf KX) (.ref (A_BadRow)) (.type "ValueError") = some true ∧ PySem.W.exmOne (L2.KOf KX) (.ref (A_BadRow)) (.ref (A_WebError)) = some true := by
      dsimp only [L2.KOf]
      refine' My.xI (My.xI (My.xI (⟨PySem.W.mg_of KX G ?m_WebError, PySem.W.mg_of KX G ?m_Parted, PySem.W.mg_of KX G ?m_BadRow, ⟨?x_Parted_ex, ?x_Parted_ga, ?x_Parted_gh, ?x_Parted_cl, ?x_Parted_ob, ?x_Parted_bx⟩, ⟨?x_BadRow_ex, ?x_BadRow_ga, ?x_BadRow_gh, ?x_BadRow_cl, ?x_BadRow_ob, ?x_BadRow_bx⟩, ?ki_Parted_ValueError, ?ki_Parted_BadRow, ?em_Parted, ?ki_BadRow_Parted, ?ki_BadRow_ValueError, ?em_BadRow⟩)))
      (case m_WebError => k_is)
      (case m_Parted => k_is)
      (case m_BadRow => k_is)
      (case x_Parted_ex => k_exc); (case x_Parted_ga => k_is); (case x_Parted_gh => k_is); (case x_Parted_cl => k_is); (case x_Parted_ob => k_is); (case x_Parted_bx => k_is)
      (case x_BadRow_ex => k_exc); (case x_BadRow_ga => k_is); (case x_BadRow_gh => k_is); (case x_BadRow_cl => k_is); (case x_BadRow_ob => k_is); (case x_BadRow_bx => k_is)
      (case ki_Parted_ValueError => kit_is)
      (case ki_Parted_BadRow => kit_is)
      (case em_Parted => kts_exm)
      (case ki_BadRow_Parted => kit_is)
      (case ki_BadRow_ValueError => kit_is)
      (case em_BadRow => kts_exm)
    have h_MOST_PLACES : ∃ tk, mg "MOST_PLACES" = some (.int 14 tk) := by
      refine' My.const_mk KX G ?a ?b
      (case a => k_is); (case b => exact ⟨_, rfl⟩)
    have h_MOST_TIES : ∃ tk, mg "MOST_TIES" = some (.int 30 tk) := by
      refine' My.const_mk KX G ?a ?b
      (case a => k_is); (case b => exact ⟨_, rfl⟩)
    have h_ValueError : mg "ValueError" = none := by
      refine' PySem.W.mg_none_of KX G ?a
      (case a => k_is)
    have h_enumerate : mg "enumerate" = none := by
      refine' PySem.W.mg_none_of KX G ?a
      (case a => k_is)
    have h_isinstance : mg "isinstance" = none := by
      refine' PySem.W.mg_none_of KX G ?a
      (case a => k_is)
    have h_len : mg "len" = none := by
      refine' PySem.W.mg_none_of KX G ?a
      (case a => k_is)
    have h_list : mg "list" = none := by
      refine' PySem.W.mg_none_of KX G ?a
      (case a => k_is)
    have h_max : mg "max" = none := by
      refine' PySem.W.mg_none_of KX G ?a
      (case a => k_is)
    have h_min : mg "min" = none := by
      refine' PySem.W.mg_none_of KX G ?a
      (case a => k_is)
    have h_range : mg "range" = none := by
      refine' PySem.W.mg_none_of KX G ?a
      (case a => k_is)
    have h_set : mg "set" = none := by
      refine' PySem.W.mg_none_of KX G ?a
      (case a => k_is)
    have h_sorted : mg "sorted" = none := by
      refine' PySem.W.mg_none_of KX G ?a
      (case a => k_is)
    have h_sum : mg "sum" = none := by
      refine' PySem.W.mg_none_of KX G ?a
      (case a => k_is)
    have h_tuple : mg "tuple" = none := by
      refine' PySem.W.mg_none_of KX G ?a
      (case a => k_is)
    have h_zip : mg "zip" = none := by
      refine' PySem.W.mg_none_of KX G ?a
      (case a => k_is)
    obtain ⟨a_is_tie, d_is_tie, m_is_tie, f_is_tie⟩ := h_is_tie
    obtain ⟨a_refuse_bad_web, d_refuse_bad_web, m_refuse_bad_web, f_refuse_bad_web⟩ := h_refuse_bad_web
    obtain ⟨a_refuse_bad_row, d_refuse_bad_row, m_refuse_bad_row, f_refuse_bad_row⟩ := h_refuse_bad_row
    obtain ⟨a_all_ties, d_all_ties, m_all_ties, f_all_ties⟩ := h_all_ties
    obtain ⟨a_is_set, d_is_set, m_is_set, f_is_set⟩ := h_is_set
    obtain ⟨a_made_set, d_made_set, m_made_set, f_made_set⟩ := h_made_set
    obtain ⟨a_merged_marks, d_merged_marks, m_merged_marks, f_merged_marks⟩ := h_merged_marks
    obtain ⟨a_piece_marks, d_piece_marks, m_piece_marks, f_piece_marks⟩ := h_piece_marks
    obtain ⟨a_pieces_of, d_pieces_of, m_pieces_of, f_pieces_of⟩ := h_pieces_of
    obtain ⟨a_is_joined, d_is_joined, m_is_joined, f_is_joined⟩ := h_is_joined
    obtain ⟨a_refuse_parted, d_refuse_parted, m_refuse_parted, f_refuse_parted⟩ := h_refuse_parted
    obtain ⟨a_grown_tree, d_grown_tree, m_grown_tree, f_grown_tree⟩ := h_grown_tree
    obtain ⟨a_least_tree, d_least_tree, m_least_tree, f_least_tree⟩ := h_least_tree
    obtain ⟨a_cheapest_web, d_cheapest_web, m_cheapest_web, f_cheapest_web⟩ := h_cheapest_web
    obtain ⟨a_cheapest_tree, d_cheapest_tree, m_cheapest_tree, f_cheapest_tree⟩ := h_cheapest_tree
    obtain ⟨a_law_at, d_law_at, m_law_at, f_law_at⟩ := h_law_at
    obtain ⟨a_law_stir, d_law_stir, m_law_stir, f_law_stir⟩ := h_law_stir
    obtain ⟨a_law_numbers, d_law_numbers, m_law_numbers, f_law_numbers⟩ := h_law_numbers
    obtain ⟨a_law_digits, d_law_digits, m_law_digits, f_law_digits⟩ := h_law_digits
    obtain ⟨a_law_web, d_law_web, m_law_web, f_law_web⟩ := h_law_web
    obtain ⟨a_law_trees, d_law_trees, m_law_trees, f_law_trees⟩ := h_law_trees
    obtain ⟨a_law_lengths, d_law_lengths, m_law_lengths, f_law_lengths⟩ := h_law_lengths
    obtain ⟨a_law_told, d_law_told, m_law_told, f_law_told⟩ := h_law_told
    obtain ⟨a_law, d_law, m_law, f_law⟩ := h_law
    obtain ⟨A_Web, a_Web___init, d_Web___init, c_Web, f_Web___init, cl_Web, k_Web, na_Web⟩ := h_Web
    obtain ⟨A_WebError, A_Parted, A_BadRow, c_WebError, c_Parted, c_BadRow, x_Parted, x_BadRow, ki_Parted_ValueError, ki_Parted_BadRow, em_Parted, ki_BadRow_Parted, ki_BadRow_ValueError, em_BadRow⟩ := hX
    have T : My.Txt (L2.KOf KX) mg ⟨a_is_tie, d_is_tie, a_refuse_bad_web, d_refuse_bad_web, a_Web___init, d_Web___init, a_refuse_bad_row, d_refuse_bad_row, a_all_ties, d_all_ties, a_is_set, d_is_set, a_made_set, d_made_set, a_merged_marks, d_merged_marks, a_piece_marks, d_piece_marks, a_pieces_of, d_pieces_of, a_is_joined, d_is_joined, a_refuse_parted, d_refuse_parted, a_grown_tree, d_grown_tree, a_least_tree, d_least_tree, a_cheapest_web, d_cheapest_web, a_cheapest_tree, d_cheapest_tree, a_law_at, d_law_at, a_law_stir, d_law_stir, a_law_numbers, d_law_numbers, a_law_digits, d_law_digits, a_law_web, d_law_web, a_law_trees, d_law_trees, a_law_lengths, d_law_lengths, a_law_told, d_law_told, a_law, d_law, A_Web, A_WebError, A_Parted, A_BadRow⟩ := ⟨f_is_tie, f_is_tie.binds (fun _ _ _ _ _ _ us hl => by obtain ⟨_, _, rfl⟩ := My.len2 hl; rfl), m_is_tie, f_refuse_bad_web, f_refuse_bad_web.binds (fun _ _ _ _ _ _ us hl => by obtain ⟨_, _, rfl⟩ := My.len2 hl; rfl), m_refuse_bad_web, f_Web___init, f_Web___init.binds (fun _ _ _ _ _ _ us hl => by obtain ⟨_, _, _, rfl⟩ := My.len3 hl; rfl), f_refuse_bad_row, f_refuse_bad_row.binds (fun _ _ _ _ _ _ us hl => by obtain ⟨_, _, rfl⟩ := My.len2 hl; rfl), m_refuse_bad_row, f_all_ties, f_all_ties.binds (fun _ _ _ _ _ _ us hl => by obtain ⟨_, rfl⟩ := My.len1 hl; rfl), m_all_ties, f_is_set, f_is_set.binds (fun _ _ _ _ _ _ us hl => by obtain ⟨_, _, rfl⟩ := My.len2 hl; rfl), m_is_set, f_made_set, f_made_set.binds (fun _ _ _ _ _ _ us hl => by obtain ⟨_, _, rfl⟩ := My.len2 hl; rfl), m_made_set, f_merged_marks, f_merged_marks.binds (fun _ _ _ _ _ _ us hl => by obtain ⟨_, _, _, rfl⟩ := My.len3 hl; rfl), m_merged_marks, f_piece_marks, f_piece_marks.binds (fun _ _ _ _ _ _ us hl => by obtain ⟨_, _, rfl⟩ := My.len2 hl; rfl), m_piece_marks, f_pieces_of, f_pieces_of.binds (fun _ _ _ _ _ _ us hl => by obtain ⟨_, _, rfl⟩ := My.len2 hl; rfl), m_pieces_of, f_is_joined, f_is_joined.binds (fun _ _ _ _ _ _ us hl => by obtain ⟨_, _, rfl⟩ := My.len2 hl; rfl), m_is_joined, f_refuse_parted, f_refuse_parted.binds (fun _ _ _ _ _ _ us hl => by obtain ⟨_, rfl⟩ := My.len1 hl; rfl), m_refuse_parted, f_grown_tree, f_grown_tree.binds (fun _ _ _ _ _ _ us hl => by obtain ⟨_, _, _, rfl⟩ := My.len3 hl; rfl), m_grown_tree, f_least_tree, f_least_tree.binds (fun _ _ _ _ _ _ us hl => by obtain ⟨_, rfl⟩ := My.len1 hl; rfl), m_least_tree, f_cheapest_web, f_cheapest_web.binds (fun _ _ _ _ _ _ us hl => by obtain ⟨_, _, rfl⟩ := My.len2 hl; rfl), m_cheapest_web, f_cheapest_tree, f_cheapest_tree.binds (fun _ _ _ _ _ _ us hl => by obtain ⟨_, _, rfl⟩ := My.len2 hl; rfl), m_cheapest_tree, f_law_at, f_law_at.binds (fun _ _ _ _ _ _ us hl => by obtain ⟨_, _, rfl⟩ := My.len2 hl; rfl), m_law_at, f_law_stir, f_law_stir.binds (fun _ _ _ _ _ _ us hl => by obtain ⟨_, _, rfl⟩ := My.len2 hl; rfl), m_law_stir, f_law_numbers, f_law_numbers.binds (fun _ _ _ _ _ _ us hl => by obtain ⟨_, _, _, rfl⟩ := My.len3 hl; rfl), m_law_numbers, f_law_digits, f_law_digits.binds (fun _ _ _ _ _ _ us hl => by obtain ⟨_, _, _, rfl⟩ := My.len3 hl; rfl), m_law_digits, f_law_web, f_law_web.binds (fun _ _ _ _ _ _ us hl => by obtain ⟨_, _, _, rfl⟩ := My.len3 hl; rfl), m_law_web, f_law_trees, f_law_trees.binds (fun _ _ _ _ _ _ us hl => by obtain ⟨_, _, rfl⟩ := My.len2 hl; rfl), m_law_trees, f_law_lengths, f_law_lengths.binds (fun _ _ _ _ _ _ us hl => by obtain ⟨_, _, rfl⟩ := My.len2 hl; rfl), m_law_lengths, f_law_told, f_law_told.binds (fun _ _ _ _ _ _ us hl => by obtain ⟨_, _, rfl⟩ := My.len2 hl; rfl), m_law_told, f_law, f_law.binds (fun _ _ _ _ _ _ us hl => by obtain ⟨_, rfl⟩ := My.len1 hl; rfl), m_law, c_Web, cl_Web, k_Web, na_Web _ (by simp), na_Web _ (by simp), c_WebError, c_Parted, c_BadRow, x_Parted, x_BadRow, ki_Parted_ValueError, ki_Parted_BadRow, em_Parted, ki_BadRow_Parted, ki_BadRow_ValueError, em_BadRow, h_MOST_PLACES, h_MOST_TIES, h_ValueError, h_enumerate, h_isinstance, h_len, h_list, h_max, h_min, h_range, h_set, h_sorted, h_sum, h_tuple, h_zip⟩
    have e0 := hmg.symm.trans m_law
    cases e0
    exact ⟨d_law, fun s u => My.law_binds f_law s u, fun base _ _ => My.ok_law T⟩
#print axioms PySem.Challenge.cw_spanrow_k61_cheapest_by_trial_holds
