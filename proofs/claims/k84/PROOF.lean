import PyProof.Rows.All
import Wide.All
import OpenK.AllK
import Wide.FinOn
import Lean
import PyProof.EqAt
import PyProof.EqKinds
import PyProof.TupleCall
import PySem.Challenge.RW_spanrow_k84_texts_of_no_web
set_option Elab.async false
set_option linter.all false
set_option maxRecDepth 100000
namespace PySem.W.Fast
def tw3574676629211037647:=0
def tw6822774356011402223:=0
def tw10730659757164809866:=0
def tw3978413033613028130:=0
def tw4562264408998032533:=0
def tw7518694159587804238:=0
def tw1777144049107549990:=0
def tw13659409886983081397:=0
def tw2676510984641007813:=0
def tw9648034450941021525:=0
def tw16568384604802560456:=0
def tw6610952341250674087:=0
def tw1898920640781814646:=0
def tw12051672622991673056:=0
def tw15494422702301233924:=0
def tw16387044355043997295:=0
def tw15422042560013441764:=0
def tw13234885786588366814:=0
def tw15238540350703044691:=0
def tw17480503890592069096:=0
def tw16575259803480352609:=0
def tw13930486305489582864:=0
def tw16263143260890655074:=0
def tw9851658558095529835:=0
def tw16699610217519914714:=0
def tw17682046327404555037:=0
def tw15441708606310479580:=0
def tw6943383570649486388:=0
def tw8282173702965638304:=0
def tw7750150434270905986:=0
def tw2376704204730885786:=0
def tw3617557142863222976:=0
def tw9407150854351646974:=0
def tw11307427387335153364:=0
def tw5126772647828168850:=0
def tw12655006852355983288:=0
def tw8690922639933513930:=0
def tw11448457427575241070:=0
def tw2404289979056089300:=0
def tw1061834641038200549:=0
def tw5115394474088945998:=0
def tw17795557750430713755:=0
def tw12563680709006498964:=0
def tw7082653522037411156:=0
def tw10000103903593934194:=0
def tw17677652759336508243:=0
def tw4675156446280332961:=0
def tw14265559863890605622:=0
def tw17637949833308193383:=0
def tw1164488236050382872:=0
def tw2184363614062941008:=0
def tw3691114303760782696:=0
def tw6246425136017513882:=0
def tw11606735123518382723:=0
def tw16666891775399181260:=0
def tw1994916325181291042:=0
def tw5475756399599842892:=0
def tw16623206110395693495:=0
def tw3745423138896777891:=0
def tw14038494522756110865:=0
def tw538025649850448501:=0
def tw4125327953771318016:=0
def tw1402695512512180811:=0
def tw11737654830794490836:=0
def tw13499343527283815846:=0
def tw9729008702072520971:=0
def tw17019995673887534314:=0
def tw10607739811039769150:=0
def tw9641791707046642468:=0
def tw16938933079396512229:=0
def tw17737368810073804174:=0
def tw3047110870265944780:=0
def tw13224779602639769625:=0
def tw12699757307610490111:=0
def tw12879597462442669835:=0
def tw5277444937484975620:=0
def tw15587554431645733232:=0
def tw15099998199798753663:=0
def tw12908248991626576908:=0
def tw4488946267407688893:=0
def tw7319555292505659945:=0
def tw4090358087535643714:=0
def tw16821777530569420871:=0
def tw8186716587442285194:=0
def tw15248876925925236100:=0
def tw2657571778850289527:=0
def tw13323483867537065117:=0
def tw11583148756673531039:=0
def tw1141824505324985577:=0
def tw13411702243953785273:=0
def tw17775510808357590393:=0
def tw14750594106817206019:=0
def tw5883348559775325832:=0
def tw1750951759664208520:=0
def tw10105856168209671346:=0
def tw13789791076432694424:=0
def tw831699809224875905:=0
def tw9104659220121403489:=0
def tw11203945121983005499:=0
def tw1544534954070757572:=0
def tw6838078757588765806:=0
def tw7230977816499822567:=0
def tw5744091570642967135:=0
def tw7776334170030524697:=0
def tw8179751578421032026:=0
def tw5165045064696555791:=0
def tw4857102670067530060:=0
def tw7071208283072590093:=0
def tw6710470504624049146:=0
def tw13202545958774305234:=0
def tw12789425745759099627:=0
def tw876178279430934395:=0
def tw4641768847835060388:=0
def tw24271908091769295:=0
def tw6669739753645691781:=0
def tw7375341389240499001:=0
def tw17182903632990853001:=0
def tw1656257064443953441:=0
def tw14730426307635761770:=0
def tw13888666445003885138:=0
def tw2605993508437220673:=0
def tw6481362785377009045:=0
def tw1940037062087602563:=0
def tw16318958653123871091:=0
def tw10631601744065493839:=0
def tw10819874101889451287:=0
def tw1523143609142808067:=0
def tw11342938636119342852:=0
def tw15502292076590227673:=0
def tw11955200079544862381:=0
def tw11595588533121942153:=0
def tw1124171336137455651:=0
def tw9489474706100904294:=0
def tw8809040706596498802:=0
def tw7464451093956169367:=0
def tw7331229831905331189:=0
def tw6516032534969496858:=0
def tw6230525856528491063:=0
def tw5982350730748601020:=0
def tw5982187519735876130:=0
def tw5423811278956577842:=0
def tw499734414533863612:=0
def tw4982030548191956665:=0
def tw4835223045210094566:=0
def tw4462004056178577569:=0
def tw354516175492766390:=0
def tw3529354485685752002:=0
def tw3470518479930635582:=0
def tw2966644234260874607:=0
def tw2125241035747323471:=0
def tw190140742997756308:=0
def tw186488643095970811:=0
def tw18044984407603266207:=0
def tw17587574107348513778:=0
def tw17322388784065947773:=0
def tw16962523330694410073:=0
def tw16521620161322491918:=0
def tw15577240588952609884:=0
def tw1503539368820197479:=0
def tw14320007428509653783:=0
def tw14150707344838198772:=0
def tw13793183190681181538:=0
def tw13686516777498648404:=0
def tw1363690367962318509:=0
def tw12663342679696626148:=0
def tw1261731933925286892:=0
def tw12301981618617150030:=0
def tw1187409170099671263:=0
def tw11128505367312998050:=0
def tw11127578847471751214:=0
def tw10762556523275072914:=0
end PySem.W.Fast
/-! THE HAND LAYER, for ints, bools, texts, own classes, LISTS and tuples (index, slices, in, append, pop ..), calls, loops. Paste it whole ahead of your own text; what your proof does not reach may be deleted. -/
namespace L2
open PySem PySem.Spec PyProof.Rows

/-- a key: an int or a str -/
abbrev Key := Sum Int Str
def keyIs : Key → Value → Bool
  | .inl k, v => Value.isInt k v
  | .inr x, v => Value.isStrOf x v
def keyH (w : World) : Key → Int
  | .inl k => hashInt k
  | .inr x => hashStr w x
theorem keyIs_shape : ∀ {k : Key} {v : Value}, keyIs k v = true → (∃ i t, k = Sum.inl i ∧ v = Value.int i t) ∨ (∃ x t, k = Sum.inr x ∧ v = Value.str x t)
  | .inl i, v, h => by
    obtain ⟨t, e⟩ := Value.isInt_shape (k := i) (v := v) h
    exact .inl ⟨i, t, rfl, e⟩
  | .inr x, v, h => by
    obtain ⟨t, e⟩ := Value.isStrOf_shape (x := x) (v := v) h
    exact .inr ⟨x, t, rfl, e⟩
theorem key_ll (a b : Int) : decide ((Sum.inl a : Key) = Sum.inl b) = (a == b) := by
  by_cases e : a = b
  · subst e; simp
  · have h : ¬ (Sum.inl a : Key) = Sum.inl b := fun q => e (Sum.inl.inj q)
    rw [decide_eq_false h]
    exact (beq_eq_false_iff_ne.mpr e).symm
theorem key_rr (a b : Str) : decide ((Sum.inr a : Key) = Sum.inr b) = decide (a = b) := by
  by_cases e : a = b
  · subst e; simp
  · have h : ¬ (Sum.inr a : Key) = Sum.inr b := fun q => e (Sum.inr.inj q)
    rw [decide_eq_false h, decide_eq_false e]
theorem key_lr (a : Int) (b : Str) : decide ((Sum.inl a : Key) = Sum.inr b) = false := decide_eq_false (fun q => nomatch q)
theorem key_rl (a : Str) (b : Int) : decide ((Sum.inr a : Key) = Sum.inl b) = false := decide_eq_false (fun q => nomatch q)

def mixKind (prog : Program) (w : World) : PySem.KeyKind prog w Key where
  is := keyIs
  hash := keyH w
  inj := fun v a b ha hb => by
    rcases keyIs_shape ha with ⟨i, t, rfl, rfl⟩ | ⟨x, t, rfl, rfl⟩
    · rcases keyIs_shape hb with ⟨j, u, rfl, e⟩ | ⟨y, u, rfl, e⟩
      · injection e with e1 _; rw [e1]
      · exact nomatch e
    · rcases keyIs_shape hb with ⟨j, u, rfl, e⟩ | ⟨y, u, rfl, e⟩
      · exact nomatch e
      · injection e with e1 _; rw [e1]
  byValue := fun k v h => by
    rcases keyIs_shape h with ⟨i, t, rfl, rfl⟩ | ⟨x, t, rfl, rfl⟩ <;> rfl
  pyHash := fun hv h => by
    rcases keyIs_shape hv with ⟨i, t, rfl, rfl⟩ | ⟨x, t, rfl, rfl⟩
    · exact wpAny_pyHash_int h
    · exact wpAny_pyHash_str h
  eqBool := fun hu hv h => by
    rcases keyIs_shape hu with ⟨i, t, rfl, rfl⟩ | ⟨x, t, rfl, rfl⟩
    · rcases keyIs_shape hv with ⟨j, u, rfl, rfl⟩ | ⟨y, u, rfl, rfl⟩
      · rw [key_ll] at h; exact wpAny_eqBool_int h
      · rw [key_lr] at h; exact SeqAt.EqAt.int_str i t y u _ _ _ _ h
    · rcases keyIs_shape hv with ⟨j, u, rfl, rfl⟩ | ⟨y, u, rfl, rfl⟩
      · rw [key_rl] at h; exact SeqAt.EqAt.str_int x t j u _ _ _ _ h
      · rw [key_rr] at h; exact wpAny_eqBool_str h
  «strs» := fun k x t v h => by
    rcases keyIs_shape h with ⟨i, u, rfl, e⟩ | ⟨y, u, rfl, e⟩
    · exact nomatch e
    · injection e with e1 _
      subst e1
      cases v <;> rfl

end L2

namespace L2
open PySem PySem.Spec PyProof.Rows

/-- a value, without the heap -/
inductive V where
  | non | bl (b : Bool) | int (i : Int) | str (x : Str) | byt (b : Array UInt8) | flt (b : UInt64) | ref (a : Addr) | ty (n : String)
  deriving DecidableEq

def RelV : V → Value → Prop
  | .non, u => u = Value.none
  | .bl b, u => u = Value.bool b
  | .int i, u => ∃ t, u = Value.int i t
  | .str x, u => ∃ t, u = Value.str x t
  | .byt b, u => ∃ t, u = Value.bytes b t
  | .flt b, u => ∃ t, u = Value.float b t
  | .ref a, u => u = Value.ref a
  | .ty n, u => u = Value.type n

abbrev Vals : List V → List Value → Prop := Paired RelV
theorem Vals.length {xs : List V} {us : List Value} (r : Vals xs us) : xs.length = us.length := Paired.length r
theorem Vals.get : ∀ {xs : List V} {us : List Value} {i : Nat} {x : V}, Vals xs us → xs[i]? = some x → ∃ u, us[i]? = some u ∧ RelV x u
  | _, _, _, _, .nil, e => by simp at e
  | _, _, 0, _, .cons r _, e => by simp at e; subst e; exact ⟨_, rfl, r⟩
  | _, _, i + 1, x, .cons _ t, e => by
    obtain ⟨u, h1, h2⟩ := Vals.get (i := i) (x := x) t (by simpa using e)
    exact ⟨u, by simpa using h1, h2⟩
theorem Vals.set {x : V} {u : Value} (r : RelV x u) : ∀ {xs : List V} {us : List Value} (i : Nat), Vals xs us → Vals (xs.set i x) (us.set i u)
  | _, _, _, .nil => .nil
  | _, _, 0, .cons _ t => .cons r t
  | _, _, i + 1, .cons q t => .cons q (Vals.set r i t)
theorem Vals.append : ∀ {xs ys : List V} {us ws : List Value}, Vals xs us → Vals ys ws → Vals (xs ++ ys) (us ++ ws)
  | _, _, _, _, .nil, s => s
  | _, _, _, _, .cons r t, s => .cons r (Vals.append t s)
theorem Vals.take : ∀ {xs : List V} {us : List Value} (n : Nat), Vals xs us → Vals (xs.take n) (us.take n)
  | _, _, 0, _ => .nil
  | _, _, _ + 1, .nil => .nil
  | _, _, n + 1, .cons r t => .cons r (Vals.take n t)
theorem Vals.drop : ∀ {xs : List V} {us : List Value} (n : Nat), Vals xs us → Vals (xs.drop n) (us.drop n)
  | _, _, 0, r => r
  | _, _, _ + 1, .nil => .nil
  | _, _, n + 1, .cons _ t => Vals.drop n t
def RelO : Option V → Option Value → Prop
  | some v, some u => RelV v u
  | none, none => True
  | _, _ => False
def KV {κ : Type} : List (κ × V) → List (κ × Value) → Prop := Paired fun (p : κ × V) (q : κ × Value) => p.1 = q.1 ∧ RelV p.2 q.2

/-- a key of a dict (00_mix): an int or a text -/
def kV : Key → V
  | .inl i => .int i
  | .inr x => .str x

/-- what stands at a tracked address -/
inductive HO where
  /-- a list -/
  | lst (xs : List V)
  /-- a tuple (never changes) -/
  | tup (xs : List V)
  /-- a dict whose keys are ints and texts; one whose keys are tuples of ints and texts (the empty one is both) -/
  | dK (kvs : List (Key × V)) | dT (kvs : List (List Key × V))
  /-- a set of ints: its members, its size -/
  | set (S : Int → Bool) (n : Nat)
  /-- an instance of the class at C, its dict at dx, its attributes -/
  | ins (C dx : Addr) (fs : List (Str × V))
  /-- the dict of the instance at x -/
  | own (x : Addr)
  /-- the dict of an exception -/
  | xd (fs : List (Str × V))
  /-- a bound method, f of x -/
  | met (f x : Addr)
  /-- a range object lo, lo + 1, .. below hi -/
  | rng (lo hi : Int)
  /-- a thing that is known to the object (the script; a dict while a loop walks it): read, never written while it is so -/
  | frz (o : Obj) (u : HO)
  /-- a code object's table -/
  | tbl (ps : Array Value)
  /-- any other thing, by what is true of its one object (a def of one's own: SetO a S n := HO.ext fun h => ..) -/
  | ext (φ : Heap → Prop)

abbrev Hp := Addr → Option HO
def upd (H : Hp) (a : Addr) (o : HO) : Hp := fun b => if b = a then some o else H b
theorem upd_same {H : Hp} {a : Addr} {o : HO} : upd H a o a = some o := by unfold upd; rw [if_pos rfl]
theorem upd_ne {H : Hp} {a b : Addr} {o : HO} (h : b ≠ a) : upd H a o b = H b := by unfold upd; rw [if_neg h]
/-- two objects of different content stand apart -/
theorem ne_of {H : Hp} {a b : Addr} {o u : HO} (h : H a = some o) (h' : H b = some u) (d : o ≠ u) : a ≠ b := by
  intro e; subst e; rw [h] at h'; exact d (Option.some.inj h')
theorem ne_of_none {H : Hp} {a b : Addr} {o : HO} (h : H a = some o) (h' : H b = none) : a ≠ b := by
  intro e; subst e; rw [h] at h'; cases h'

section
variable (P : Program) (w : World)
def ObjOk (H : Hp) (h : Heap) (a : Addr) : HO → Prop
  | .lst xs => xs.length ≤ sizeLine ∧ ∃ (its : List Value) (n : Nat), Vals xs its ∧ h.get? a = some { cls := .type "list", data := .seq its.toArray n }
  | .tup xs => xs.length ≤ sizeLine ∧ ∃ its : List Value, Vals xs its ∧ IsTup h a its.toArray
  | .dK kvs => kvs.length ≤ sizeLine ∧ (a == sysModules) = false ∧ ∃ vs, KV kvs vs ∧ h.DictOf (mixKind P w) a vs
  | .dT kvs => kvs.length ≤ sizeLine ∧ (a == sysModules) = false ∧ ∃ xs : List (List Key × Addr × Value),
      Paired (fun (p : List Key × V) (q : List Key × Addr × Value) => p.1 = q.1 ∧ H q.2.1 = some (.tup (p.1.map kV)) ∧ RelV p.2 q.2.2) kvs xs ∧
      ∃ o es ep, h.get? a = some o ∧ o.ExactDict ∧ o.data = .dict es ep ∧ es.toList = xs.map (entryOfKey (tupleKind (mixKind P w))) ∧ (xs.map (·.1)).Nodup
  | .set S n => h.SetOf (intKind P w) a S n
  | .ins C dx fs => H dx = some (.own a) ∧ fs.length ≤ 1000 ∧ dx ≠ a ∧ h.get? a = some (PySem.W.instObj C dx) ∧
      ∃ mA, h.Ns1 dx mA ∧ (∀ f, RelO (fs.lookup f) (mA f)) ∧ PySem.Within mA (fs.map (·.1))
  | .own _ => ∃ o, h.get? a = some o
  | .xd fs => ∃ mA, h.Ns1 a mA ∧ ∀ f, RelO (fs.lookup f) (mA f)
  | .rng lo hi => ∃ t u v, h.get? a = some { cls := .type "range", data := .fields #[.int lo t, .int hi u, .int 1 v] }
  | .frz o u => h.get? a = some o ∧ ObjOk H h a u
  | .tbl ps => h.get? a = some { cls := .none, data := .fields ps }
  | .met f x => h.get? a = some (PySem.W.methodObj (.ref f) (.ref x))
  | .ext φ => φ h ∧ (∃ o, h.get? a = some o) ∧ ∀ h1 h2 : Heap, φ h1 → (∀ o, h1.get? a = some o → h2.get? a = some o) → φ h2
/-- the abstract heap is held -/
def HOk (H : Hp) (h : Heap) : Prop := ∀ a o, H a = some o → ObjOk P w H h a o
end

section
variable {P : Program} {w : World} {H H' : Hp} {h h' : Heap} {a : Addr} {o : HO}
theorem ObjOk.lt (x : ObjOk P w H h a o) : a < h.objs.size := by
  cases o with
  | lst xs => obtain ⟨_, _, _, _, e⟩ := x; exact Heap.lt_size e
  | tup xs => obtain ⟨_, _, _, p⟩ := x; exact p.lt
  | dK kvs => obtain ⟨_, _, _, _, o, _, _, e, _⟩ := x; exact Heap.lt_size e
  | dT kvs => obtain ⟨_, _, _, _, o, _, _, e, _⟩ := x; exact Heap.lt_size e
  | set S n => obtain ⟨o, _, _, _, e, _⟩ := x; exact Heap.lt_size e
  | ins C dx fs => obtain ⟨_, _, _, e, _⟩ := x; exact Heap.lt_size e
  | own y => obtain ⟨_, e⟩ := x; exact Heap.lt_size e
  | xd fs => obtain ⟨_, ⟨_, _, _, e, _⟩, _⟩ := x; exact Heap.lt_size e
  | rng lo hi => obtain ⟨_, _, _, e⟩ := x; exact Heap.lt_size e
  | frz ob u => obtain ⟨e, _⟩ := x; exact Heap.lt_size e
  | tbl ps => exact Heap.lt_size (show h.get? a = some _ from x)
  | met f y => exact Heap.lt_size (show h.get? a = some _ from x)
  | ext φ => obtain ⟨_, ⟨_, e⟩, _⟩ := x; exact Heap.lt_size e
theorem Paired.mapP {α β : Type} {F G : α → β → Prop} : ∀ {l₁ : List α} {l₂ : List β}, Paired F l₁ l₂ → (∀ a b, F a b → G a b) → Paired G l₁ l₂
  | _, _, .nil, _ => .nil
  | _, _, .cons r t, f => .cons (f _ _ r) (Paired.mapP t f)
/-- what an object's description leans on: its own object, its own dict, the tuples -/
theorem ObjOk.stay (x : ObjOk P w H h a o) (k : ∀ b u, (b = a ∨ H b = some (.own a)) → h.get? b = some u → h'.get? b = some u)
    (ho : ∀ b, H b = some (.own a) → H' b = some (.own a)) (ht : ∀ b xs, H b = some (.tup xs) → H' b = some (.tup xs)) : ObjOk P w H' h' a o := by
  induction o with
  | lst xs => obtain ⟨z, its, n, r, e⟩ := x; exact ⟨z, its, n, r, k _ _ (.inl rfl) e⟩
  | tup xs => obtain ⟨z, its, r, ob, e, c⟩ := x; exact ⟨z, its, r, ob, k _ _ (.inl rfl) e, c⟩
  | dK kvs => obtain ⟨z, y, vs, r, ob, es, ep, e, c⟩ := x; exact ⟨z, y, vs, r, ob, es, ep, k _ _ (.inl rfl) e, c⟩
  | dT kvs =>
    obtain ⟨z, y, xs, r, ob, es, ep, e, c⟩ := x
    exact ⟨z, y, xs, Paired.mapP r fun p q z => ⟨z.1, ht _ _ z.2.1, z.2.2⟩, ob, es, ep, k _ _ (.inl rfl) e, c⟩
  | set S n => obtain ⟨ob, es, ep, t, e, c⟩ := x; exact ⟨ob, es, ep, t, k _ _ (.inl rfl) e, c⟩
  | ins C dx fs =>
    obtain ⟨d, z, ne, e, mA, ⟨od, es, ep, e2, c⟩, r⟩ := x
    exact ⟨ho _ d, z, ne, k _ _ (.inl rfl) e, mA, ⟨od, es, ep, k _ _ (.inr d) e2, c⟩, r⟩
  | own y => obtain ⟨ob, e⟩ := x; exact ⟨ob, k _ _ (.inl rfl) e⟩
  | xd fs => obtain ⟨mA, ⟨od, es, ep, e, c⟩, r⟩ := x; exact ⟨mA, ⟨od, es, ep, k _ _ (.inl rfl) e, c⟩, r⟩
  | rng lo hi => obtain ⟨t, u, v, e⟩ := x; exact ⟨t, u, v, k _ _ (.inl rfl) e⟩
  | frz ob u ih => obtain ⟨e, q⟩ := x; exact ⟨k _ _ (.inl rfl) e, ih q⟩
  | tbl ps =>
    have e : h.get? a = some { cls := .none, data := .fields ps } := x
    show h'.get? a = some { cls := .none, data := .fields ps }
    exact k a _ (.inl rfl) e
  | met f y =>
    have e : h.get? a = some (PySem.W.methodObj (.ref f) (.ref y)) := x
    show h'.get? a = some (PySem.W.methodObj (.ref f) (.ref y))
    exact k a _ (.inl rfl) e
  | ext φ => obtain ⟨p, ⟨o, e⟩, st⟩ := x; exact ⟨st _ _ p fun o q => k _ _ (.inl rfl) q, ⟨o, k _ _ (.inl rfl) e⟩, st⟩
theorem HOk.lt (x : HOk P w H h) (e : H a = some o) : a < h.objs.size := (x a o e).lt
theorem HOk.fresh (x : HOk P w H h) (e : h.objs.size ≤ a) : H a = none := by
  cases q : H a with
  | none => rfl
  | some u => exact absurd (Nat.lt_of_lt_of_le (x.lt q) e) (Nat.lt_irrefl _)
/-- every object of the heap is kept -/
theorem HOk.kept (x : HOk P w H h) (k : ∀ b u, h.get? b = some u → h'.get? b = some u) : HOk P w H h' := fun a o e =>
  (x a o e).stay (fun b u _ q => k b u q) (fun _ q => q) fun _ _ q => q
/-- a new object is laid and tracked -/
theorem HOk.laid (x : HOk P w H h) (k : ∀ b u, h.get? b = some u → h'.get? b = some u) (hp : h.objs.size ≤ a) (new : ObjOk P w (upd H a o) h' a o) : HOk P w (upd H a o) h' := fun b u e => by
  have hn := x.fresh hp
  by_cases hb : b = a
  · subst hb; rw [upd_same] at e; cases e; exact new
  · rw [upd_ne hb] at e
    exact (x b u e).stay (fun c v _ q => k c v q) (fun c q => by rw [upd_ne (ne_of_none q hn)]; exact q) fun c xs q => by rw [upd_ne (ne_of_none q hn)]; exact q
end

/-- what may be read as u: it is u, or a known u -/
def Rd (H : Hp) (a : Addr) (u : HO) : Prop := H a = some u ∨ ∃ o, H a = some (.frz o u)
theorem Rd.ok {P : Program} {w : World} {H : Hp} {h : Heap} {a : Addr} {u : HO} (r : Rd H a u) (x : HOk P w H h) : ObjOk P w H h a u := by
  rcases r with r | ⟨o, r⟩
  · exact x a u r
  · obtain ⟨_, q⟩ := x a _ r
    exact q
/-- what may be written -/
def Mut : Option HO → Prop
  | some (.lst _) => True
  | some (.dK _) => True
  | some (.dT _) => True
  | some (.set _ _) => True
  | some (.ins _ _ _) => True
  | some (.ext _) => True
  | _ => False
section
variable {P : Program} {w : World} {H : Hp} {h h' : Heap} {x e : Addr} {o' : HO}
/-- the object at e is changed: x itself, or the dict of the instance x -/
theorem HOk.write (ok : HOk P w H h) (mu : Mut (H x)) (he : e = x ∨ H e = some (.own x)) (k : ∀ b u, b ≠ e → h.get? b = some u → h'.get? b = some u) (heo : ∃ u, h'.get? e = some u)
    (new : ObjOk P w (upd H x o') h' x o') : HOk P w (upd H x o') h' := fun b u q => by
  have nown : ∀ c y, H c = some (.own y) → c ≠ x := fun c y r z => by subst z; rw [r] at mu; exact mu
  have ntup : ∀ c xs, H c = some (.tup xs) → c ≠ x := fun c xs r z => by subst z; rw [r] at mu; exact mu
  by_cases hb : b = x
  · subst hb; rw [upd_same] at q; cases q; exact new
  · rw [upd_ne hb] at q
    by_cases hbe : b = e
    · have q' : H b = some (.own x) := by
        rcases he with z | z
        · exact absurd (hbe.trans z) hb
        · rw [hbe]; exact z
      rw [q] at q'; cases q'
      obtain ⟨v, hv⟩ := heo
      exact ⟨v, by rw [hbe]; exact hv⟩
    · refine (ok b u q).stay (fun c v hc r => k c v ?_ r) (fun c r => by rw [upd_ne (nown c b r)]; exact r) fun c xs r => by rw [upd_ne (ntup c xs r)]; exact r
      rcases hc with rfl | hc
      · exact hbe
      · rintro rfl
        rcases he with z | z
        · exact nown c b hc z
        · rw [hc] at z; cases z; exact hb rfl
end

/-! ### kept unless tracked; of the frames at fs (the callers') the slots may change (an exception that passes writes there); of the records at ex (iterators) nothing is said -/
structure Un (fs ex : List Addr) (H H' : Hp) (h h' : Heap) : Prop where
  keep : ∀ b o, h.get? b = some o → H b = none → b ∉ fs → b ∉ ex → h'.get? b = some o
  slot : ∀ b o, h.get? b = some o → H b = none → b ∈ fs → b ∉ ex → ∃ sl, h'.get? b = some { o with slots := sl }
  free : ∀ b o, h.get? b = some o → H b = none → b ∉ ex → H' b = none
  there : ∀ b o, h.get? b = some o → b ∉ ex → ∃ o', h'.get? b = some o'
  tups : ∀ b xs, H b = some (.tup xs) → H' b = some (.tup xs)
  frzs : ∀ b o u, H b = some (.frz o u) → H' b = some (.frz o u)
  tbls : ∀ b ps, H b = some (.tbl ps) → ∃ more, H' b = some (.tbl (ps ++ more))
section
variable {fs fs' ex ex' : List Addr} {H H1 H2 : Hp} {h h1 h2 h' : Heap} {a x e : Addr} {o : HO}
theorem Un.any (u : Un fs ex H H1 h h1) {b : Addr} {ob : Obj} (q : h.get? b = some ob) (n : H b = none) (hx : b ∉ ex) : ∃ sl, h1.get? b = some { ob with slots := sl } := by
  by_cases hb : b ∈ fs
  · exact u.slot b ob q n hb hx
  · exact ⟨ob.slots, u.keep b ob q n hb hx⟩
theorem Un.trans (a : Un fs ex H H1 h h1) (b : Un fs ex H1 H2 h1 h2) : Un fs ex H H2 h h2 where
  keep := fun c ob q n hc hx => b.keep c ob (a.keep c ob q n hc hx) (a.free c ob q n hx) hc hx
  slot := fun c ob q n hc hx => by
    obtain ⟨sl, e1⟩ := a.slot c ob q n hc hx
    obtain ⟨sl', e2⟩ := b.slot c _ e1 (a.free c ob q n hx) hc hx
    exact ⟨sl', e2⟩
  free := fun c ob q n hx => by
    obtain ⟨o', e1⟩ := a.there c ob q hx
    exact b.free c o' e1 (a.free c ob q n hx) hx
  there := fun c ob q hx => by
    obtain ⟨o', e1⟩ := a.there c ob q hx
    exact b.there c o' e1 hx
  tups := fun c xs q => b.tups c xs (a.tups c xs q)
  frzs := fun c ob xs q => b.frzs c ob xs (a.frzs c ob xs q)
  tbls := fun c ps q => by
    obtain ⟨m1, e1⟩ := a.tbls c ps q
    obtain ⟨m2, e2⟩ := b.tbls c _ e1
    exact ⟨m1 ++ m2, by rw [e2, Array.append_assoc]⟩
theorem Un.kept (k : ∀ b u, h.get? b = some u → h'.get? b = some u) : Un fs ex H H h h' :=
  ⟨fun b ob q _ _ _ => k b ob q, fun b ob q _ _ _ => ⟨ob.slots, k b ob q⟩, fun _ _ _ n _ => n, fun b ob q _ => ⟨ob, k b ob q⟩, fun _ _ q => q, fun _ _ _ q => q, fun _ ps q => ⟨#[], by rw [q]; simp⟩⟩
theorem Un.refl : Un fs ex H H h h := Un.kept fun _ _ q => q
theorem Un.laid (k : ∀ b u, h.get? b = some u → h'.get? b = some u) (hp : h.objs.size ≤ a) (hn : H a = none) : Un fs ex H (upd H a o) h h' where
  keep := fun b u q _ _ _ => k b u q
  slot := fun b u q _ _ _ => ⟨u.slots, k b u q⟩
  free := fun b u q n _ => by rw [upd_ne (Nat.ne_of_lt (Nat.lt_of_lt_of_le (Heap.lt_size q) hp))]; exact n
  there := fun b u q _ => ⟨u, k b u q⟩
  tups := fun b xs q => by rw [upd_ne (ne_of_none q hn)]; exact q
  frzs := fun b u xs q => by rw [upd_ne (ne_of_none q hn)]; exact q
  tbls := fun b ps q => ⟨#[], by rw [upd_ne (ne_of_none q hn), q]; simp⟩
theorem Un.write (mu : Mut (H x)) (he : e = x ∨ H e = some (.own x)) (k : ∀ b u, b ≠ e → h.get? b = some u → h'.get? b = some u) (heo : ∃ u, h'.get? e = some u) : Un fs ex H (upd H x o) h h' := by
  have hx : ∀ b, H b = none → b ≠ x := fun b n z => by subst z; rw [n] at mu; exact mu
  have hb : ∀ b, H b = none → b ≠ e := fun b n z => by
    subst z
    rcases he with r | r
    · exact hx b n r
    · rw [n] at r; cases r
  have hm : ∀ b u, H b = some u → ¬ Mut (some u) → b ≠ x := fun b u q nm z => by subst z; rw [q] at mu; exact nm mu
  refine ⟨fun b u q n _ _ => k b u (hb b n) q, fun b u q n _ _ => ⟨u.slots, k b u (hb b n) q⟩, fun b u q n _ => by rw [upd_ne (hx b n)]; exact n, fun b u q _ => ?_,
    fun b xs q => by rw [upd_ne (hm b _ q fun z => z)]; exact q, fun b u xs q => by rw [upd_ne (hm b _ q fun z => z)]; exact q, fun b ps q => ⟨#[], by rw [upd_ne (hm b _ q fun z => z), q]; simp⟩⟩
  by_cases hbe : b = e
  · subst hbe; exact heo
  · exact ⟨u, k b u hbe q⟩
theorem Un.mono (u : Un fs ex H H1 h h1) (hs : ∀ b ∈ fs, b ∈ fs') (hx : ∀ b ∈ ex, b ∈ ex') : Un fs' ex' H H1 h h1 :=
  ⟨fun b ob q n hb he => u.keep b ob q n (fun z => hb (hs b z)) fun z => he (hx b z), fun _ _ q n _ he => u.any q n fun z => he (hx _ z), fun b ob q n he => u.free b ob q n fun z => he (hx b z), fun b ob q he => u.there b ob q fun z => he (hx b z), u.tups, u.frzs, u.tbls⟩
end

/-! ### the heap without what is tracked -/
def trk (h : Heap) (H : Hp) : List Addr := (List.range h.objs.size).filter fun a => (H a).isSome
def hidT (h : Heap) (H : Hp) : Heap := PySem.W.hideAll h (trk h H)
theorem hidT_size (h : Heap) (H : Hp) : (hidT h H).objs.size = h.objs.size := PySem.W.hideAll_size _ _
theorem hidT_get {h : Heap} {H : Hp} {b : Addr} {o : Obj} (e : h.get? b = some o) (n : H b = none) : (hidT h H).get? b = some o :=
  PySem.W.hideAll_get _ e fun hm => by
    have q : (H b).isSome = true := (List.mem_filter.mp hm).2
    rw [n] at q; simp at q
theorem of_hidT {h : Heap} {H : Hp} {b : Addr} {o : Obj} (e : (hidT h H).get? b = some o) : h.get? b = some o ∧ H b = none := by
  have e' : h.get? b = some o := PySem.W.of_hideAll (trk h H) e
  refine ⟨e', ?_⟩
  cases q : H b with
  | none => rfl
  | some x =>
    have hm : b ∈ trk h H := List.mem_filter.mpr ⟨List.mem_range.mpr (Heap.lt_size e'), by simp [q]⟩
    have z : (hidT h H).get? b = none := PySem.W.hideAll_none (trk h H) hm
    rw [z] at e; cases e

/-! ### OpenK's ledger, filled with every new object but one -/
def allNews (g h : Heap) (L : Addr) : List (Addr × Obj) := (List.range h.objs.size).filterMap fun a => if a = L ∨ (g.get? a).isSome = true then none else (h.get? a).map fun o => (a, o)
def rest (g h : Heap) (L d : Addr) : List (Addr × Obj) := (allNews g h L).filter fun p => decide (p.1 ≠ d)
end L2

namespace L2
open PySem PySem.Spec PyProof.Rows

/-- the module's facts, over the base: the heap at the law's entry without what is tracked there -/
structure Mod (K : PySem.W.Frag) (mg : Str → Option Value) (base : Heap) : Prop where
  kin : K.In base
  glob : base.Ns mainGlobals mg
  blt : ∃ mb, base.Ns builtinsNs mb ∧ ∀ x : Str, x ≠ "__name__" → mb x = bootBuiltins x
  nolimit : base.NoLimit

/-- the context: a def's body (or a comprehension's block) running. base: fixed through the whole law; s₀, H₀: the entry; outer: the frames whose slots others may change (a def's callers); stack: all frames that run;
   ex: iterators that were made ahead of the entry and are walked here (a comprehension's); fn: the names whose cells were made at the entry (a def: all; a comprehension's block: its own); calm: not within an except suite; pn: pins that every state bears; xe: what is wanted of an exception that leaves the code -/
structure Cx where
  prog : Program
  w : World
  K : PySem.W.Frag
  mg : Str → Option Value
  base : Heap
  A : Around
  N : List Str
  s₀ : Shared
  H₀ : Hp
  env : Env
  outer : List Env
  stack : List Env
  ex : List Addr
  fn : Str → Bool
  calm : Bool
  pn : List (Addr × Obj)
  xe : Value → Shared → Prop
/-- the callers' frames -/
def frs (l : List Env) : List Addr := l.filterMap (·.frame)
abbrev Cx.fs (X : Cx) : List Addr := frs X.outer

def Vis (sc : Scope) (x : Str) : Prop := sc.names.lookup x = some .local ∨ sc.names.lookup x = some .cell ∨ sc.names.lookup x = some .free
def Loc (sc : Scope) (x : Str) : Prop := sc.names.lookup x = some .local ∨ sc.names.lookup x = some .cell
def Look (env : Env) (h : Heap) (m : Str → Option Value) (x : Str) (u : Value) : Prop :=
  (env.kindOf x = some .local ∧ m x = some u) ∨ ((env.kindOf x = some .cell ∨ env.kindOf x = some .free) ∧ ∃ c, env.cells.lookup x = some c ∧ h.IsCell c (some u))

structure Cx.Ok (X : Cx) : Prop where
  mod : Mod X.K X.mg X.base
  kind : X.env.scope.kind = .function
  glob : X.env.globals = mainGlobals
  blt : X.env.builtins = builtinsNs
  above : X.s₀.heap.objs.size ≤ X.env.locals
  inj : ∀ x y c, X.env.cells.lookup x = some c → X.env.cells.lookup y = some c → x = y
  has : ∀ x, (X.env.kindOf x = some .cell ∨ X.env.kindOf x = some .free) → ∃ c, X.env.cells.lookup x = some c
  cab : ∀ x c, X.fn x = true → X.env.cells.lookup x = some c → X.s₀.heap.objs.size ≤ c
  hd : X.calm = true → X.A.handled = none
  frames : X.A.frames = some X.stack
  stk : X.stack = X.outer ∨ (X.stack = X.env :: X.outer ∧ X.env.frame = some X.env.locals)
  exf : ∀ b ∈ X.ex, b ≠ X.env.locals ∧ ∀ x c, X.env.cells.lookup x = some c → c ≠ b
  bs : ∀ b o, X.base.get? b = some o → X.s₀.heap.get? b = some o ∧ X.H₀ b = none
  bsz : X.base.objs.size ≤ X.s₀.heap.objs.size
  noex : ∀ b o, X.base.get? b = some o → b ∉ X.ex
  exfs : ∀ b ∈ X.ex, b ∉ X.fs
  funs : X.s₀.heap.FunFrames X.base X.outer
  frf : ∀ b ∈ X.fs, X.H₀ b = none

structure Inv (X : Cx) (pins : List (Addr × Obj)) (σ : List (Option V)) (H : Hp) (s : Shared) : Prop where
  ok : X.Ok
  os : s.os = X.s₀.os
  bare : AllBare s.gens
  base : Un X.fs X.ex X.H₀ H X.s₀.heap s.heap
  loc : ∃ m, s.heap.Ns X.env.locals m ∧ ∀ (i : Nat) (x : Str) (v : V), X.N[i]? = some x → σ[i]? = some (some v) → Vis X.env.scope x → ∃ u, RelV v u ∧ Look X.env s.heap m x u
  cell : ∀ x c, X.env.cells.lookup x = some c → ∃ v, s.heap.IsCell c v
  free : H X.env.locals = none
  freeC : ∀ x c, X.env.cells.lookup x = some c → H c = none
  pin : ∀ p ∈ X.pn ++ pins, s.heap.get? p.1 = some p.2 ∧ H p.1 = none ∧ p.1 ≠ X.env.locals ∧ p.1 ∉ X.fs ∧ ∀ v, p.2.data ≠ .cell v
  hok : HOk X.prog X.w H s.heap
  len : σ.length = X.N.length

section
variable {X : Cx} {pins : List (Addr × Obj)} {σ : List (Option V)} {H H' : Hp} {s : Shared} {h' : Heap}

theorem Cx.Ok.nofr (ok : X.Ok) {b : Addr} {o : Obj} (e : X.base.get? b = some o) : b ∉ X.fs := fun hb => by
  have := (ok.funs.mem hb).1
  rw [e] at this; cases this
theorem Inv.bs (I : Inv X pins σ H s) : ∀ b o, X.base.get? b = some o → s.heap.get? b = some o ∧ H b = none := fun b o e =>
  ⟨I.base.keep b o (I.ok.bs b o e).1 (I.ok.bs b o e).2 (I.ok.nofr e) (I.ok.noex b o e), I.base.free b o (I.ok.bs b o e).1 (I.ok.bs b o e).2 (I.ok.noex b o e)⟩
theorem Inv.bk (I : Inv X pins σ H s) : ∀ b o, X.base.get? b = some o → s.heap.get? b = some o := fun b o e => (I.bs b o e).1
theorem Inv.mod (I : Inv X pins σ H s) : Mod X.K X.mg X.base := I.ok.mod
theorem Inv.kIn (I : Inv X pins σ H s) : X.K.In s.heap := I.ok.mod.kin.keeps I.bk
theorem Inv.lt (I : Inv X pins σ H s) : X.env.locals < s.heap.objs.size := let ⟨_, hn, _⟩ := I.loc; hn.lt
theorem Inv.sz (I : Inv X pins σ H s) : X.s₀.heap.objs.size ≤ s.heap.objs.size := Nat.le_trans I.ok.above (Nat.le_of_lt I.lt)
theorem Inv.nofs (I : Inv X pins σ H s) {a : Addr} (h : s.heap.objs.size ≤ a) : a ∉ X.fs := fun hb => by
  obtain ⟨_, o, ho, _⟩ := I.ok.funs.mem hb
  exact absurd (Nat.lt_of_lt_of_le (Heap.lt_size ho) (Nat.le_trans I.sz h)) (Nat.lt_irrefl _)
theorem Inv.cne (I : Inv X pins σ H s) : ∀ x c, X.env.cells.lookup x = some c → c ≠ X.env.locals := fun x c e z => by
  obtain ⟨v, o, ho, hd⟩ := I.cell x c e
  obtain ⟨m, ⟨o', es, ep, ho', hd', _⟩, _⟩ := I.loc
  rw [z, ho'] at ho; cases ho; rw [hd'] at hd; cases hd
theorem Inv.funs (I : Inv X pins σ H s) : s.heap.FunFrames X.base X.outer := by
  have all : ∀ (l : List Env), (∀ b ∈ frs l, b ∈ X.fs) → X.s₀.heap.FunFrames X.base l → s.heap.FunFrames X.base l := by
    intro l
    induction l with
    | nil => intro _ _; trivial
    | cons env r ih =>
      intro hs hl
      obtain ⟨hk, ⟨L, o, hf, hn, ho, hd⟩, hr⟩ := hl
      have hL : L ∈ X.fs := hs L (by unfold frs; rw [List.filterMap_cons, hf]; exact List.mem_cons_self)
      obtain ⟨sl, e⟩ := I.base.slot L o ho (I.ok.frf L hL) hL fun z => I.ok.exfs L z hL
      exact ⟨hk, ⟨L, _, hf, hn, e, hd⟩, ih (fun b hb => hs b (by unfold frs; rw [List.filterMap_cons, hf]; exact List.mem_cons_of_mem _ hb)) hr⟩
  exact all X.outer (fun _ hb => hb) I.ok.funs

/-- the frames that run, for a call -/
theorem Inv.stack (I : Inv X pins σ H s) : s.heap.FunFrames X.base X.stack := by
  rcases I.ok.stk with e | ⟨e, hf⟩
  · rw [e]; exact I.funs
  · rw [e]
    obtain ⟨m, hn, _⟩ := I.loc
    refine .cons (by rw [I.ok.kind]; decide) hf hn ?_ I.funs
    exact Heap.get?_none_of_le (Nat.le_trans I.ok.bsz I.ok.above)
theorem Inv.stkSub (I : Inv X pins σ H s) : ∀ b ∈ frs X.stack, b ∈ X.env.locals :: X.fs := fun b hb => by
  rcases I.ok.stk with e | ⟨e, hf⟩
  · rw [e] at hb; exact List.mem_cons_of_mem _ hb
  · rw [e] at hb
    unfold frs at hb
    rw [List.filterMap_cons, hf] at hb
    exact hb
theorem Inv.stkFree (I : Inv X pins σ H s) : ∀ b ∈ frs X.stack, H b = none := fun b hb => by
  rcases List.mem_cons.mp (I.stkSub b hb) with e | hb
  · rw [e]; exact I.free
  · obtain ⟨_, o, ho, _⟩ := I.ok.funs.mem hb
    exact I.base.free b o ho (I.ok.frf b hb) fun z => I.ok.exfs b z hb

/-- THE STEP: the untracked objects but the frame and the records at ch are kept (the callers' frames up to slots), the frame's map is kept, the new abstract heap is held -/
theorem Inv.step {g' : Array GenState} {t' : Nat} {d' : Drawn} {ch : List Addr} (I : Inv X pins σ H s)
    (hch : ∀ b ∈ ch, (b ∈ X.ex ∨ X.s₀.heap.objs.size ≤ b) ∧ b ≠ X.env.locals ∧ (∀ x c, X.env.cells.lookup x = some c → c ≠ b) ∧ ∀ p ∈ X.pn ++ pins, p.1 ≠ b)
    (keep : ∀ b o, b ≠ X.env.locals → b ∉ X.fs → b ∉ ch → s.heap.get? b = some o → H b = none → h'.get? b = some o)
    (slot : ∀ b o, b ≠ X.env.locals → b ∈ X.fs → b ∉ ch → s.heap.get? b = some o → H b = none → ∃ sl, h'.get? b = some { o with slots := sl }) (free : ∀ b o, b ∉ ch → s.heap.get? b = some o → H b = none → H' b = none)
    (there : ∀ b o, b ∉ ch → s.heap.get? b = some o → ∃ o', h'.get? b = some o')
    (tups : ∀ b xs, H b = some (.tup xs) → H' b = some (.tup xs)) (frzs : ∀ b o u, H b = some (.frz o u) → H' b = some (.frz o u)) (tbls : ∀ b ps, H b = some (.tbl ps) → ∃ more, H' b = some (.tbl (ps ++ more)))
    (ns : ∀ m, s.heap.Ns X.env.locals m → h'.Ns X.env.locals m) (hok : HOk X.prog X.w H' h') (hg : AllBare g') :
    Inv X pins σ H' { s with heap := h', gens := g', drawn := d', toks := t' } := by
  have neL : ∀ b o, X.s₀.heap.get? b = some o → b ≠ X.env.locals := fun b o e => Nat.ne_of_lt (Nat.lt_of_lt_of_le (Heap.lt_size e) I.ok.above)
  have neC : ∀ b o, X.s₀.heap.get? b = some o → b ∉ X.ex → b ∉ ch := fun b o e hx hb => by
    rcases (hch b hb).1 with z | z
    · exact hx z
    · exact absurd (Nat.lt_of_lt_of_le (Heap.lt_size e) z) (Nat.lt_irrefl _)
  have cellK : ∀ x c, X.env.cells.lookup x = some c → ∀ v, s.heap.IsCell c v → h'.IsCell c v := fun x c e v ⟨o, ho, hd⟩ => by
    have nch : c ∉ ch := fun z => (hch c z).2.2.1 x c e rfl
    by_cases hc : c ∈ X.fs
    · obtain ⟨sl, q⟩ := slot c o (I.cne x c e) hc nch ho (I.freeC x c e)
      exact ⟨_, q, hd⟩
    · exact ⟨o, keep c o (I.cne x c e) hc nch ho (I.freeC x c e), hd⟩
  refine ⟨I.ok, I.os, hg, ⟨fun b o e n hb hx => ?_, fun b o e n hb hx => ?_, fun b o e n hx => ?_, fun b o e hx => ?_, fun b xs e => tups b xs (I.base.tups b xs e), fun b o xs e => frzs b o xs (I.base.frzs b o xs e), fun b ps e => ?_⟩, ?_, fun x c e => ?_, ?_, fun x c e => ?_, fun p hp => ?_, hok, I.len⟩
  · exact keep b o (neL b o e) hb (neC b o e hx) (I.base.keep b o e n hb hx) (I.base.free b o e n hx)
  · obtain ⟨sl, e1⟩ := I.base.slot b o e n hb hx
    obtain ⟨sl', e2⟩ := slot b _ (neL b o e) hb (neC b o e hx) e1 (I.base.free b o e n hx)
    exact ⟨sl', e2⟩
  · obtain ⟨o', e1⟩ := I.base.there b o e hx
    exact free b o' (neC b o e hx) e1 (I.base.free b o e n hx)
  · obtain ⟨o', e1⟩ := I.base.there b o e hx
    exact there b o' (neC b o e hx) e1
  · obtain ⟨m1, e1⟩ := I.base.tbls b ps e
    obtain ⟨m2, e2⟩ := tbls b _ e1
    exact ⟨m1 ++ m2, by rw [e2, Array.append_assoc]⟩
  · obtain ⟨m, hn, hl⟩ := I.loc
    refine ⟨m, ns m hn, fun i x v e1 e2 e3 => ?_⟩
    obtain ⟨u, r, l⟩ := hl i x v e1 e2 e3
    refine ⟨u, r, ?_⟩
    rcases l with l | ⟨k, c, e, z⟩
    · exact .inl l
    · exact .inr ⟨k, c, e, cellK x c e _ z⟩
  · obtain ⟨v, z⟩ := I.cell x c e
    exact ⟨v, cellK x c e v z⟩
  · obtain ⟨m, ⟨o, _, _, ho, _⟩, _⟩ := I.loc
    exact free _ o (fun z => (hch _ z).2.1 rfl) ho I.free
  · obtain ⟨v, o, ho, hd⟩ := I.cell x c e
    exact free c o (fun z => (hch c z).2.2.1 x c e rfl) ho (I.freeC x c e)
  · obtain ⟨e, n, ne, nf, d⟩ := I.pin p hp
    have nch : p.1 ∉ ch := fun z => (hch p.1 z).2.2.2 p hp rfl
    exact ⟨keep p.1 p.2 ne nf nch e n, free p.1 p.2 nch e n, ne, nf, d⟩
/-- .. where the frame's own object is kept too -/
theorem Inv.un {t' : Nat} (I : Inv X pins σ H s) (u : Un X.fs [] H H' s.heap h') (hok : HOk X.prog X.w H' h') : Inv X pins σ H' { s with heap := h', toks := t' } := by
  obtain ⟨m, ⟨o, es, ep, ho, r⟩, _⟩ := id I.loc
  obtain ⟨sl, hL⟩ := u.any ho I.free (by simp)
  exact I.step (g' := s.gens) (d' := s.drawn) (ch := []) (fun _ z => nomatch z) (fun b o _ hb _ e n => u.keep b o e n hb (by simp)) (fun b o _ hb _ e n => u.slot b o e n hb (by simp)) (fun b o _ e n => u.free b o e n (by simp)) (fun b o _ e => u.there b o e (by simp)) u.tups u.frzs u.tbls (fun m' hm => by
    obtain ⟨o', es', ep', ho', r'⟩ := hm
    rw [ho] at ho'; cases ho'
    exact ⟨_, es', ep', hL, r'⟩) hok I.bare
/-- behind a call (or a comprehension's block): the slots of this frame may have changed too, the records at ch may have turned -/
theorem Inv.call {g' : Array GenState} {t' : Nat} {d' : Drawn} {ch : List Addr} (I : Inv X pins σ H s) (u : Un (frs X.stack) ch H H' s.heap h') (hok : HOk X.prog X.w H' h') (hg : AllBare g')
    (hch : ∀ b ∈ ch, (b ∈ X.ex ∨ X.s₀.heap.objs.size ≤ b) ∧ b ≠ X.env.locals ∧ (∀ x c, X.env.cells.lookup x = some c → c ≠ b) ∧ ∀ p ∈ X.pn ++ pins, p.1 ≠ b) :
    Inv X pins σ H' { s with heap := h', gens := g', drawn := d', toks := t' } := by
  obtain ⟨m, ⟨o, es, ep, ho, r⟩, _⟩ := id I.loc
  obtain ⟨sl, hL⟩ := u.any ho I.free fun z => (hch _ z).2.1 rfl
  exact I.step (ch := ch) hch (fun b o hL hb hc e n => u.keep b o e n (fun z => (List.mem_cons.mp (I.stkSub b z)).elim hL hb) hc) (fun b o _ _ hc e n => u.any e n hc) (fun b o hc e n => u.free b o e n hc) (fun b o hc e => u.there b o e hc) u.tups u.frzs u.tbls (fun m' hm => by
    obtain ⟨o', es', ep', ho', r'⟩ := hm
    rw [ho] at ho'; cases ho'
    exact ⟨_, es', ep', hL, r'⟩) hok hg
/-- an untracked record of ours (an iterator) has turned -/
theorem Inv.turned {t' : Nat} {it : Addr} (I : Inv X pins σ H s) (k : ∀ b o, b ≠ it → s.heap.get? b = some o → h'.get? b = some o) (hn : H it = none) (hL : it ≠ X.env.locals)
    (h1 : it ∈ X.ex ∨ X.s₀.heap.objs.size ≤ it) (h2 : ∀ x c, X.env.cells.lookup x = some c → c ≠ it) (h3 : ∀ p ∈ X.pn ++ pins, p.1 ≠ it) : Inv X pins σ H { s with heap := h', toks := t' } := by
  have nit : ∀ b u, H b = some u → b ≠ it := fun b u e z => by rw [z, hn] at e; cases e
  refine I.step (g' := s.gens) (d' := s.drawn) (ch := [it]) (fun b hb => ?_) (fun b o _ _ hc e _ => k b o (fun z => hc (by simp [z])) e) (fun b o _ _ hc e _ => ⟨o.slots, k b o (fun z => hc (by simp [z])) e⟩) (fun _ _ _ _ n => n)
    (fun b o hc e => ⟨o, k b o (fun z => hc (by simp [z])) e⟩) (fun _ _ e => e) (fun _ _ _ e => e) (fun b ps e => ⟨#[], by rw [e]; simp⟩) (fun m hm => ?_) (fun b u e => ?_) I.bare
  · have e : b = it := by simpa using hb
    subst e
    exact ⟨h1, hL, h2, h3⟩
  · obtain ⟨o, es, ep, ho, r⟩ := hm
    exact ⟨o, es, ep, k _ o (Ne.symm hL) ho, r⟩
  · refine (I.hok b u e).stay (fun c v hc q => k c v ?_ q) (fun _ q => q) fun _ _ q => q
    rcases hc with z | z
    · rw [z]; exact nit b u e
    · exact nit c _ z
theorem Inv.tok (I : Inv X pins σ H s) (t : Nat) : Inv X pins σ H { s with toks := t } := I.un (h' := s.heap) (t' := t) Un.refl I.hok
/-- all objects kept -/
theorem Inv.kept {t' : Nat} (I : Inv X pins σ H s) (k : ∀ b u, s.heap.get? b = some u → h'.get? b = some u) : Inv X pins σ H { s with heap := h', toks := t' } := I.un (Un.kept k) (I.hok.kept k)
/-- a new object laid and tracked -/
theorem Inv.laid {a : Addr} {o : HO} {t' : Nat} (I : Inv X pins σ H s) (k : ∀ b u, s.heap.get? b = some u → h'.get? b = some u) (hp : s.heap.objs.size ≤ a) (new : ObjOk X.prog X.w (upd H a o) h' a o) :
    Inv X pins σ (upd H a o) { s with heap := h', toks := t' } := I.un (Un.laid k hp (I.hok.fresh hp)) (I.hok.laid k hp new)
/-- an object written -/
theorem Inv.write {x e : Addr} {o : HO} {t' : Nat} (I : Inv X pins σ H s) (mu : Mut (H x)) (he : e = x ∨ H e = some (.own x)) (k : ∀ b u, b ≠ e → s.heap.get? b = some u → h'.get? b = some u) (heo : ∃ u, h'.get? e = some u)
    (new : ObjOk X.prog X.w (upd H x o) h' x o) : Inv X pins σ (upd H x o) { s with heap := h', toks := t' } := I.un (Un.write mu he k heo) (I.hok.write mu he k heo new)
/-- forgetting slots, pins -/
theorem Inv.weak {σ' : List (Option V)} (I : Inv X pins σ H s) (hl : σ'.length = σ.length) (w : ∀ (i : Nat) v, σ'[i]? = some (some v) → σ[i]? = some (some v)) : Inv X pins σ' H s :=
  ⟨I.ok, I.os, I.bare, I.base, let ⟨m, hn, hl'⟩ := I.loc; ⟨m, hn, fun i x v e1 e2 e3 => hl' i x v e1 (w i v e2) e3⟩, I.cell, I.free, I.freeC, I.pin, I.hok, hl.trans I.len⟩
theorem Inv.pins_of {pins' : List (Addr × Obj)} (I : Inv X pins σ H s) (h : ∀ p ∈ pins', s.heap.get? p.1 = some p.2 ∧ H p.1 = none ∧ p.1 ≠ X.env.locals ∧ p.1 ∉ X.fs ∧ ∀ v, p.2.data ≠ .cell v) : Inv X pins' σ H s :=
  ⟨I.ok, I.os, I.bare, I.base, I.loc, I.cell, I.free, I.freeC, fun p hp => (List.mem_append.mp hp).elim (fun z => I.pin p (List.mem_append_left _ z)) (h p), I.hok, I.len⟩

theorem nodup_ix {N : List Str} (hN : N.Nodup) {i j : Nat} {x : Str} (a : N[i]? = some x) (b : N[j]? = some x) : i = j := by
  obtain ⟨h1, e1⟩ := List.getElem?_eq_some_iff.mp a
  obtain ⟨h2, e2⟩ := List.getElem?_eq_some_iff.mp b
  exact (List.getElem_inj hN).mp (e1.trans e2.symm)

/-- a name is stored; what changed -/
theorem store_ok2 {M : Model} {A : Around} {E : Value → Shared → Prop} {i : Nat} {x : Str} {v : V} {u : Value} {Q : Unit → Shared → Prop} (I : Inv X pins σ H s) (hN : X.N.Nodup) (hi : X.N[i]? = some x) (hx : Loc X.env.scope x) (r : RelV v u)
    (h : ∀ s', Inv X pins (σ.set i (some v)) H s' → (∃ a, Heap.SameBut a s.heap s'.heap ∧ (a = X.env.locals ∨ X.env.cells.lookup x = some a)) → Q () s') (hf : X.fn x = true ∨ X.env.scope.names.lookup x = some .local := by first | exact .inl rfl | exact .inr rfl | assumption) : wpAny M A (storeName X.env x u) Q E s := by
  obtain ⟨m, hn, hl⟩ := id I.loc
  have hcls : (X.env.scope.kind == .class || (X.env.scope.kind == .module && X.env.locals != X.env.globals)) = false := by rw [I.ok.kind]; rfl
  have hiσ : i < σ.length := by rw [I.len]; exact (List.getElem?_eq_some_iff.mp hi).1
  have cne := I.cne
  have tracked : ∀ {a : Addr} {h' : Heap}, (∃ o, s.heap.get? a = some o ∧ H a = none) → Heap.SameBut a s.heap h' → HOk X.prog X.w H h' := fun {a h'} ha hs b ob e => by
    obtain ⟨_, _, hfree⟩ := ha
    refine (I.hok b ob e).stay (fun c w' hc q => (hs.2 c ?_).trans q) (fun _ q => q) fun _ _ q => q
    rintro rfl
    rcases hc with rfl | hc
    · rw [hfree] at e; cases e
    · rw [hfree] at hc; cases hc
  rcases hx with hk | hk
  · refine wpAny_storeName_local hk hn (fun h' hn' hs => ?_) hcls
    obtain ⟨oL, _, _, hoL, _⟩ := id hn
    refine h _ ⟨I.ok, I.os, I.bare, ⟨fun b o e n hb hx => ?_, fun b o e n hb hx => ?_, I.base.free, fun b o e hx => ?_, I.base.tups, I.base.frzs, I.base.tbls⟩, ⟨_, hn', fun j y v' e1 e2 e3 => ?_⟩, fun y c e => ?_, I.free, I.freeC, fun p hp => ?_, tracked ⟨oL, hoL, I.free⟩ hs, by simpa using I.len⟩ ⟨_, hs, .inl rfl⟩
    · exact (hs.2 b (Nat.ne_of_lt (Nat.lt_of_lt_of_le (Heap.lt_size e) I.ok.above))).trans (I.base.keep b o e n hb hx)
    · obtain ⟨sl, e1⟩ := I.base.slot b o e n hb hx
      exact ⟨sl, (hs.2 b (Nat.ne_of_lt (Nat.lt_of_lt_of_le (Heap.lt_size e) I.ok.above))).trans e1⟩
    · obtain ⟨o', e1⟩ := I.base.there b o e hx
      exact ⟨o', (hs.2 b (Nat.ne_of_lt (Nat.lt_of_lt_of_le (Heap.lt_size e) I.ok.above))).trans e1⟩
    · by_cases hj : j = i
      · subst hj
        rw [hi] at e1; cases e1
        rw [List.getElem?_set_self hiσ] at e2
        cases e2
        exact ⟨u, r, .inl ⟨hk, by simp⟩⟩
      · rw [List.getElem?_set_ne (Ne.symm hj)] at e2
        obtain ⟨u', r', q⟩ := hl j y v' e1 e2 e3
        refine ⟨u', r', ?_⟩
        rcases q with ⟨k, e⟩ | ⟨k, c, e, z⟩
        · refine .inl ⟨k, ?_⟩
          have : y ≠ x := fun e => hj (nodup_ix hN e1 (e ▸ hi))
          simp [this, e]
        · exact .inr ⟨k, c, e, z.sameBut hs (cne y c e)⟩
    · obtain ⟨w', z⟩ := I.cell y c e
      exact ⟨w', z.sameBut hs (cne y c e)⟩
    · obtain ⟨e, n, ne, nf, d⟩ := I.pin p hp
      exact ⟨(hs.2 p.1 ne).trans e, n, ne, nf, d⟩
  · have hfn : X.fn x = true := by
      rcases hf with z | z
      · exact z
      · rw [z] at hk; cases hk
    obtain ⟨c, hc⟩ := I.ok.has x (.inl hk)
    obtain ⟨w', z⟩ := I.cell x c hc
    refine wpAny_storeName_cell I.ok.kind hk hc z (fun h' hc' hs => ?_)
    obtain ⟨oc, hoc, hocd⟩ := id z
    refine h { s with heap := h' } ⟨I.ok, I.os, I.bare, ⟨fun b o e n hb hx => ?_, fun b o e n hb hx => ?_, I.base.free, fun b o e hx => ?_, I.base.tups, I.base.frzs, I.base.tbls⟩, ⟨m, hn.sameBut hs (Ne.symm (cne x c hc)), fun j y v' e1 e2 e3 => ?_⟩, fun y c' e => ?_, I.free, I.freeC, fun p hp => ?_, tracked ⟨oc, hoc, I.freeC x c hc⟩ hs, by simpa using I.len⟩ ⟨c, hs, .inr hc⟩
    · exact (hs.2 b (Nat.ne_of_lt (Nat.lt_of_lt_of_le (Heap.lt_size e) (I.ok.cab x c hfn hc)))).trans (I.base.keep b o e n hb hx)
    · obtain ⟨sl, e1⟩ := I.base.slot b o e n hb hx
      exact ⟨sl, (hs.2 b (Nat.ne_of_lt (Nat.lt_of_lt_of_le (Heap.lt_size e) (I.ok.cab x c hfn hc)))).trans e1⟩
    · obtain ⟨o', e1⟩ := I.base.there b o e hx
      exact ⟨o', (hs.2 b (Nat.ne_of_lt (Nat.lt_of_lt_of_le (Heap.lt_size e) (I.ok.cab x c hfn hc)))).trans e1⟩
    · by_cases hj : j = i
      · subst hj
        rw [hi] at e1; cases e1
        rw [List.getElem?_set_self hiσ] at e2
        cases e2
        exact ⟨u, r, .inr ⟨.inl hk, c, hc, hc'⟩⟩
      · rw [List.getElem?_set_ne (Ne.symm hj)] at e2
        obtain ⟨u', r', q⟩ := hl j y v' e1 e2 e3
        refine ⟨u', r', ?_⟩
        rcases q with q | ⟨k, c', e, z'⟩
        · exact .inl q
        · refine .inr ⟨k, c', e, z'.sameBut hs ?_⟩
          rintro rfl
          exact hj (nodup_ix hN e1 (I.ok.inj _ _ _ e hc ▸ hi))
    · by_cases hcc : c' = c
      · subst hcc; exact ⟨_, hc'⟩
      · obtain ⟨w2, z2⟩ := I.cell y c' e
        exact ⟨w2, z2.sameBut hs hcc⟩
    · obtain ⟨e, n, ne, nf, d⟩ := I.pin p hp
      refine ⟨(hs.2 p.1 ?_).trans e, n, ne, nf, d⟩
      intro q
      rw [q, hoc] at e
      have q' : oc = p.2 := Option.some.inj e
      exact d w' (by rw [← q']; exact hocd)
theorem store_ok {M : Model} {A : Around} {E : Value → Shared → Prop} {i : Nat} {x : Str} {v : V} {u : Value} {Q : Unit → Shared → Prop} (I : Inv X pins σ H s) (hN : X.N.Nodup) (hi : X.N[i]? = some x) (hx : Loc X.env.scope x) (r : RelV v u)
    (h : ∀ s', Inv X pins (σ.set i (some v)) H s' → Q () s') (hf : X.fn x = true ∨ X.env.scope.names.lookup x = some .local := by first | exact .inl rfl | exact .inr rfl | assumption) : wpAny M A (storeName X.env x u) Q E s :=
  store_ok2 I hN hi hx r (fun s' I' _ => h s' I') hf
/-- behind a call or a block, the state as it is -/
theorem Inv.call' {s' : Shared} {ch : List Addr} (I : Inv X pins σ H s) (ho : s'.os = s.os) (u : Un (frs X.stack) ch H H' s.heap s'.heap) (hok : HOk X.prog X.w H' s'.heap) (hg : AllBare s'.gens)
    (hch : ∀ b ∈ ch, (b ∈ X.ex ∨ X.s₀.heap.objs.size ≤ b) ∧ b ≠ X.env.locals ∧ (∀ x c, X.env.cells.lookup x = some c → c ≠ b) ∧ ∀ p ∈ X.pn ++ pins, p.1 ≠ b) : Inv X pins σ H' s' := by
  obtain ⟨h', g', d', t', o'⟩ := s'
  have e : o' = s.os := ho
  subst e
  exact I.call (g' := g') (t' := t') (d' := d') u hok hg hch
end

/-! ### the judgements -/
/-- an exception: its class, its own dict's address (where it has one), the abstract heap behind it -/
abbrev XK := Value → Option Addr → Hp → Prop
abbrev St := List (Option V)
abbrev VK := V → Hp → Prop
/-- an expression's reading; a test's; an argument list's -/
abbrev TE := St → Hp → VK → Prop
abbrev TT := St → Hp → (Bool → Hp → Prop) → Prop
abbrev TA := St → Hp → (List V → Hp → Prop) → Prop
/-- what is wanted behind a statement -/
structure Ends where
  nx : St → Hp → Prop
  rt : VK
  bk : St → Hp → Prop := fun _ _ => False
  ct : St → Hp → Prop := fun _ _ => False
abbrev TS := Ends → St → Hp → Prop

def EP (X : Cx) (pins : List (Addr × Obj)) (σ : St) (Q : VK) (u : Value) (s' : Shared) : Prop := ∃ v H', Inv X pins σ H' s' ∧ RelV v u ∧ Q v H'
def TP (X : Cx) (pins : List (Addr × Obj)) (σ : St) (Q : Bool → Hp → Prop) (b : Bool) (s' : Shared) : Prop := ∃ H', Inv X pins σ H' s' ∧ Q b H'
def AP (X : Cx) (pins : List (Addr × Obj)) (σ : St) (Q : List V → Hp → Prop) (us : List Value) (s' : Shared) : Prop := ∃ vs H', Inv X pins σ H' s' ∧ Vals vs us ∧ Q vs H'
def SP (X : Cx) (pins : List (Addr × Obj)) (D : Ends) (f : Flow) (s' : Shared) : Prop :=
  match f with
  | .next => ∃ σ' H', Inv X pins σ' H' s' ∧ D.nx σ' H'
  | .brk => ∃ σ' H', Inv X pins σ' H' s' ∧ D.bk σ' H'
  | .cont => ∃ σ' H', Inv X pins σ' H' s' ∧ D.ct σ' H'
  | .ret u => ∃ v σ' H', Inv X pins σ' H' s' ∧ RelV v u ∧ D.rt v H'

def PE (X : Cx) (e : Expr) (t : TE) : Prop :=
  ∀ (pins : List (Addr × Obj)) (s : Shared) (σ : St) (H : Hp) (Q : VK), Inv X pins σ H s → t σ H Q → wpAny (model X.prog X.w) X.A (eval e X.env) (EP X pins σ Q) X.xe s
def PT (X : Cx) (e : Expr) (t : TT) : Prop :=
  ∀ (pins : List (Addr × Obj)) (s : Shared) (σ : St) (H : Hp) (Q : Bool → Hp → Prop), Inv X pins σ H s → t σ H Q → wpAny (model X.prog X.w) X.A (isTrue e X.env (eval e X.env)) (TP X pins σ Q) X.xe s
/-- a test whatever its 'whole' is (and, or) -/
def PW (X : Cx) (e : Expr) (t : TT) : Prop :=
  ∀ (whole : Sem Value) (pins : List (Addr × Obj)) (s : Shared) (σ : St) (H : Hp) (Q : Bool → Hp → Prop), Inv X pins σ H s → t σ H Q → wpAny (model X.prog X.w) X.A (isTrue e X.env whole) (TP X pins σ Q) X.xe s
theorem PW.pt {X : Cx} {e : Expr} {t : TT} (h : PW X e t) : PT X e t := h _
/-- an argument list (no star), from the left -/
def PA (X : Cx) (es : List Expr) (t : TA) : Prop :=
  ∀ (pos : Pos) (pins : List (Addr × Obj)) (s : Shared) (σ : St) (H : Hp) (Q : List V → Hp → Prop), Inv X pins σ H s → t σ H Q → wpAny (model X.prog X.w) X.A (spliced (backTo pos (starEach es X.env))) (AP X pins σ Q) X.xe s
def PS (X : Cx) (st : Stmt) (t : TS) : Prop :=
  ∀ (pins : List (Addr × Obj)) (s : Shared) (σ : St) (H : Hp) (D : Ends), Inv X pins σ H s → t D σ H → wpAny (model X.prog X.w) X.A (exec st X.env) (SP X pins D) X.xe s
def PSs (X : Cx) (st : List Stmt) (t : TS) : Prop :=
  ∀ (pins : List (Addr × Obj)) (s : Shared) (σ : St) (H : Hp) (D : Ends), Inv X pins σ H s → t D σ H → wpAny (model X.prog X.w) X.A (execs st X.env) (SP X pins D) X.xe s
/-- weaken the end -/
theorem thn {α : Type} {t : Sem α} {Q Q' : α → Shared → Prop} {M : Model} {A : Around} {E : Value → Shared → Prop} {s : Shared} (h : wpAny M A t Q E s) (hQ : ∀ a s, Q a s → Q' a s) : wpAny M A t Q' E s := wpAny_mono h hQ fun _ _ x => x
end L2

namespace L2
open PySem PySem.Spec PyProof.Rows
section
variable {X : Cx}

/-! ### names and constants -/
def tVar (i : Nat) : TE := fun σ H Q => ∃ v, σ[i]? = some (some v) ∧ Q v H
def tC (v : V) : TE := fun _ H Q => Q v H
theorem pe_var {i : Nat} {x : Str} {pos : Pos} (hN : X.N[i]? = some x) (hv : Vis X.env.scope x) (hd : (x == ("__debug__" : Str)) = false := by decide) (hcd : (x == ("__classdict__" : Str)) = false := by decide) : PE X (.Name x pos) (tVar i) := by
  intro pins s σ H Q I h
  obtain ⟨v, e, h⟩ := h
  obtain ⟨m, hn, hl⟩ := I.loc
  obtain ⟨u, r, l⟩ := hl i x v hN e hv
  have fin : EP X pins σ Q u s := ⟨v, H, I, r, h⟩
  rcases l with ⟨hk, hm⟩ | ⟨hk, c, hc, hcell⟩
  · exact wpAny_Name (wpAny_loadName_local I.ok.kind hk hn hm fin) hd
  · rcases hk with hk | hk
    · exact wpAny_Name (wpAny_loadName_cell I.ok.kind hk hc hcell fin) hd
    · exact wpAny_Name (wpAny_loadName_free I.ok.kind hk hc hcell fin hcd) hd
theorem pe_int {i j pos} : PE X (.Constant (.int i) j pos) (tC (.int i)) := fun _ _ _ H _ I h => wpAny_Constant_int ⟨.int i, H, I.tok _, ⟨_, rfl⟩, h⟩
theorem pe_bl {b j pos} : PE X (.Constant (.bool b) j pos) (tC (.bl b)) := fun _ _ _ H _ I h => Constant_bool ⟨.bl b, H, I, rfl, h⟩
theorem pe_str {x j pos} : PE X (.Constant (.str x) j pos) (tC (.str x)) := fun _ _ _ H _ I h => Calls.Constant_str ⟨.str x, H, I.tok _, ⟨_, rfl⟩, h⟩

/-- a global name of the def -/
def Gl (X : Cx) (x : Str) : Prop := X.env.kindOf x = some .globalImplicit
theorem ld_glob {E : Value → Shared → Prop} {pins : List (Addr × Obj)} {s : Shared} {σ : St} {H : Hp} {x : Str} {u : Value} {pos : Pos} {Q : Value → Shared → Prop} (I : Inv X pins σ H s) (hg : Gl X x) (hm : X.mg x = some u) (h : Q u s)
    (hd : (x == ("__debug__" : Str)) = false := by decide) : wpAny (model X.prog X.w) X.A (eval (.Name x pos) X.env) Q E s :=
  Calls.Name_function_global I.ok.kind hg (Calls.loadGlobal_global (by rw [I.ok.glob]; exact I.mod.glob.keeps I.bk) hm h) hd
theorem ld_blt {E : Value → Shared → Prop} {pins : List (Addr × Obj)} {s : Shared} {σ : St} {H : Hp} {x : Str} {u : Value} {pos : Pos} {Q : Value → Shared → Prop} (I : Inv X pins σ H s) (hg : Gl X x) (hm : X.mg x = none) (hv : bootBuiltins x = some u) (h : Q u s)
    (hn : x ≠ "__name__" := by decide) (hd : (x == ("__debug__" : Str)) = false := by decide) : wpAny (model X.prog X.w) X.A (eval (.Name x pos) X.env) Q E s := by
  obtain ⟨mb, h1, h2⟩ := I.mod.blt
  exact Calls.Name_function_global I.ok.kind hg (Calls.loadGlobal_builtin (by rw [I.ok.glob]; exact I.mod.glob.keeps I.bk) hm (by rw [I.ok.blt]; exact h1.keeps I.bk) ((h2 x hn).trans hv) h) hd
/-- a module's constant, a class, a function, as a value -/
theorem pe_glob {x : Str} {v : V} {u : Value} {pos : Pos} (hg : Gl X x) (hm : X.mg x = some u) (r : RelV v u) (hd : (x == ("__debug__" : Str)) = false := by decide) : PE X (.Name x pos) (tC v) :=
  fun _ _ _ H _ I h => ld_glob I hg hm ⟨v, H, I, r, h⟩ hd
theorem pe_bltn {x : Str} {v : V} {u : Value} {pos : Pos} (hg : Gl X x) (hm : X.mg x = none) (hv : bootBuiltins x = some u) (r : RelV v u) (hn : x ≠ "__name__" := by decide) (hd : (x == ("__debug__" : Str)) = false := by decide) : PE X (.Name x pos) (tC v) :=
  fun _ _ _ H _ I h => ld_blt I hg hm hv ⟨v, H, I, r, h⟩ hn hd

/-! ### arithmetic -/
variable {a b : Expr} {ta tb : TE} {pos : Pos}
/-! ### comparisons -/
/-- a comparison as a value, as a test -/
def tB (t : TE) : TT := fun σ H Q => t σ H fun x H1 => ∃ c, x = .bl c ∧ Q c H1
/-- an expression whose value is a bool, as a test -/
theorem pt_val {e : Expr} {t : TE} (h : PE X e t) (he : ∀ whole, isTrue e X.env whole = (do let v ← whole; standAt e.pos; holding [v] (truthy v)) := by intro _; rfl) : PT X e (tB t) := by
  intro pins s σ H Q I hw
  refine isTrue_plain (thn (h pins s σ H _ I hw) fun v s1 ⟨x, H1, I1, r1, q1⟩ => ?_) (he _)
  obtain ⟨d, rfl, q⟩ := q1
  cases r1
  exact wpAny_truthy_bool ⟨H1, I1, q⟩

/-! ### and, or, not -/
variable {tA tB' : TT} {rest : List Expr}
def tAnd (t u : TT) : TT := fun σ H Q => t σ H fun c H1 => if c = true then u σ H1 Q else Q false H1
def tOr (t u : TT) : TT := fun σ H Q => t σ H fun c H1 => if c = true then Q true H1 else u σ H1 Q
def tNot (t : TT) : TT := fun σ H Q => t σ H fun c H1 => Q (!c) H1
theorem pw_and1 (ha : PT X a tA) : PW X (.BoolOp .And [a] pos) tA := by
  intro wh pins s σ H Q I h
  refine isTrue_and (thn (ha pins s σ H Q I h) fun c s1 e => ?_)
  cases c with
  | true => exact isTrue_and_nil e
  | false => exact e
theorem pw_or1 (ha : PT X a tA) : PW X (.BoolOp .Or [a] pos) tA := by
  intro wh pins s σ H Q I h
  refine isTrue_or (thn (ha pins s σ H Q I h) fun c s1 e => ?_)
  cases c with
  | false => exact isTrue_or_nil e
  | true => exact e
theorem pw_and (ha : PT X a tA) (hb : PW X (.BoolOp .And (b :: rest) pos) tB') : PW X (.BoolOp .And (a :: b :: rest) pos) (tAnd tA tB') := by
  intro wh pins s σ H Q I h
  refine isTrue_and (thn (ha pins s σ H _ I h) fun c s1 ⟨H1, I1, q1⟩ => ?_)
  cases c with
  | true => exact hb wh pins s1 σ H1 Q I1 q1
  | false => exact ⟨H1, I1, q1⟩
theorem pw_or (ha : PT X a tA) (hb : PW X (.BoolOp .Or (b :: rest) pos) tB') : PW X (.BoolOp .Or (a :: b :: rest) pos) (tOr tA tB') := by
  intro wh pins s σ H Q I h
  refine isTrue_or (thn (ha pins s σ H _ I h) fun c s1 ⟨H1, I1, q1⟩ => ?_)
  cases c with
  | true => exact ⟨H1, I1, q1⟩
  | false => exact hb wh pins s1 σ H1 Q I1 q1
theorem pt_not (ha : PT X a tA) : PT X (.UnaryOp .Not a pos) (tNot tA) := by
  intro pins s σ H Q I h
  exact isTrue_not (ha pins s σ H (fun c H1 => Q (!c) H1) I h)
def tOrV (ta tb : TE) : TE := fun σ H Q => ta σ H fun x H1 => ∃ c, x = .bl c ∧ if c = true then Q (.bl true) H1 else tb σ H1 Q
theorem pe_one {op} {t : TE} (h : PE X a t) : PE X (.BoolOp op [a] pos) t := fun pins s σ H Q I hw => BoolOp_one (h pins s σ H Q I hw)
theorem pe_or (ha : PE X a ta) (hb : PE X (.BoolOp .Or (b :: rest) pos) tb) : PE X (.BoolOp .Or (a :: b :: rest) pos) (tOrV ta tb) := by
  intro pins s σ H Q I h
  refine BoolOp_or (thn (ha pins s σ H _ I h) fun v s1 ⟨x, H1, I1, r1, q1⟩ => ?_)
  obtain ⟨c, rfl, q1⟩ := q1
  cases r1
  refine wpAny_truthy_bool ?_
  cases c with
  | false => exact hb pins s1 σ H1 Q I1 q1
  | true => exact ⟨.bl true, H1, I1, rfl, q1⟩
/-- a if t else b -/
def tIf (t : TT) (ta tb : TE) : TE := fun σ H Q => t σ H fun c H1 => if c = true then ta σ H1 Q else tb σ H1 Q
theorem pe_ifExp {c : Expr} (hc : PT X c tA) (ha : PE X a ta) (hb : PE X b tb) : PE X (.IfExp c a b pos) (tIf tA ta tb) := by
  intro pins s σ H Q I h
  refine wpAny_IfExp (thn (hc pins s σ H _ I h) fun d s1 ⟨H1, I1, q1⟩ => ?_)
  cases d with
  | true => exact ha pins s1 σ H1 Q I1 q1
  | false => exact hb pins s1 σ H1 Q I1 q1
end
end L2

namespace L2
open PySem PySem.Spec PyProof.Rows

/-! ### a list, a tuple that is read: tracked, frozen, or an object of the module -/
def SqL (K : PySem.W.Frag) (H : Hp) (a : Addr) (xs : List V) : Prop :=
  Rd H a (.lst xs) ∨
    ∃ (o : Obj) (its : Array Value) (n : Nat), K.lookup a = some o ∧ o.cls = .type "list" ∧ o.dict = none ∧ o.data = .seq its n ∧ its.size ≤ sizeLine ∧ Vals xs its.toList
def SqT (K : PySem.W.Frag) (H : Hp) (a : Addr) (xs : List V) : Prop :=
  Rd H a (.tup xs) ∨
    ∃ (o : Obj) (its : Array Value) (n : Nat), K.lookup a = some o ∧ o.cls = .type "tuple" ∧ o.data = .seq its n ∧ its.size ≤ sizeLine ∧ Vals xs its.toList
def absV : Value → Option V
  | .none => some .non
  | .bool b => some (.bl b)
  | .int i _ => some (.int i)
  | .str x _ => some (.str x)
  | .bytes b _ => some (.byt b)
  | .float b _ => some (.flt b)
  | .ref a => some (.ref a)
  | .type n => some (.ty n)
  | _ => none
theorem RelV.abs {x : V} {u : Value} (r : RelV x u) : absV u = some x := by
  cases x with
  | non => cases r; rfl
  | bl _ => cases r; rfl
  | int _ => obtain ⟨t, rfl⟩ := r; rfl
  | str _ => obtain ⟨t, rfl⟩ := r; rfl
  | byt _ => obtain ⟨t, rfl⟩ := r; rfl
  | flt _ => obtain ⟨t, rfl⟩ := r; rfl
  | ref _ => cases r; rfl
  | ty _ => cases r; rfl
theorem RelV.inj {x y : V} {u : Value} (r : RelV x u) (q : RelV y u) : x = y := Option.some.inj (r.abs.symm.trans q.abs)
theorem Vals.inj : ∀ {xs ys : List V} {us : List Value}, Vals xs us → Vals ys us → xs = ys
  | _, _, _, .nil, .nil => rfl
  | _, _, _, .cons r t, .cons r' t' => by rw [r.inj r', Vals.inj t t']
section
variable {X : Cx} {pins : List (Addr × Obj)} {σ : St} {H : Hp} {s : Shared} {a : Addr} {xs ys : List V}
theorem SqL.of {K : PySem.W.Frag} (h : H a = some (.lst xs)) : SqL K H a xs := .inl (.inl h)
theorem SqT.of {K : PySem.W.Frag} (h : H a = some (.tup xs)) : SqT K H a xs := .inl (.inl h)
theorem Inv.list (I : Inv X pins σ H s) (h : SqL X.K H a xs) : ∃ its : List Value, Vals xs its ∧ PlainL s.heap a its.toArray ∧ xs.length ≤ sizeLine := by
  rcases h with h | ⟨o, its, n, hk, hc, hd, hs, hz, r⟩
  · obtain ⟨z, its, n, r, e⟩ := h.ok I.hok
    exact ⟨its, r, ⟨_, n, e, rfl, rfl, rfl⟩, z⟩
  · refine ⟨its.toList, r, ⟨o, n, I.kIn a o hk, hc, hd, by simpa using hs⟩, ?_⟩
    have e := r.length
    simp only [Array.length_toList] at e
    omega
theorem Inv.tuple (I : Inv X pins σ H s) (h : SqT X.K H a xs) : ∃ its : List Value, Vals xs its ∧ IsTup s.heap a its.toArray ∧ xs.length ≤ sizeLine := by
  rcases h with h | ⟨o, its, n, hk, hc, hs, hz, r⟩
  · obtain ⟨z, its, r, p⟩ := h.ok I.hok
    exact ⟨its, r, p, z⟩
  · refine ⟨its.toList, r, ⟨o, I.kIn a o hk, hc, n, by simpa using hs⟩, ?_⟩
    have e := r.length
    simp only [Array.length_toList] at e
    omega
theorem Inv.list_inj (I : Inv X pins σ H s) (h : SqL X.K H a xs) (h' : SqL X.K H a ys) : xs = ys := by
  obtain ⟨its, r, ⟨o, n, e, _, _, d⟩, _⟩ := I.list h
  obtain ⟨its', r', ⟨o', n', e', _, _, d'⟩, _⟩ := I.list h'
  rw [e] at e'; cases e'
  rw [d] at d'
  injection d' with d1 _
  have : its = its' := by simpa using congrArg Array.toList d1
  subst this
  exact r.inj r'
theorem Inv.tuple_inj (I : Inv X pins σ H s) (h : SqT X.K H a xs) (h' : SqT X.K H a ys) : xs = ys := by
  obtain ⟨its, r, ⟨o, e, _, n, d⟩, _⟩ := I.tuple h
  obtain ⟨its', r', ⟨o', e', _, n', d'⟩, _⟩ := I.tuple h'
  rw [e] at e'; cases e'
  rw [d] at d'
  injection d' with d1 _
  have : its = its' := by simpa using congrArg Array.toList d1
  subst this
  exact r.inj r'
end

/-! ### another wish about exceptions -/
abbrev Cx.wish (X : Cx) (E : Value → Shared → Prop) : Cx := { X with xe := E }
/-- no exception leaves -/
abbrev Cx.nox (X : Cx) : Cx := X.wish fun _ _ => False
theorem Cx.Ok.wish {X : Cx} (ok : X.Ok) (E : Value → Shared → Prop) : (X.wish E).Ok :=
  ⟨ok.mod, ok.kind, ok.glob, ok.blt, ok.above, ok.inj, ok.has, ok.cab, ok.hd, ok.frames, ok.stk, ok.exf, ok.bs, ok.bsz, ok.noex, ok.exfs, ok.funs, ok.frf⟩
theorem Cx.Ok.unwish {X : Cx} {E : Value → Shared → Prop} (ok : (X.wish E).Ok) : X.Ok :=
  ⟨ok.mod, ok.kind, ok.glob, ok.blt, ok.above, ok.inj, ok.has, ok.cab, ok.hd, ok.frames, ok.stk, ok.exf, ok.bs, ok.bsz, ok.noex, ok.exfs, ok.funs, ok.frf⟩
section
variable {X : Cx} {pins : List (Addr × Obj)} {σ : St} {H : Hp} {s : Shared} {E : Value → Shared → Prop}
theorem Inv.wish (I : Inv X pins σ H s) (E : Value → Shared → Prop) : Inv (X.wish E) pins σ H s := ⟨I.ok.wish E, I.os, I.bare, I.base, I.loc, I.cell, I.free, I.freeC, I.pin, I.hok, I.len⟩
theorem Inv.unwish (I : Inv (X.wish E) pins σ H s) : Inv X pins σ H s := ⟨I.ok.unwish, I.os, I.bare, I.base, I.loc, I.cell, I.free, I.freeC, I.pin, I.hok, I.len⟩
theorem SP.unwish {D : Ends} {f : Flow} {s' : Shared} (h : SP (X.wish E) pins D f s') : SP X pins D f s' := by
  cases f with
  | next => obtain ⟨σ', H', I, q⟩ := h; exact ⟨σ', H', I.unwish, q⟩
  | brk => obtain ⟨σ', H', I, q⟩ := h; exact ⟨σ', H', I.unwish, q⟩
  | cont => obtain ⟨σ', H', I, q⟩ := h; exact ⟨σ', H', I.unwish, q⟩
  | ret u => obtain ⟨v, σ', H', I, r, q⟩ := h; exact ⟨v, σ', H', I.unwish, r, q⟩
theorem PSs.nox {st : List Stmt} {t : TS} (h : PSs X.nox st t) : PSs X st t := fun pins s σ H D I hw =>
  wpAny_mono (h pins s σ H D (I.wish _) hw) (fun _ _ q => q.unwish) fun _ _ z => False.elim z
end

/-! ### blocks and small statements -/
section
variable {X : Cx} {st : Stmt} {rest : List Stmt} {t u : TS} {e : Expr} {te : TE} {pos : Pos}
def tNext : TS := fun D σ H => D.nx σ H
def tSeq (t u : TS) : TS := fun D σ H => t { D with nx := u D } σ H
theorem pss_nil : PSs X [] tNext := fun _ _ σ H _ I h => wpAny_execs_nil ⟨σ, H, I, h⟩
theorem pss_cons (h1 : PS X st t) (h2 : PSs X rest u) : PSs X (st :: rest) (tSeq t u) := by
  intro pins s σ H D I h
  refine wpAny_execs_cons (thn (h1 pins s σ H { D with nx := u D } I h) fun f s1 q => ?_)
  cases f with
  | next =>
    obtain ⟨σ', H', I', q⟩ := q
    exact h2 pins s1 σ' H' D I' q
  | ret v => exact q
  | brk => exact q
  | cont => exact q
theorem pss_one (h1 : PS X st t) : PSs X [st] t := by
  intro pins s σ H D I h
  refine wpAny_execs_cons (thn (h1 pins s σ H D I h) fun f s1 q => ?_)
  cases f with
  | next => exact wpAny_execs_nil q
  | ret v => exact q
  | brk => exact q
  | cont => exact q
/-- in a def's body nothing is shown -/
theorem Inv.quiet {pins : List (Addr × Obj)} {σ : St} {H : Hp} {s : Shared} (I : Inv X pins σ H s) : interactive X.env = false := by simp [interactive, I.ok.kind]
/-- an expression whose value is dropped -/
def tDrop (te : TE) : TS := fun D σ H => te σ H fun _ H1 => D.nx σ H1
theorem ps_expr (he : PE X e te) (hs : swapsWith e none pos.line X.env = pure false := by rfl) : PS X (.Expr e pos) (tDrop te) := by
  intro pins s σ H D I h
  exact wpAny_Expr_any (thn (he pins s σ H _ I h) fun v s1 ⟨x, H1, I1, r1, q1⟩ => ⟨σ, H1, I1, q1⟩) I.quiet hs
def tRet (te : TE) : TS := fun D σ H => te σ H D.rt
theorem ps_ret (he : PE X e te) : PS X (.Return (some e) pos) (tRet te) := by
  intro pins s σ H D I h
  exact wpAny_Return_some (thn (he pins s σ H _ I h) fun v s1 ⟨x, H1, I1, r1, q1⟩ => ⟨x, σ, H1, I1, r1, q1⟩)
def tIfS (c : TT) (t u : TS) : TS := fun D σ H => c σ H fun b H1 => if b = true then t D σ H1 else u D σ H1
theorem ps_if {c : Expr} {a b : List Stmt} {tc : TT} (hc : PT X c tc) (ha : PSs X a t) (hb : PSs X b u) : PS X (.If c a b pos) (tIfS tc t u) := by
  intro pins s σ H D I h
  refine wpAny_If (thn (hc pins s σ H _ I h) fun d s1 ⟨H1, I1, q1⟩ => ?_)
  cases d with
  | true => exact ha pins s1 σ H1 D I1 q1
  | false => exact hb pins s1 σ H1 D I1 q1
end

/-! ### targets -/
abbrev TG := V → St → Hp → (St → Hp → Prop) → Prop
abbrev TGs := List V → St → Hp → (St → Hp → Prop) → Prop
def PG (X : Cx) (target : Expr) (t : TG) : Prop :=
  ∀ (pins : List (Addr × Obj)) (s : Shared) (σ : St) (H : Hp) (v : V) (u : Value) (Q : St → Hp → Prop), Inv X pins σ H s → RelV v u → t v σ H Q →
    wpAny (model X.prog X.w) X.A (assign target X.env u) (fun _ s' => ∃ σ' H', Inv X pins σ' H' s' ∧ Q σ' H') X.xe s
/-- several targets, one after another -/
def PGs (X : Cx) (ts : List Expr) (t : TGs) : Prop :=
  ∀ (pins : List (Addr × Obj)) (s : Shared) (σ : St) (H : Hp) (vs : List V) (us : List Value) (Q : St → Hp → Prop), Inv X pins σ H s → Vals vs us → t vs σ H Q →
    wpAny (model X.prog X.w) X.A (assignInOrder ((assignEach ts X.env).map (·.2)) us) (fun _ s' => ∃ σ' H', Inv X pins σ' H' s' ∧ Q σ' H') X.xe s
/-- o[i] = v, by values -/
abbrev TSet := V → V → V → Hp → (Hp → Prop) → Prop
def PSet (X : Cx) (t : TSet) : Prop :=
  ∀ (pins : List (Addr × Obj)) (s : Shared) (σ : St) (H : Hp) (o i v : V) (ov iv u : Value) (Q : Hp → Prop), Inv X pins σ H s → RelV o ov → RelV i iv → RelV v u → t o i v H Q →
    wpAny (model X.prog X.w) X.A (setItem ov iv u) (fun _ s' => ∃ H', Inv X pins σ H' s' ∧ Q H') X.xe s
section
variable {X : Cx} {pos : Pos}
def gName (i : Nat) : TG := fun v σ H Q => Q (σ.set i (some v)) H
theorem pg_name {i : Nat} {x : Str} (hN : X.N.Nodup) (hi : X.N[i]? = some x) (hx : Loc X.env.scope x) (hf : X.fn x = true ∨ X.env.scope.names.lookup x = some .local := by first | exact .inl rfl | exact .inr rfl | assumption) : PG X (.Name x pos) (gName i) := by
  intro pins s σ H v u Q I r h
  exact wpAny_assign_Name (store_ok I hN hi hx r (fun s' I' => ⟨_, H, I', h⟩) hf)
def gNil : TGs := fun vs σ H Q => vs = [] ∧ Q σ H
def gCons (t : TG) (u : TGs) : TGs := fun vs σ H Q => ∃ v r, vs = v :: r ∧ t v σ H fun σ' H' => u r σ' H' Q
theorem pgs_nil : PGs X [] gNil := by
  intro pins s σ H vs us Q I r h
  obtain ⟨e, h⟩ := h
  subst e
  cases r
  exact assignInOrder_nil ⟨σ, H, I, h⟩
theorem pgs_cons {e : Expr} {es : List Expr} {t : TG} {u : TGs} (h1 : PG X e t) (h2 : PGs X es u)
    (hs : (assignEach (e :: es) X.env).map (·.2) = assign e X.env :: (assignEach es X.env).map (·.2) := by rfl) : PGs X (e :: es) (gCons t u) := by
  intro pins s σ H vs us Q I r h
  obtain ⟨v, vr, e1, h⟩ := h
  subst e1
  cases r with
  | cons r rr =>
    rw [hs]
    refine assignInOrder_cons (thn (h1 pins s σ H _ _ _ I r h) fun _ s1 ⟨σ1, H1, I1, q1⟩ => ?_)
    exact h2 pins s1 σ1 H1 _ _ Q I1 rr q1
/-- (a, b, ..) = a tuple of that length -/
def gTup (K : PySem.W.Frag) (n : Nat) (t : TGs) : TG := fun v σ H Q => ∃ a xs, v = .ref a ∧ SqT K H a xs ∧ xs.length = n ∧ t xs σ H Q
theorem pg_tup {es : List Expr} {k : Nat} {t : TGs} {n : Nat} (hc : X.calm = true) (h : PGs X es t)
    (hn : (assignEach es X.env).length = n := by rfl) (hst : (assignEach es X.env).findIdx? (·.1) = none := by rfl) : PG X (.Tuple es k pos) (gTup X.K n t) := by
  intro pins s σ H v u Q I r hw
  obtain ⟨a, xs, e1, hq, hl, hw⟩ := hw
  subst e1
  cases r
  obtain ⟨its, rv, ht, hz⟩ := I.tuple hq
  refine assign_Tuple_tuple (I.ok.hd hc) ht (by simp [hn, ← hl, rv.length]) hst fun h' hx => ?_
  have I1 : Inv X pins σ H { s with heap := h' } := I.kept (t' := s.toks) fun b o e => hx b o (Nat.ne_of_lt (Heap.lt_size e)) e
  exact h pins _ σ H xs _ Q I1 (by simpa using rv) hw
/-- o[i] = .. -/
def gSub (to ti : TE) (t : TSet) : TG := fun v σ H Q => to σ H fun o H1 => ti σ H1 fun i H2 => t o i v H2 fun H3 => Q σ H3
theorem pg_sub {o i : Expr} {to ti : TE} {t : TSet} (ho : PE X o to) (hi : PE X i ti) (hs : PSet X t)
    (ha : ∀ v, assign (.Subscript o i pos) X.env v = (do
      let ov ← holding [v] (eval o X.env)
      let iv ← holding [v, ov] (eval i X.env)
      standAt pos
      holding [v, ov, iv] (setItem ov iv v)
      release [v, ov, iv] []) := by intro _; rfl) : PG X (.Subscript o i pos) (gSub to ti t) := by
  intro pins s σ H v u Q I r h
  rw [ha]
  refine wpAny_bind (wpAny_holding (thn (ho pins s σ H _ I h) fun ov s1 ⟨x, H1, I1, r1, q1⟩ => ?_))
  refine wpAny_bind (wpAny_holding (thn (hi pins s1 σ H1 _ I1 q1) fun iv s2 ⟨y, H2, I2, r2, q2⟩ => ?_))
  refine wpAny_bind (wpAny_standAt (wpAny_bind (wpAny_holding (thn (hs pins s2 σ H2 x y v ov iv u _ I2 r1 r2 r q2) fun _ s3 ⟨H3, I3, q3⟩ => ?_))))
  exact wpAny_release ⟨σ, H3, I3, q3⟩
/-- target = value -/
def tAsg (te : TE) (g : TG) : TS := fun D σ H => te σ H fun x H1 => g x σ H1 D.nx
theorem ps_asg {tg e : Expr} {te : TE} {g : TG} (he : PE X e te) (hg : PG X tg g) (hs : swapsWithSole [tg] e pos.line X.env = pure false := by rfl) (hw : swappedStores [tg] e X.env = pure none := by rfl)
    (h1 : (assignEach [tg] X.env).map (·.2) = [assign tg X.env] := by rfl) : PS X (.Assign [tg] e pos) (tAsg te g) := by
  intro pins s σ H D I h
  refine wpAny_Assign_stores (thn (he pins s σ H _ I h) fun v s1 ⟨x, H1, I1, r1, q1⟩ => ?_) hs hw
  rw [h1]
  exact thn (hg pins s1 σ H1 x v _ I1 r1 q1) fun _ s2 q => q
/-- name = value -/
theorem ps_set {i : Nat} {x : Str} {e : Expr} {te : TE} {pos' : Pos} (hN : X.N.Nodup) (hi : X.N[i]? = some x) (hx : Loc X.env.scope x) (he : PE X e te) (hs : swapsWith e (some (.Name x pos')) pos.line X.env = pure false := by rfl) (hf : X.fn x = true ∨ X.env.scope.names.lookup x = some .local := by first | exact .inl rfl | exact .inr rfl | assumption) :
    PS X (.Assign [.Name x pos'] e pos) (tAsg te (gName i)) := by
  intro pins s σ H D I h
  refine wpAny_Assign_Name (thn (he pins s σ H _ I h) fun v s1 ⟨y, H1, I1, r1, q1⟩ => ?_) hs
  exact store_ok I1 hN hi hx r1 (fun s2 I2 => ⟨_, H1, I2, q1⟩) hf
end

/-! ### while -/
section
variable {X : Cx} {pos : Pos}
end

/-! ### what a loop or a comprehension walks -/
/-- at turn i: it yields x (the heap may grow), or it stops -/
structure It where
  go : Nat → Hp → Prop
  yld : Nat → Hp → V → Hp → Prop
  stop : Nat → Hp → Prop
/-- the iterator's own objects may turn: they are not the frame's, not pinned, younger than the entry (or a comprehension's own) -/
def FpOk (X : Cx) (pins : List (Addr × Obj)) (H : Hp) (b : Addr) : Prop :=
  H b = none ∧ b ≠ X.env.locals ∧ b ∉ X.fs ∧ (b ∈ X.ex ∨ X.s₀.heap.objs.size ≤ b) ∧ (∀ x c, X.env.cells.lookup x = some c → c ≠ b) ∧ ∀ p ∈ X.pn ++ pins, p.1 ≠ b
theorem Inv.fpOk {X : Cx} {pins : List (Addr × Obj)} {σ : St} {H H' : Hp} {s : Shared} {b : Addr} (I : Inv X pins σ H s) (hb : s.heap.objs.size ≤ b) (hn : H' b = none) : FpOk X pins H' b := by
  refine ⟨hn, Nat.ne_of_gt (Nat.lt_of_lt_of_le I.lt hb), I.nofs hb, .inr (Nat.le_trans I.sz hb), fun x c e z => ?_, fun p hp z => ?_⟩
  · obtain ⟨v, q⟩ := I.cell x c e
    exact absurd (Nat.lt_of_lt_of_le q.lt (by rw [z]; exact hb)) (Nat.lt_irrefl _)
  · exact absurd (Nat.lt_of_lt_of_le (Heap.lt_size (I.pin p hp).1) (by rw [z]; exact hb)) (Nat.lt_irrefl _)
structure Turn (P : Program) (w : World) (K : PySem.W.Frag) (tg : Expr) (J : It) (fp : List Addr) (it : Addr) (tn : Nat → Heap → Prop) : Prop where
  mem : it ∈ fp
  obj : ∀ i h, tn i h → ∀ b ∈ fp, ∃ o, h.get? b = some o ∧ ∀ v, o.data ≠ .cell v
  keep : ∀ i h h', tn i h → (∀ b ∈ fp, ∀ o, h.get? b = some o → h'.get? b = some o) → tn i h'
  item : ∀ (X : Cx), X.prog = P → X.w = w → X.K = K → X.calm = true → ∀ (i : Nat) (pins : List (Addr × Obj)) (s : Shared) (σ : St) (H : Hp) (E : Value → Shared → Prop), Inv X pins σ H s → (∀ b ∈ fp, FpOk X pins H b) → tn i s.heap → J.go i H →
    wpAny (model P w) X.A (pyNext (.ref it)) (fun r s1 => ∃ u, r = some u ∧
      wpAny (model P w) X.A (letOwnedTupleGo tg (.ref it) u) (fun _ s2 => ∃ x H', Inv X pins σ H' s2 ∧ RelV x u ∧ J.yld i H x H' ∧ tn (i + 1) s2.heap ∧ ∀ b ∈ fp, H' b = none) E s1) E s
  done : ∀ (X : Cx), X.prog = P → X.w = w → X.K = K → X.calm = true → ∀ (i : Nat) (pins : List (Addr × Obj)) (s : Shared) (σ : St) (H : Hp) (E : Value → Shared → Prop), Inv X pins σ H s → (∀ b ∈ fp, FpOk X pins H b) → tn i s.heap → J.stop i H →
    wpAny (model P w) X.A (pyNext (.ref it)) (fun r s1 => r = none ∧ Inv X pins σ H s1) E s
  self : ∀ (A : Around) (i : Nat) (s : Shared) (Q : Value → Shared → Prop) (E : Value → Shared → Prop), tn i s.heap → Q (.ref it) s → wpAny (model P w) A (pyIter (.ref it)) Q E s
abbrev TI := St → Hp → (It → Hp → Prop) → Prop
/-- an iterator has come -/
def PIE (X : Cx) (pins : List (Addr × Obj)) (σ : St) (tg : Expr) (R : It → Hp → Prop) (itv : Value) (s2 : Shared) : Prop :=
  ∃ (it : Addr) (fp : List Addr) (tn : Nat → Heap → Prop) (J : It) (H' : Hp), itv = .ref it ∧ Inv X pins σ H' s2 ∧ Turn X.prog X.w X.K tg J fp it tn ∧ tn 0 s2.heap ∧ (∀ b ∈ fp, FpOk X pins H' b) ∧ R J H'
def PI (X : Cx) (tg iter : Expr) (wi : TI) : Prop :=
  ∀ (pins : List (Addr × Obj)) (s : Shared) (σ : St) (H : Hp) (R : It → Hp → Prop), Inv X pins σ H s → wi σ H R →
    wpAny (model X.prog X.w) X.A (eval iter X.env) (fun v s1 => wpAny (model X.prog X.w) X.A (pyIter v) (PIE X pins σ tg R) X.xe s1) X.xe s

/-- the step ahead of the store is nothing for an iterator that keeps no tuple -/
theorem go_of {M : Model} {A : Around} {E : Value → Shared → Prop} {s : Shared} {tg : Expr} {it : Addr} {u : Value} {o : Obj} {n : String} {vs : Array Value} {Q : Unit → Shared → Prop} (ho : s.heap.get? it = some o) (hc : o.cls = .type n) (hd : o.data = .fields vs)
    (hn : ["enumerate", "zip", "dict_itemiterator", "dict_reverseitemiterator", "odict_iterator", "itertools.zip_longest", "itertools.pairwise"].contains n = false) (hQ : Q () s) : wpAny M A (letOwnedTupleGo tg (.ref it) u) Q E s := by
  unfold letOwnedTupleGo
  cases tg <;> first
    | exact wpAny_pure hQ
    | (cases u <;> first
        | exact wpAny_pure hQ
        | (refine wpAny_bind (wpAny_load ho ?_)
           rw [hc, hd]
           show wpAny M A (if (["enumerate", "zip", "dict_itemiterator", "dict_reverseitemiterator", "odict_iterator", "itertools.zip_longest", "itertools.pairwise"].contains n && vs[0]? == some (rawInt _)) = true then _ else _) Q E s
           rw [if_neg (by intro h; rw [hn, Bool.false_and] at h; cases h)]
           exact wpAny_pure hQ))

/-- the list at a, as it stands at each turn (a loop may append to it) -/
def Itl (K : PySem.W.Frag) (a : Addr) : It :=
  ⟨fun i H => ∃ xs x, SqL K H a xs ∧ xs[i]? = some x, fun i H x H' => H' = H ∧ ∀ xs, SqL K H a xs → xs[i]? = some x, fun i H => ∃ xs, SqL K H a xs ∧ xs.length ≤ i⟩
def Itt (K : PySem.W.Frag) (a : Addr) : It :=
  ⟨fun i H => ∃ xs x, SqT K H a xs ∧ xs[i]? = some x, fun i H x H' => H' = H ∧ ∀ xs, SqT K H a xs → xs[i]? = some x, fun i H => ∃ xs, SqT K H a xs ∧ xs.length ≤ i⟩
/-- lo, lo + 1, .. (n of them) -/
def Itr (lo : Int) (n : Nat) : It := ⟨fun i _ => i < n, fun i H x H' => H' = H ∧ x = .int (lo + i), fun i _ => n ≤ i⟩
theorem turn_list {P : Program} {w : World} {K : PySem.W.Frag} {tg : Expr} (a it : Addr) : Turn P w K tg (Itl K a) [it] it (fun i h => h.IsListIter it a i) where
  mem := by simp
  obj := fun i h st b hb => by
    have e : b = it := by simpa using hb
    subst e
    obtain ⟨o, e, c, d⟩ := st
    exact ⟨o, e, fun v z => by rw [d] at z; cases z⟩
  keep := fun i h h' st k => st.at fun o e => k it (by simp) o e
  item := by
    intro X hP hw hK hc i pins s σ H E I hf st hg
    subst hP hw hK
    obtain ⟨xs, x, hq, hx⟩ := hg
    obtain ⟨its, rv, p, hz⟩ := I.list hq
    obtain ⟨u, hu, ru⟩ := rv.get hx
    obtain ⟨f0, f1, f2, f3, f4, f5⟩ := hf it (by simp)
    refine wpAny_pyNext_list_item st p.isList (x := u) (by simpa using hu) fun h' st' sb => ?_
    have I1 : Inv X pins σ H { s with heap := h' } := I.turned (t' := s.toks) (fun b o hb e => (sb.2 b hb).trans e) f0 f1 f3 f4 f5
    obtain ⟨o, e, c, d⟩ := id st'
    exact ⟨u, rfl, go_of (s := { s with heap := h' }) e c d (by decide) ⟨x, H, I1, ru, ⟨rfl, fun ys hy => by rw [I.list_inj hy hq]; exact hx⟩, st', fun b hb => (hf b hb).1⟩⟩
  done := by
    intro X hP hw hK hc i pins s σ H E I hf st hg
    subst hP hw hK
    obtain ⟨xs, hq, hx⟩ := hg
    obtain ⟨its, rv, p, hz⟩ := I.list hq
    obtain ⟨f0, f1, f2, f3, f4, f5⟩ := hf it (by simp)
    have hl := rv.length
    exact wpAny_pyNext_list_end (I.ok.hd hc) st p.isList (by simp; omega) fun h' eb => ⟨rfl, I.turned (t' := s.toks) (fun b o hb e => eb b o hb e) f0 f1 f3 f4 f5⟩
  self := fun _ _ _ _ _ st h => wpAny_pyIter_listiter st h
theorem turn_tuple {P : Program} {w : World} {K : PySem.W.Frag} {tg : Expr} (a it : Addr) : Turn P w K tg (Itt K a) [it] it (fun i h => h.IsTupleIter it a i) where
  mem := by simp
  obj := fun i h st b hb => by
    have e : b = it := by simpa using hb
    subst e
    obtain ⟨o, e, c, d⟩ := st
    exact ⟨o, e, fun v z => by rw [d] at z; cases z⟩
  keep := fun i h h' st k => st.at fun o e => k it (by simp) o e
  item := by
    intro X hP hw hK hc i pins s σ H E I hf st hg
    subst hP hw hK
    obtain ⟨xs, x, hq, hx⟩ := hg
    obtain ⟨its, rv, p, hz⟩ := I.tuple hq
    obtain ⟨u, hu, ru⟩ := rv.get hx
    obtain ⟨f0, f1, f2, f3, f4, f5⟩ := hf it (by simp)
    refine wpAny_pyNext_tuple_item st (show s.heap.IsTuple a its.toArray from p) (x := u) (by simpa using hu) fun h' st' sb => ?_
    have I1 : Inv X pins σ H { s with heap := h' } := I.turned (t' := s.toks) (fun b o hb e => (sb.2 b hb).trans e) f0 f1 f3 f4 f5
    obtain ⟨o, e, c, d⟩ := id st'
    exact ⟨u, rfl, go_of (s := { s with heap := h' }) e c d (by decide) ⟨x, H, I1, ru, ⟨rfl, fun ys hy => by rw [I.tuple_inj hy hq]; exact hx⟩, st', fun b hb => (hf b hb).1⟩⟩
  done := by
    intro X hP hw hK hc i pins s σ H E I hf st hg
    subst hP hw hK
    obtain ⟨xs, hq, hx⟩ := hg
    obtain ⟨its, rv, p, hz⟩ := I.tuple hq
    obtain ⟨f0, f1, f2, f3, f4, f5⟩ := hf it (by simp)
    have hl := rv.length
    exact wpAny_pyNext_tuple_end (I.ok.hd hc) st (show s.heap.IsTuple a its.toArray from p) (by simp; omega) fun h' eb => ⟨rfl, I.turned (t' := s.toks) (fun b o hb e => eb b o hb e) f0 f1 f3 f4 f5⟩
  self := fun _ _ _ _ _ st h => wpAny_pyIter_tupleiter st h
theorem turn_range {P : Program} {w : World} {K : PySem.W.Frag} {tg : Expr} (it : Addr) (lo : Int) (n : Nat) : Turn P w K tg (Itr lo n) [it] it (fun i h => IsRangeIter h it (lo + (i : Nat) * 1) ((n : Int) - (i : Nat)) 1) where
  mem := by simp
  obj := fun i h st b hb => by
    have e : b = it := by simpa using hb
    subst e
    exact ⟨_, st, fun v z => by
      have z' : Data.fields _ = Data.cell v := z
      cases z'⟩
  keep := fun i h h' st k => k it (by simp) _ st
  item := by
    intro X hP hw hK hc i pins s σ H E I hf st hg
    subst hP hw hK
    obtain ⟨f0, f1, f2, f3, f4, f5⟩ := hf it (by simp)
    have W := Walks.range (prog := X.prog) (w := X.w) (I.ok.hd hc) it lo 1 n
    refine W.item i s _ _ hg st fun v h' tk hv st' kk => ?_
    obtain ⟨t, rfl⟩ := hv
    have I1 : Inv X pins σ H { s with heap := h', toks := tk } := I.turned (fun b o hb e => kk b o (by simpa using hb) e) f0 f1 f3 f4 f5
    refine ⟨_, rfl, go_of (s := { s with heap := h', toks := tk }) (n := "range_iterator") st' rfl rfl (by decide) ⟨.int (lo + i), H, I1, ⟨t, ?_⟩, ⟨rfl, rfl⟩, st', fun b hb => (hf b hb).1⟩⟩
    rw [Int.mul_one]
  done := by
    intro X hP hw hK hc i pins s σ H E I hf st hg
    subst hP hw hK
    obtain ⟨f0, f1, f2, f3, f4, f5⟩ := hf it (by simp)
    exact wpAny_pyNext_range_end (I.ok.hd hc) st (by have : n ≤ i := hg; omega) fun h' eb => ⟨rfl, I.turned (t' := s.toks) (fun b o hb e => eb b o hb e) f0 f1 f3 f4 f5⟩
  self := fun _ _ _ _ _ st h => wpAny_pyIter_rangeiter st h
end L2

namespace L2
open PySem PySem.Spec PyProof.Rows
section
variable {X : Cx} {tg : Expr}
def iList (K : PySem.W.Frag) (tl : TE) : TI := fun σ H R => tl σ H fun x H1 => ∃ a, x = .ref a ∧ (∃ xs, SqL K H1 a xs) ∧ R (Itl K a) H1
def iTup (K : PySem.W.Frag) (tl : TE) : TI := fun σ H R => tl σ H fun x H1 => ∃ a, x = .ref a ∧ (∃ xs, SqT K H1 a xs) ∧ R (Itt K a) H1
theorem pi_list {l : Expr} {tl : TE} (hl : PE X l tl) : PI X tg l (iList X.K tl) := by
  intro pins s σ H R I h
  refine thn (hl pins s σ H _ I h) fun v s1 ⟨x, H1, I1, r1, q1⟩ => ?_
  obtain ⟨a, e, ⟨xs, hq⟩, q⟩ := q1
  subst e
  cases r1
  obtain ⟨its, rv, p, hz⟩ := I1.list hq
  refine wpAny_pyIter_list p.isList ?_
  refine ⟨s1.heap.objs.size, [s1.heap.objs.size], _, _, H1, rfl, I1.kept (t' := s1.toks) fun b o e => Heap.get?_push_of_some _ e, turn_list a _, ⟨_, Heap.get?_push_size _ rfl, rfl, rfl⟩, fun b hb => ?_, q⟩
  have e : b = s1.heap.objs.size := by simpa using hb
  subst e
  exact I1.fpOk (Nat.le_refl _) (I1.hok.fresh (Nat.le_refl _))
theorem pi_tup {l : Expr} {tl : TE} (hl : PE X l tl) : PI X tg l (iTup X.K tl) := by
  intro pins s σ H R I h
  refine thn (hl pins s σ H _ I h) fun v s1 ⟨x, H1, I1, r1, q1⟩ => ?_
  obtain ⟨a, e, ⟨xs, hq⟩, q⟩ := q1
  subst e
  cases r1
  obtain ⟨its, rv, p, hz⟩ := I1.tuple hq
  refine wpAny_pyIter_tuple (show s1.heap.IsTuple a its.toArray from p) ?_
  refine ⟨s1.heap.objs.size, [s1.heap.objs.size], _, _, H1, rfl, I1.kept (t' := s1.toks) fun b o e => Heap.get?_push_of_some _ e, turn_tuple a _, ⟨_, Heap.get?_push_size _ rfl, rfl, rfl⟩, fun b hb => ?_, q⟩
  have e : b = s1.heap.objs.size := by simpa using hb
  subst e
  exact I1.fpOk (Nat.le_refl _) (I1.hok.fresh (Nat.le_refl _))
/-- a range object just made, walked -/
theorem range_it {pins : List (Addr × Obj)} {σ : St} {H : Hp} {s : Shared} {R : It → Hp → Prop} {E : Value → Shared → Prop} {lo hi : Int} {t u v : Tok} {tk : Nat} (I : Inv X pins σ H s) (h1 : -(2 ^ 62) ≤ lo) (h2 : lo < 2 ^ 62) (h3 : -(2 ^ 62) ≤ hi) (h4 : hi < 2 ^ 62)
    (q : R (Itr lo (hi - lo).toNat) H) : wpAny (model X.prog X.w) X.A (pyIter (.ref s.heap.objs.size)) (PIE X pins σ tg R) E { s with heap := s.heap.push { cls := .type "range", data := .fields #[.int lo t, .int hi u, .int 1 v] }, toks := tk } := by
  refine wpAny_pyIter_range (IsRange.new ..) (small_one h1 h2 h3 h4) ?_
  have I1 : Inv X pins σ H { s with heap := s.heap.push { cls := .type "range", data := .fields #[.int lo t, .int hi u, .int 1 v] }, toks := tk } := I.kept fun b o e => Heap.get?_push_of_some _ e
  refine ⟨(s.heap.push { cls := .type "range", data := .fields #[.int lo t, .int hi u, .int 1 v] }).objs.size, [(s.heap.push { cls := .type "range", data := .fields #[.int lo t, .int hi u, .int 1 v] }).objs.size], _, _, H, rfl,
    I1.kept (t' := tk) fun b o e => Heap.get?_push_of_some _ e, turn_range _ lo (hi - lo).toNat, ?_, fun b hb => ?_, q⟩
  · have e1 : lo + ((0 : Nat) : Int) * 1 = lo := by simp
    have e2 : (((hi - lo).toNat : Nat) : Int) - ((0 : Nat) : Int) = Builtin.Range.rangeSize lo hi 1 := by rw [rangeSize_one]; split <;> omega
    show IsRangeIter _ _ (lo + ((0 : Nat) : Int) * 1) ((((hi - lo).toNat : Nat) : Int) - ((0 : Nat) : Int)) 1
    rw [e1, e2]
    exact Heap.get?_push_size _ rfl
  · have e : b = (s.heap.push { cls := .type "range", data := .fields #[.int lo t, .int hi u, .int 1 v] }).objs.size := by simpa using hb
    subst e
    exact I1.fpOk (Nat.le_refl _) (I1.hok.fresh (Nat.le_refl _))
def iRng1 (ta : TA) : TI := fun σ H R => ta σ H fun vs H1 => ∃ j : Int, vs = [.int j] ∧ -(2 ^ 62) ≤ j ∧ j < 2 ^ 62 ∧ R (Itr 0 j.toNat) H1
def iRng2 (ta : TA) : TI := fun σ H R => ta σ H fun vs H1 => ∃ i j : Int, vs = [.int i, .int j] ∧ (-(2 ^ 62) ≤ i ∧ i < 2 ^ 62 ∧ -(2 ^ 62) ≤ j ∧ j < 2 ^ 62) ∧ R (Itr i (j - i).toNat) H1
theorem pi_range1 {a : Expr} {ta : TA} {p pos : Pos} (hg : Gl X "range") (hm : X.mg "range" = none) (ha : PA X [a] ta) (hs : starEach [a] X.env = [(false, eval a X.env)] := by rfl) : PI X tg (.Call (.Name "range" p) [a] [] pos) (iRng1 ta) := by
  intro pins s σ H R I h
  refine Call_ (ld_blt I hg hm boot_range (PyProof.Rows.callWith_type1 (thn (ha pos pins s σ H _ I h) fun us s1 ⟨vs, H1, I1, r1, q1⟩ => ?_) hs rfl))
  obtain ⟨j, e, q1, q2, q⟩ := q1
  subst e
  cases r1 with
  | cons r rr =>
    cases rr
    obtain ⟨t, rfl⟩ := r
    exact call_range_1 (range_it I1 (by omega) (by omega) q1 q2 (by simpa using q))
theorem pi_range2 {a b : Expr} {ta : TA} {p pos : Pos} (hg : Gl X "range") (hm : X.mg "range" = none) (ha : PA X [a, b] ta) (hs : starEach [a, b] X.env = [(false, eval a X.env), (false, eval b X.env)] := by rfl) (hs2 : starEach [b] X.env = [(false, eval b X.env)] := by rfl) :
    PI X tg (.Call (.Name "range" p) [a, b] [] pos) (iRng2 ta) := by
  intro pins s σ H R I h
  refine Call_ (ld_blt I hg hm boot_range (PyProof.Rows.callWith_type1 (thn (ha pos pins s σ H _ I h) fun us s1 ⟨vs, H1, I1, r1, q1⟩ => ?_) (by rw [hs, hs2]) (by rw [hs2]; rfl)))
  obtain ⟨i, j, e, ⟨q1, q2, q3, q4⟩, q⟩ := q1
  subst e
  cases r1 with
  | cons r rr =>
    cases rr with
    | cons r' rr =>
      cases rr
      obtain ⟨t, rfl⟩ := r
      obtain ⟨t', rfl⟩ := r'
      exact call_range_2 (range_it I1 q1 q2 q3 q4 q)

/-! ### for -/
/-- W: the invariant by the turn and a measure; N: what the body is to reach -/
def tFor (wi : TI) (g : TG) (tb : TS) : TS := fun D σ H => wi σ H fun J H1 => ∃ W : Nat → Nat → St → Hp → Prop, (∃ m, W 0 m σ H1) ∧ ∀ i m σ H, W i m σ H →
  (J.stop i H ∧ D.nx σ H) ∨ (J.go i H ∧ ∃ N : St → Hp → Prop, (∀ σ' H', N σ' H' → ∃ m', m' < m ∧ W (i + 1) m' σ' H') ∧ ∀ x H', J.yld i H x H' → g x σ H' fun σ2 H2 => tb { D with nx := N, ct := N, bk := D.nx } σ2 H2)
/-- the records at fp as they stand -/
def pinsAt (fp : List Addr) (h : Heap) : List (Addr × Obj) := fp.filterMap fun b => (h.get? b).map fun o => (b, o)
theorem mem_pinsAt {fp : List Addr} {h : Heap} {b : Addr} {o : Obj} (hb : b ∈ fp) (e : h.get? b = some o) : (b, o) ∈ pinsAt fp h := List.mem_filterMap.mpr ⟨b, hb, by rw [e]; rfl⟩
theorem of_pinsAt {fp : List Addr} {h : Heap} {p : Addr × Obj} (hp : p ∈ pinsAt fp h) : p.1 ∈ fp ∧ h.get? p.1 = some p.2 := by
  obtain ⟨b, hb, e⟩ := List.mem_filterMap.mp hp
  cases q : h.get? b with
  | none => rw [q] at e; cases e
  | some o =>
    rw [q] at e
    have e' : (b, o) = p := Option.some.inj e
    subst e'
    exact ⟨hb, q⟩
theorem Inv.pinned {pins : List (Addr × Obj)} {σ : St} {H : Hp} {s : Shared} {fp : List Addr} (I : Inv X pins σ H s) (hf : ∀ b ∈ fp, FpOk X pins H b) (ho : ∀ b ∈ fp, ∃ o, s.heap.get? b = some o ∧ ∀ v, o.data ≠ .cell v) : Inv X (pins ++ pinsAt fp s.heap) σ H s :=
  I.pins_of fun p hp => (List.mem_append.mp hp).elim (fun z => I.pin p (List.mem_append_right _ z)) fun z => by
    obtain ⟨hb, e⟩ := of_pinsAt z
    obtain ⟨f0, f1, f2, _⟩ := hf p.1 hb
    obtain ⟨o, e', d⟩ := ho p.1 hb
    rw [e] at e'; cases e'
    exact ⟨e, f0, f1, f2, d⟩
theorem Inv.unpinned {pins pl : List (Addr × Obj)} {σ : St} {H : Hp} {s : Shared} (I : Inv X (pins ++ pl) σ H s) : Inv X pins σ H s := I.pins_of fun p hp => I.pin p (List.mem_append_right _ (List.mem_append_left _ hp))
theorem ps_for {iter : Expr} {body : List Stmt} {wi : TI} {g : TG} {tb : TS} {pos : Pos} (hp : PassesOwn (model X.prog X.w) X.A X.env X.xe) (hc : X.calm = true) (hi : PI X tg iter wi) (hg : PG X tg g) (hb : PSs X body tb)
    (hs : ∀ x, foldedSetIterable iter X.env x = pure x := by intro _; rfl) : PS X (.For tg iter body [] pos) (tFor wi g tb) := by
  intro pins s σ H D I h
  refine wpAny_For (thn (hi pins s σ H _ I h) fun v s1 h1 => thn h1 fun itv s2 h2 => ?_) hs
  obtain ⟨it, fp, tn, J, H2, e, I2, T, st2, f2, W, ⟨m0, w0⟩, turn⟩ := h2
  subst e
  -- what stays true of the iterator's objects through the loop
  have stat : ∀ {H' : Hp}, (∀ b ∈ fp, H' b = none) → ∀ b ∈ fp, FpOk X pins H' b := fun hn b hb => ⟨hn b hb, (f2 b hb).2⟩
  refine codeAny_forLoop_any (fun n s' => ∃ i σ' H', Inv X pins σ' H' s' ∧ tn i s'.heap ∧ (∀ b ∈ fp, H' b = none) ∧ W i n σ' H') ?_ m0 ⟨0, σ, H2, I2, st2, fun b hb => (f2 b hb).1, w0⟩
  rintro n s3 ⟨i, σ3, H3, I3, st3, fr3, w3⟩
  rcases turn i n σ3 H3 w3 with ⟨stop, qn⟩ | ⟨go, N, hN, step⟩
  · refine wpAny_passesOwn hp (thn (T.done X rfl rfl rfl hc i pins s3 σ3 H3 X.xe I3 (stat fr3) st3 stop) fun r s4 ⟨hr, I4⟩ => ?_)
    subst hr
    exact wpAny_execs_nil ⟨σ3, H3, I4, qn⟩
  · refine wpAny_passesOwn hp (thn (T.item X rfl rfl rfl hc i pins s3 σ3 H3 X.xe I3 (stat fr3) st3 go) fun r s4 ⟨u, hr, h4⟩ => ?_)
    subst hr
    refine wpAny_passesOwn hp (thn h4 fun _ s5 ⟨x, H5, I5, r5, y5, st5, fr5⟩ => ?_)
    have I5' := I5.pinned (stat fr5) (T.obj _ _ st5)
    refine wpAny_passesOwn hp (thn (hg _ s5 σ3 H5 x u _ I5' r5 (step x H5 y5)) fun _ s6 ⟨σ6, H6, I6, q6⟩ => ?_)
    refine wpAny_passesOwn hp (thn (hb _ s6 σ6 H6 _ I6 q6) fun f s7 q7 => ?_)
    have again : ∀ {σ7 : St} {H7 : Hp}, Inv X (pins ++ pinsAt fp s5.heap) σ7 H7 s7 → N σ7 H7 → ∃ m, m < n ∧ ∃ i σ' H', Inv X pins σ' H' s7 ∧ tn i s7.heap ∧ (∀ b ∈ fp, H' b = none) ∧ W i m σ' H' := fun {σ7 H7} I7 n7 => by
      obtain ⟨m', hm, w7⟩ := hN σ7 H7 n7
      refine ⟨m', hm, i + 1, σ7, H7, I7.unpinned, T.keep _ _ _ st5 fun b hb o e => (I7.pin (b, o) (List.mem_append_right _ (List.mem_append_right _ (mem_pinsAt hb e)))).1, fun b hb => ?_, w7⟩
      obtain ⟨o, e, d⟩ := T.obj _ _ st5 b hb
      exact (I7.pin (b, o) (List.mem_append_right _ (List.mem_append_right _ (mem_pinsAt hb e)))).2.1
    cases f with
    | next => obtain ⟨σ7, H7, I7, n7⟩ := q7; exact again I7 n7
    | cont => obtain ⟨σ7, H7, I7, n7⟩ := q7; exact again I7 n7
    | brk => obtain ⟨σ7, H7, I7, q7⟩ := q7; exact ⟨σ7, H7, I7.unpinned, q7⟩
    | ret v => obtain ⟨x7, σ7, H7, I7, r7, q7⟩ := q7; exact ⟨x7, σ7, H7, I7.unpinned, r7, q7⟩
end

/-! ### the forms one uses -/
/-- over a list that the body leaves as it is -/
theorem for_list {K : PySem.W.Frag} {a : Addr} {xs : List V} {g : TG} {tb : TS} {D : Ends} {σ : St} {H : Hp} (Pv : Nat → St → Hp → Prop) (h0 : Pv 0 σ H) (hl : ∀ i σ H, i ≤ xs.length → Pv i σ H → SqL K H a xs)
    (hs : ∀ i x σ H, xs[i]? = some x → Pv i σ H → g x σ H fun σ2 H2 => tb { D with nx := Pv (i + 1), ct := Pv (i + 1), bk := D.nx } σ2 H2) (hd : ∀ σ H, Pv xs.length σ H → D.nx σ H) :
    ∃ W : Nat → Nat → St → Hp → Prop, (∃ m, W 0 m σ H) ∧ ∀ i m σ H, W i m σ H →
      ((Itl K a).stop i H ∧ D.nx σ H) ∨ ((Itl K a).go i H ∧ ∃ N : St → Hp → Prop, (∀ σ' H', N σ' H' → ∃ m', m' < m ∧ W (i + 1) m' σ' H') ∧ ∀ x H', (Itl K a).yld i H x H' → g x σ H' fun σ2 H2 => tb { D with nx := N, ct := N, bk := D.nx } σ2 H2) := by
  refine ⟨fun i m σ H => m = xs.length - i ∧ i ≤ xs.length ∧ Pv i σ H, ⟨xs.length, by simp, Nat.zero_le _, h0⟩, ?_⟩
  rintro i m σ H ⟨rfl, hi, p⟩
  have q := hl i σ H hi p
  by_cases hlt : i < xs.length
  · refine .inr ⟨⟨xs, xs[i], q, by simp [hlt]⟩, Pv (i + 1), fun σ' H' p' => ⟨xs.length - (i + 1), by omega, rfl, hlt, p'⟩, fun x H' y => ?_⟩
    obtain ⟨e, y⟩ := y
    subst e
    exact hs i x σ _ (y xs q) p
  · have e : i = xs.length := by omega
    subst e
    exact .inl ⟨⟨xs, q, Nat.le_refl _⟩, hd σ H p⟩
theorem for_tup {K : PySem.W.Frag} {a : Addr} {xs : List V} {g : TG} {tb : TS} {D : Ends} {σ : St} {H : Hp} (Pv : Nat → St → Hp → Prop) (h0 : Pv 0 σ H) (hl : ∀ i σ H, i ≤ xs.length → Pv i σ H → SqT K H a xs)
    (hs : ∀ i x σ H, xs[i]? = some x → Pv i σ H → g x σ H fun σ2 H2 => tb { D with nx := Pv (i + 1), ct := Pv (i + 1), bk := D.nx } σ2 H2) (hd : ∀ σ H, Pv xs.length σ H → D.nx σ H) :
    ∃ W : Nat → Nat → St → Hp → Prop, (∃ m, W 0 m σ H) ∧ ∀ i m σ H, W i m σ H →
      ((Itt K a).stop i H ∧ D.nx σ H) ∨ ((Itt K a).go i H ∧ ∃ N : St → Hp → Prop, (∀ σ' H', N σ' H' → ∃ m', m' < m ∧ W (i + 1) m' σ' H') ∧ ∀ x H', (Itt K a).yld i H x H' → g x σ H' fun σ2 H2 => tb { D with nx := N, ct := N, bk := D.nx } σ2 H2) := by
  refine ⟨fun i m σ H => m = xs.length - i ∧ i ≤ xs.length ∧ Pv i σ H, ⟨xs.length, by simp, Nat.zero_le _, h0⟩, ?_⟩
  rintro i m σ H ⟨rfl, hi, p⟩
  have q := hl i σ H hi p
  by_cases hlt : i < xs.length
  · refine .inr ⟨⟨xs, xs[i], q, by simp [hlt]⟩, Pv (i + 1), fun σ' H' p' => ⟨xs.length - (i + 1), by omega, rfl, hlt, p'⟩, fun x H' y => ?_⟩
    obtain ⟨e, y⟩ := y
    subst e
    exact hs i x σ _ (y xs q) p
  · have e : i = xs.length := by omega
    subst e
    exact .inl ⟨⟨xs, q, Nat.le_refl _⟩, hd σ H p⟩
theorem for_range {lo : Int} {n : Nat} {g : TG} {tb : TS} {D : Ends} {σ : St} {H : Hp} (Pv : Nat → St → Hp → Prop) (h0 : Pv 0 σ H)
    (hs : ∀ i σ H, i < n → Pv i σ H → g (.int (lo + i)) σ H fun σ2 H2 => tb { D with nx := Pv (i + 1), ct := Pv (i + 1), bk := D.nx } σ2 H2) (hd : ∀ σ H, Pv n σ H → D.nx σ H) :
    ∃ W : Nat → Nat → St → Hp → Prop, (∃ m, W 0 m σ H) ∧ ∀ i m σ H, W i m σ H →
      ((Itr lo n).stop i H ∧ D.nx σ H) ∨ ((Itr lo n).go i H ∧ ∃ N : St → Hp → Prop, (∀ σ' H', N σ' H' → ∃ m', m' < m ∧ W (i + 1) m' σ' H') ∧ ∀ x H', (Itr lo n).yld i H x H' → g x σ H' fun σ2 H2 => tb { D with nx := N, ct := N, bk := D.nx } σ2 H2) := by
  refine ⟨fun i m σ H => m = n - i ∧ i ≤ n ∧ Pv i σ H, ⟨n, by simp, Nat.zero_le _, h0⟩, ?_⟩
  rintro i m σ H ⟨rfl, hi, p⟩
  by_cases hlt : i < n
  · refine .inr ⟨hlt, Pv (i + 1), fun σ' H' p' => ⟨n - (i + 1), by omega, rfl, hlt, p'⟩, fun x H' y => ?_⟩
    obtain ⟨e, y⟩ := y
    subst e y
    exact hs i σ _ hlt p
  · have e : i = n := by omega
    subst e
    exact .inl ⟨Nat.le_refl _, hd σ H p⟩
end L2

namespace L2
open PySem PySem.Spec PyProof.Rows

abbrev R2 := V → V → Hp → VK → Prop
/-- a two-place operation on values: f is binaryOp op, inplaceOp op or compareOp op -/
def OpR (X : Cx) (f : Value → Value → Sem Value) (r : R2) : Prop :=
  ∀ (pins : List (Addr × Obj)) (s : Shared) (σ : St) (H : Hp) (x y : V) (v u : Value) (Q : VK), Inv X pins σ H s → RelV x v → RelV y u → r x y H Q →
    wpAny (model X.prog X.w) X.A (f v u) (EP X pins σ Q) X.xe s
/-- a one-place operation -/
def UnR (X : Cx) (f : Value → Sem Value) (r : V → Hp → VK → Prop) : Prop :=
  ∀ (pins : List (Addr × Obj)) (s : Shared) (σ : St) (H : Hp) (x : V) (v : Value) (Q : VK), Inv X pins σ H s → RelV x v → r x H Q →
    wpAny (model X.prog X.w) X.A (f v) (EP X pins σ Q) X.xe s
/-- a call of a value that is known (a builtin, a type) with values -/
def CallR (X : Cx) (f : Value) (r : List V → Hp → VK → Prop) : Prop :=
  ∀ (pins : List (Addr × Obj)) (s : Shared) (σ : St) (H : Hp) (xs : List V) (us : List Value) (Q : VK), Inv X pins σ H s → Vals xs us → r xs H Q →
    wpAny (model X.prog X.w) X.A (call f us) (EP X pins σ Q) X.xe s
def tOp (r : R2) (ta tb : TE) : TE := fun σ H Q => ta σ H fun x H1 => tb σ H1 fun y H2 => r x y H2 Q
def tUn (r : V → Hp → VK → Prop) (ta : TE) : TE := fun σ H Q => ta σ H fun x H1 => r x H1 Q
/-- ints in, under C, and a value out -/
def rI (C : Int → Int → Prop) (g : Int → Int → V) : R2 := fun x y H Q => ∃ i j, x = .int i ∧ y = .int j ∧ C i j ∧ Q (g i j) H
def rI0 (g : Int → Int → V) : R2 := fun x y H Q => ∃ i j, x = .int i ∧ y = .int j ∧ Q (g i j) H
def rU (g : Int → V) : V → Hp → VK → Prop := fun x H Q => ∃ i, x = .int i ∧ Q (g i) H

section
variable {X : Cx} {a b c : Expr} {ta tb tc : TE} {pos : Pos}

theorem binT (ha : PE X a ta) (hb : PE X b tb) {pins : List (Addr × Obj)} {s : Shared} {σ : St} {H : Hp} {R : V → V → Hp → Prop} (I : Inv X pins σ H s)
    (h : ta σ H fun x H1 => tb σ H1 fun y H2 => R x y H2) {Q : Value → Shared → Prop} {f : Value → Value → Sem Value}
    (hf : ∀ v u s2 x y H2, Inv X pins σ H2 s2 → RelV x v → RelV y u → R x y H2 → wpAny (model X.prog X.w) X.A (f v u) Q X.xe s2) :
    wpAny (model X.prog X.w) X.A (eval a X.env) (fun v s₁ => wpAny (model X.prog X.w) X.A (eval b X.env) (fun u s₂ => wpAny (model X.prog X.w) X.A (f v u) Q X.xe s₂) X.xe s₁) X.xe s := by
  refine thn (ha pins s σ H _ I h) fun v s1 ⟨x, H1, I1, r1, q1⟩ => ?_
  refine thn (hb pins s1 σ H1 _ I1 q1) fun u s2 ⟨y, H2, I2, r2, q2⟩ => ?_
  exact hf v u s2 x y H2 I2 r1 r2 q2

theorem pe_op {op : Operator} {r : R2} (ho : OpR X (binaryOp op) r) (ha : PE X a ta) (hb : PE X b tb) : PE X (.BinOp a op b pos) (tOp r ta tb) := by
  intro pins s σ H Q I h
  exact wpAny_BinOp (binT ha hb I h fun v u s2 x y H2 I2 rx ry q => ho pins s2 σ H2 x y v u Q I2 rx ry q)
theorem pe_un {op : UnaryOp} {r : V → Hp → VK → Prop} (ho : UnR X (unaryOp op) r) (ha : PE X a ta) : PE X (.UnaryOp op a pos) (tUn r ta) := by
  intro pins s σ H Q I h
  exact UnaryOp_ (thn (ha pins s σ H _ I h) fun v s1 ⟨x, H1, I1, r1, q1⟩ => ho pins s1 σ H1 x v Q I1 r1 q1)
/-! ### ints -/
theorem opI {f : Value → Value → Sem Value} {C : Int → Int → Prop} {g : Int → Int → Int}
    (rule : ∀ (i j : Int) (t u : Tok) (s : Shared) (Q : Value → Shared → Prop) (E : Value → Shared → Prop), C i j → Q (.int (g i j) s.toks) { s with toks := s.toks + 1 } → wpAny (model X.prog X.w) X.A (f (.int i t) (.int j u)) Q E s) :
    OpR X f (rI C fun i j => .int (g i j)) := by
  intro pins s σ H x y v u Q I rx ry h
  obtain ⟨i, j, rfl, rfl, hc, q⟩ := h
  obtain ⟨t, rfl⟩ := rx
  obtain ⟨t', rfl⟩ := ry
  exact rule i j t t' s _ _ hc ⟨.int (g i j), H, I.tok _, ⟨_, rfl⟩, q⟩
theorem opI0 {f : Value → Value → Sem Value} {g : Int → Int → Int}
    (rule : ∀ (i j : Int) (t u : Tok) (s : Shared) (Q : Value → Shared → Prop) (E : Value → Shared → Prop), Q (.int (g i j) s.toks) { s with toks := s.toks + 1 } → wpAny (model X.prog X.w) X.A (f (.int i t) (.int j u)) Q E s) :
    OpR X f (rI0 fun i j => .int (g i j)) := by
  intro pins s σ H x y v u Q I rx ry h
  obtain ⟨i, j, rfl, rfl, q⟩ := h
  obtain ⟨t, rfl⟩ := rx
  obtain ⟨t', rfl⟩ := ry
  exact rule i j t t' s _ _ ⟨.int (g i j), H, I.tok _, ⟨_, rfl⟩, q⟩
theorem opB0 {f : Value → Value → Sem Value} {g : Int → Int → Bool}
    (rule : ∀ (i j : Int) (t u : Tok) (s : Shared) (Q : Value → Shared → Prop) (E : Value → Shared → Prop), Q (.bool (g i j)) s → wpAny (model X.prog X.w) X.A (f (.int i t) (.int j u)) Q E s) :
    OpR X f (rI0 fun i j => .bl (g i j)) := by
  intro pins s σ H x y v u Q I rx ry h
  obtain ⟨i, j, rfl, rfl, q⟩ := h
  obtain ⟨t, rfl⟩ := rx
  obtain ⟨t', rfl⟩ := ry
  exact rule i j t t' s _ _ ⟨.bl (g i j), H, I, rfl, q⟩

def CDiv (i j : Int) : Prop := 0 < j ∧ j < 1073741824
def CPow (i j : Int) : Prop := 0 ≤ j ∧ j ≤ 1000000 ∧ i.natAbs < 2 ^ 64
def CMul (i j : Int) : Prop := (-(2 ^ 64) < i ∧ i < 2 ^ 64) ∨ (-(2 ^ 64) < j ∧ j < 2 ^ 64)
theorem CMul.ok {i j : Int} (h : CMul i j) : IntMulOk i j := by
  rcases h with ⟨h1, h2⟩ | ⟨h1, h2⟩
  · exact .of_left (intBits_le_64 h1 h2)
  · exact .of_right (intBits_le_64 h1 h2)
theorem op_add : OpR X (binaryOp .Add) (rI0 fun i j => .int (i + j)) := opI0 fun _ _ _ _ _ _ _ q => add_int q
theorem op_sub : OpR X (binaryOp .Sub) (rI0 fun i j => .int (i - j)) := opI0 fun _ _ _ _ _ _ _ q => sub_int q
theorem op_mul : OpR X (binaryOp .Mult) (rI CMul fun i j => .int (i * j)) := opI fun _ _ _ _ _ _ _ hc q => mul_int q hc.ok
/-- // by a positive divisor -/
theorem op_fdiv : OpR X (binaryOp .FloorDiv) (rI CDiv fun i j => .int (i / j)) := opI fun i j _ _ _ _ _ hc q => by
  have h1 : (0 : Int) < j := hc.1
  have h2 : j < 1073741824 := hc.2
  exact floordiv_int (by omega) (by rw [Int.fdiv_eq_ediv_of_nonneg i (by omega)]; exact q) (.inl (PyProof.noPylong_small (by omega)))
/-- % by a positive divisor of any size -/
theorem op_mod : OpR X (binaryOp .Mod) (rI (fun _ j => 0 < j) fun i j => .int (i % j)) := opI fun i j _ _ _ _ _ hc q => by
  have h1 : (0 : Int) < j := hc
  exact mod_int' (by omega) (by rw [Int.fmod_eq_emod_of_nonneg i (by omega)]; exact q)
theorem op_pow : OpR X (binaryOp .Pow) (rI CPow fun i j => .int (i ^ j.toNat)) := opI fun _ _ _ _ _ _ _ hc q => pow_int_small hc.1 hc.2.1 hc.2.2 q
theorem unI {f : Value → Sem Value} {g : Int → Int}
    (rule : ∀ (i : Int) (t : Tok) (s : Shared) (Q : Value → Shared → Prop) (E : Value → Shared → Prop), Q (.int (g i) s.toks) { s with toks := s.toks + 1 } → wpAny (model X.prog X.w) X.A (f (.int i t)) Q E s) :
    UnR X f (rU fun i => .int (g i)) := by
  intro pins s σ H x v Q I rx h
  obtain ⟨i, rfl, q⟩ := h
  obtain ⟨t, rfl⟩ := rx
  exact rule i t s _ _ ⟨.int (g i), H, I.tok _, ⟨_, rfl⟩, q⟩
theorem un_neg : UnR X (unaryOp .USub) (rU fun i => .int (-i)) := unI fun _ _ _ _ _ q => neg_int q
/-! ### bools among ints: n += (a < b) -/
end

/-! ### comparisons -/
/-- the scalars that == tells apart as data does -/
def scal : V → V → Bool
  | .non, .non => true | .non, .int _ => true | .int _, .non => true | .non, .bl _ => true | .bl _, .non => true | .non, .str _ => true | .str _, .non => true
  | .int _, .int _ => true | .bl _, .bl _ => true | .str _, .str _ => true | .byt _, .byt _ => true
  | .int _, .str _ => true | .str _, .int _ => true | .bl _, .str _ => true | .str _, .bl _ => true
  | _, _ => false
def rEq : R2 := fun x y H Q => scal x y = true ∧ Q (.bl (decide (x = y))) H
def rNe : R2 := fun x y H Q => scal x y = true ∧ Q (.bl (!decide (x = y))) H

theorem dec_int {i j : Int} : decide (V.int i = V.int j) = (i == j) := by
  rw [Bool.eq_iff_iff]
  simp
theorem dec_bl {i j : Bool} : decide (V.bl i = V.bl j) = (i == j) := by
  rw [Bool.eq_iff_iff]
  simp
theorem dec_str {i j : Str} : decide (V.str i = V.str j) = (i == j) := by
  rw [Bool.eq_iff_iff]
  simp
theorem dec_byt {i j : Array UInt8} : decide (V.byt i = V.byt j) = (i.toList == j.toList) := by
  rw [Bool.eq_iff_iff]
  cases i
  cases j
  simp

section
variable {X : Cx} {a b c : Expr} {ta tb tc : TE} {pos : Pos}
theorem fin_bl {pins : List (Addr × Obj)} {σ : St} {H : Hp} {s : Shared} {Q : VK} {k k' : Bool} (I : Inv X pins σ H s) (q : Q (.bl k) H) (e : k = k') : EP X pins σ Q (.bool k') s := by
  subst e
  exact ⟨.bl k, H, I, rfl, q⟩
theorem op_eq : OpR X (compareOp .Eq) rEq := by
  intro pins s σ H x y v u Q I rx ry h
  obtain ⟨hs, q⟩ := h
  cases x with
  | non =>
    cases rx
    cases y with
    | non => cases ry; exact PySem.EqNone.eq_none_none (fin_bl I q (by simp))
    | bl j => cases ry; exact PySem.EqNone.eq_none_bool (fin_bl I q (by simp))
    | int j => obtain ⟨t', rfl⟩ := ry; exact PySem.EqNone.eq_none_int (fin_bl I q (by simp))
    | str j => obtain ⟨t', rfl⟩ := ry; exact PySem.EqNone.eq_none_str (fin_bl I q (by simp))
    | _ => exact absurd (show false = true from hs) Bool.false_ne_true
  | bl i =>
    cases rx
    cases y with
    | non => cases ry; exact PySem.EqNone.eq_bool_none (fin_bl I q (by simp))
    | bl j => cases ry; exact eq_bool (fin_bl I q dec_bl)
    | str j => obtain ⟨t', rfl⟩ := ry; exact PySem.EqMixed.eq_bool_str (fin_bl I q (by simp))
    | _ => exact absurd (show false = true from hs) Bool.false_ne_true
  | int i =>
    obtain ⟨t, rfl⟩ := rx
    cases y with
    | non => cases ry; exact PySem.EqNone.eq_int_none (fin_bl I q (by simp))
    | int j => obtain ⟨t', rfl⟩ := ry; exact eq_int (fin_bl I q dec_int)
    | str j => obtain ⟨t', rfl⟩ := ry; exact PySem.EqMixed.eq_int_str (fin_bl I q (by simp))
    | _ => exact absurd (show false = true from hs) Bool.false_ne_true
  | str i =>
    obtain ⟨t, rfl⟩ := rx
    cases y with
    | non => cases ry; exact PySem.EqNone.eq_str_none (fin_bl I q (by simp))
    | bl j => cases ry; exact PySem.EqMixed.eq_str_bool (fin_bl I q (by simp))
    | int j => obtain ⟨t', rfl⟩ := ry; exact PySem.EqMixed.eq_str_int (fin_bl I q (by simp))
    | str j => obtain ⟨t', rfl⟩ := ry; exact eq_str (fin_bl I q dec_str)
    | _ => exact absurd (show false = true from hs) Bool.false_ne_true
  | byt i =>
    obtain ⟨t, rfl⟩ := rx
    cases y with
    | byt j => obtain ⟨t', rfl⟩ := ry; exact PySem.W.eq_bytes (fin_bl I q dec_byt)
    | _ => exact absurd (show false = true from hs) Bool.false_ne_true
  | _ => cases y <;> exact absurd (show false = true from hs) Bool.false_ne_true
theorem op_ne : OpR X (compareOp .NotEq) rNe := by
  intro pins s σ H x y v u Q I rx ry h
  obtain ⟨hs, q⟩ := h
  cases x with
  | non =>
    cases rx
    cases y with
    | non => cases ry; exact PySem.EqNone.ne_none_none (fin_bl I q (by simp))
    | bl j => cases ry; exact PySem.EqNone.ne_none_bool (fin_bl I q (by simp))
    | int j => obtain ⟨t', rfl⟩ := ry; exact PySem.EqNone.ne_none_int (fin_bl I q (by simp))
    | str j => obtain ⟨t', rfl⟩ := ry; exact PySem.EqNone.ne_none_str (fin_bl I q (by simp))
    | _ => exact absurd (show false = true from hs) Bool.false_ne_true
  | bl i =>
    cases rx
    cases y with
    | non => cases ry; exact PySem.EqNone.ne_bool_none (fin_bl I q (by simp))
    | bl j => cases ry; exact ne_bool (fin_bl I q (congrArg not dec_bl))
    | str j => obtain ⟨t', rfl⟩ := ry; exact PySem.EqMixed.ne_bool_str (fin_bl I q (by simp))
    | _ => exact absurd (show false = true from hs) Bool.false_ne_true
  | int i =>
    obtain ⟨t, rfl⟩ := rx
    cases y with
    | non => cases ry; exact PySem.EqNone.ne_int_none (fin_bl I q (by simp))
    | int j => obtain ⟨t', rfl⟩ := ry; exact ne_int (fin_bl I q (congrArg not dec_int))
    | str j => obtain ⟨t', rfl⟩ := ry; exact PySem.EqMixed.ne_int_str (fin_bl I q (by simp))
    | _ => exact absurd (show false = true from hs) Bool.false_ne_true
  | str i =>
    obtain ⟨t, rfl⟩ := rx
    cases y with
    | non => cases ry; exact PySem.EqNone.ne_str_none (fin_bl I q (by simp))
    | bl j => cases ry; exact PySem.EqMixed.ne_str_bool (fin_bl I q (by simp))
    | int j => obtain ⟨t', rfl⟩ := ry; exact PySem.EqMixed.ne_str_int (fin_bl I q (by simp))
    | str j => obtain ⟨t', rfl⟩ := ry; exact ne_str (fin_bl I q (congrArg not dec_str))
    | _ => exact absurd (show false = true from hs) Bool.false_ne_true
  | byt i =>
    obtain ⟨t, rfl⟩ := rx
    cases y with
    | byt j => obtain ⟨t', rfl⟩ := ry; exact PySem.W.ne_bytes (fin_bl I q (congrArg not dec_byt))
    | _ => exact absurd (show false = true from hs) Bool.false_ne_true
  | _ => cases y <;> exact absurd (show false = true from hs) Bool.false_ne_true

theorem op_lt : OpR X (compareOp .Lt) (rI0 fun i j => .bl (decide (i < j))) := opB0 fun _ _ _ _ _ _ _ q => lt_int q
theorem op_le : OpR X (compareOp .LtE) (rI0 fun i j => .bl (decide (i ≤ j))) := opB0 fun _ _ _ _ _ _ _ q => le_int q
theorem op_gt : OpR X (compareOp .Gt) (rI0 fun i j => .bl (decide (j < i))) := opB0 fun _ _ _ _ _ _ _ q => gt_int q
theorem op_notin_str : OpR X (compareOp .NotIn) (fun x y H Q => ∃ i j, x = .str i ∧ y = .str j ∧ Q (.bl (!(!(Builtin.Str.occurrences j i 0 j.length 1).isEmpty))) H) := by
  intro pins s σ H x y v u Q I rx ry h
  obtain ⟨i, j, rfl, rfl, q⟩ := h
  obtain ⟨t, rfl⟩ := rx
  obtain ⟨t', rfl⟩ := ry
  exact notIn_str (fin_bl I q rfl)
theorem nomark (b : Expr) {op : CmpOp} (h : op ≠ .In := by decide) (h2 : op ≠ .NotIn := by decide) : behindInMarks op b = false := by
  have e1 : (op == CmpOp.In) = false := by cases op <;> first | rfl | exact absurd rfl h
  have e2 : (op == CmpOp.NotIn) = false := by cases op <;> first | rfl | exact absurd rfl h2
  cases b <;> simp [behindInMarks, e1, e2]
/-- a comparison as a value; hm: nomark b, or (for in, not in) by with_unfolding_all rfl -/
theorem pe_cmpR {op : CmpOp} {r : R2} (ho : OpR X (compareOp op) r) (ha : PE X a ta) (hb : PE X b tb) (hm : behindInMarks op b = false) : PE X (.Compare a [op] [b] pos) (tOp r ta tb) := by
  intro pins s σ H Q I h
  exact wpAny_Compare1 (binT ha hb I h fun v u s2 x y H2 I2 rx ry q => ho pins s2 σ H2 x y v u Q I2 rx ry q) hm
/-- a reading of a value as a test -/
def tTest (t : TE) : TT := fun σ H Q => t σ H fun x H' => ∃ k, x = .bl k ∧ Q k H'
theorem pt_cmpR {op : CmpOp} {r : R2} (ho : OpR X (compareOp op) r) (ha : PE X a ta) (hb : PE X b tb) (hm : behindInMarks op b = false) : PT X (.Compare a [op] [b] pos) (tTest (tOp r ta tb)) := by
  intro pins s σ H Q I h
  refine wpAny_isTrue_Compare1 (thn (ha pins s σ H _ I h) fun v s1 ⟨x, H1, I1, r1, q1⟩ => thn (hb pins s1 σ H1 _ I1 q1) fun u s2 ⟨y, H2, I2, r2, q2⟩ =>
    thn (ho pins s2 σ H2 x y v u _ I2 r1 r2 q2) fun c s3 ⟨z, H3, I3, r3, k, e, q3⟩ => ?_) hm
  subst e
  cases r3
  exact wpAny_truthy_bool ⟨H3, I3, q3⟩
/-- a op1 b op2 c -/
def tChain (r r' : R2) (ta tb tc : TE) : TE := fun σ H Q => ta σ H fun x H1 => tb σ H1 fun y H2 => r x y H2 fun z H3 => ∃ k, z = .bl k ∧
  (if k = true then tc σ H3 fun w' H4 => r' y w' H4 Q else Q (.bl false) H3)
theorem pe_chain {op op' : CmpOp} {r r' : R2} (ho : OpR X (compareOp op) r) (ho' : OpR X (compareOp op') r') (ha : PE X a ta) (hb : PE X b tb) (hc : PE X c tc)
    (hm : lastMarks [op, op'] [b, c] = false := by with_unfolding_all rfl) : PE X (.Compare a [op, op'] [b, c] pos) (tChain r r' ta tb tc) := by
  intro pins s σ H Q I h
  refine Compare_chain (thn (ha pins s σ H _ I h) fun v s1 ⟨x, H1, I1, r1, q1⟩ => chain_link (thn (hb pins s1 σ H1 _ I1 q1) fun u s2 ⟨y, H2, I2, r2, q2⟩ =>
    thn (ho pins s2 σ H2 x y v u _ I2 r1 r2 q2) fun d s3 ⟨z, H3, I3, r3, k, e, q3⟩ => ?_)) hm
  subst e
  cases r3
  refine wpAny_truthy_bool ?_
  cases k with
  | false => exact ite_ff ⟨.bl false, H3, I3, rfl, q3⟩
  | true => exact ite_tt (chain_last (thn (hc pins s3 σ H3 _ I3 q3) fun w' s4 ⟨z', H4, I4, r4, q4⟩ => ho' pins s4 σ H4 y z' u w' Q I4 r2 r4 q4))
theorem pt_chain {op op' : CmpOp} {r r' : R2} (ho : OpR X (compareOp op) r) (ho' : OpR X (compareOp op') r') (ha : PE X a ta) (hb : PE X b tb) (hc : PE X c tc)
    (hm : lastMarks [op, op'] [b, c] = false := by with_unfolding_all rfl) : PT X (.Compare a [op, op'] [b, c] pos) (tTest (tChain r r' ta tb tc)) := by
  intro pins s σ H Q I h
  refine isTrue_chain (thn (ha pins s σ H _ I h) fun v s1 ⟨x, H1, I1, r1, q1⟩ => test_link (thn (hb pins s1 σ H1 _ I1 q1) fun u s2 ⟨y, H2, I2, r2, q2⟩ =>
    thn (ho pins s2 σ H2 x y v u _ I2 r1 r2 q2) fun d s3 ⟨z, H3, I3, r3, k, e, q3⟩ => ?_)) hm
  subst e
  cases r3
  refine wpAny_truthy_bool ?_
  cases k with
  | false =>
    obtain ⟨k', e', q'⟩ := q3
    cases e'
    exact ite_ff ⟨H3, I3, q'⟩
  | true =>
    refine ite_tt (test_last (thn (hc pins s3 σ H3 _ I3 q3) fun w' s4 ⟨z', H4, I4, r4, q4⟩ => thn (ho' pins s4 σ H4 y z' u w' _ I4 r2 r4 q4) fun d' s5 ⟨z2, H5, I5, r5, k2, e2, q5⟩ => ?_))
    subst e2
    cases r5
    exact wpAny_truthy_bool ⟨H5, I5, q5⟩

/-! ### truth -/
theorem line63 : (sizeLine : Nat) < 2 ^ 63 := by rw [sizeLine_eq]; decide
/-! ### strs and bytes -/
theorem op_add_str : OpR X (binaryOp .Add) (fun x y H Q => ∃ i j, x = .str i ∧ y = .str j ∧ i.length + j.length ≤ sizeLine ∧ Q (.str (i ++ j)) H) := by
  intro pins s σ H x y v u Q I rx ry h
  obtain ⟨i, j, rfl, rfl, hz, q⟩ := h
  obtain ⟨t, rfl⟩ := rx
  obtain ⟨t', rfl⟩ := ry
  exact add_str (fun t' tk => ⟨.str (i ++ j), H, I.tok _, ⟨_, rfl⟩, q⟩) hz
/-! ### scalar builtins, by CallR -/
theorem vals1 {x : V} {us : List Value} (r : Vals [x] us) : ∃ u, us = [u] ∧ RelV x u := by
  cases r with
  | cons r1 r2 => cases r2; exact ⟨_, rfl, r1⟩
theorem vals2 {x y : V} {us : List Value} (r : Vals [x, y] us) : ∃ u w', us = [u, w'] ∧ RelV x u ∧ RelV y w' := by
  cases r with
  | cons r1 r2 =>
    cases r2 with
    | cons r3 r4 => cases r4; exact ⟨_, _, rfl, r1, r3⟩
theorem call_max2 (hc : X.calm = true) : CallR X (.builtin "max") (fun xs H Q => ∃ i j, xs = [.int i, .int j] ∧ Q (.int (if j > i then j else i)) H) := by
  intro pins s σ H xs us Q I r h
  obtain ⟨i, j, rfl, q⟩ := h
  obtain ⟨u, w', rfl, ⟨t, rfl⟩, ⟨t', rfl⟩⟩ := vals2 r
  refine max_two_ints (I.ok.hd hc) fun h' tk k => ⟨_, H, I.kept k, ?_, q⟩
  by_cases hj : j > i
  · rw [if_pos hj, if_pos hj]; exact ⟨_, rfl⟩
  · rw [if_neg hj, if_neg hj]; exact ⟨_, rfl⟩
theorem call_min2 (hc : X.calm = true) : CallR X (.builtin "min") (fun xs H Q => ∃ i j, xs = [.int i, .int j] ∧ Q (.int (if j < i then j else i)) H) := by
  intro pins s σ H xs us Q I r h
  obtain ⟨i, j, rfl, q⟩ := h
  obtain ⟨u, w', rfl, ⟨t, rfl⟩, ⟨t', rfl⟩⟩ := vals2 r
  refine min_two_ints (I.ok.hd hc) fun h' tk k => ⟨_, H, I.kept k, ?_, q⟩
  by_cases hj : j < i
  · rw [if_pos hj, if_pos hj]; exact ⟨_, rfl⟩
  · rw [if_neg hj, if_neg hj]; exact ⟨_, rfl⟩
theorem call_str_int : CallR X (.type "str") (fun xs H Q => ∃ i, xs = [.int i] ∧ i.natAbs.log2 < 1920 ∧ Q (.str (toString i)) H) := by
  intro pins s σ H xs us Q I r h
  obtain ⟨i, rfl, hz, q⟩ := h
  obtain ⟨u, rfl, t, rfl⟩ := vals1 r
  exact PySem.P.str_of_int hz ⟨.str _, H, I.tok _, ⟨_, rfl⟩, q⟩
end
end L2

namespace L2
open PySem PySem.Spec PyProof.Rows

/-! ### an instance, its attributes a map -/
structure ObjM (h : Heap) (x dx C : Addr) (mA : Str → Option Value) : Prop where
  obj : h.get? x = some (PySem.W.instObj C dx)
  ns : h.Ns1 dx mA
  ne : dx ≠ x

theorem lookIn_ns {h : Heap} {dx : Addr} {mA : Str → Option Value} (n : h.Ns1 dx mA) : ∃ od, h.get? dx = some od ∧ ∀ name, PySem.W.lookIn name od = some (mA name) := by
  obtain ⟨o, es, ep, ho, hd, hk, _, hm⟩ := n
  refine ⟨o, ho, fun name => ?_⟩
  have e := hm name
  unfold nsFind findBy at e
  rw [← Array.find?_toList] at e
  unfold PySem.W.lookIn
  rw [hd]
  dsimp only
  split
  · rename_i y q
    rw [q] at e
    exact congrArg some e
  · rename_i q
    rw [q] at e
    have a : es.toList.any (·.refKey) = false := by
      rw [List.any_eq_false]
      intro y hy
      obtain ⟨z, t, hkey⟩ := hk y (Array.mem_toList_iff.mp hy)
      simp [DictEntry.refKey, hkey]
    have a' : ¬ es.toList.any (·.refKey) = true := by rw [a]; exact Bool.false_ne_true
    rw [if_neg a']
    exact congrArg some e

theorem ObjM.look {h : Heap} {x dx C : Addr} {mA : Str → Option Value} (I : ObjM h x dx C mA) : ∃ od, PySem.W.InstAt h x (PySem.W.instObj C dx) C (some od) ∧ ∀ name, PySem.W.lookIn name od = some (mA name) :=
  let ⟨od, ho, hl⟩ := lookIn_ns I.ns
  ⟨od, ⟨I.obj, rfl, rfl, ho⟩, hl⟩

section
variable {prog : Program} {w : World} {A : Around} {E : Value → Shared → Prop} {s : Shared} {K : PySem.W.Frag} {x dx C f : Addr} {mA : Str → Option Value} {name : Str} {v : Value}

theorem set_map {ns : List Str} {Q : Unit → Shared → Prop} (X : K.In s.heap) (I : ObjM s.heap x dx C mA)
    (hs : PySem.W.findIn K (.ref C) "__setattr__" = some (some (.builtin "object.__setattr__"))) (hp : PySem.W.plainOver K C = true) (ht : PySem.W.takerIn K C name = some none) (hh : PySem.W.hasDictIn K C = true)
    (hw : PySem.Within mA ns) (hsz : ns.length ≤ sizeLine)
    (h : ∀ h', ObjM h' x dx C (fun y => if y = name then some v else mA y) → Heap.SameBut dx s.heap h' → Q () { s with heap := h', toks := s.toks + 2 }) :
    wpAny (model prog w) A (setAttr (.ref x) name v) Q E s := by
  obtain ⟨od, J, hl⟩ := I.look
  refine PySem.W.set_plain X J hs (PySem.W.osa_open (s := { s with toks := s.toks + 1 }) (r := none) X J hp ht fun b => ?_)
  obtain ⟨cd, hc, hd'⟩ := PySem.W.any_some hh
  have hx : s.heap.get? x = some ⟨.ref C, some dx, .plain, #[]⟩ := I.obj
  refine wpAny_bind (wpAny_pure (wpAny_bind (wpAny_bind (wpAny_loadPart hx (wpAny_bind (PySem.W.Looks.here (s := { s with toks := s.toks + 1 }) (PySem.W.looks_clsIn X hc) ?_))))))
  rw [hd']
  refine wpAny_pure (a := some dx) (wpAny_bind (wpAny_pure (wpAny_bind ?_)))
  refine wpAny_nsSet1 (s := { s with toks := s.toks + 1 }) I.ns fun h' hn2 hs2 => ?_
  obtain ⟨oD, esD, epD, hoD, hdD, hcD⟩ := hn2.count (PySem.Within.cons name v hw)
  refine wpAny_bind (wpAny_lookBehind hoD (by rw [hdD]; exact pastItsLine_dict (Nat.le_trans hcD (by rw [List.length_cons]; omega))) ?_)
  exact wpAny_pure (h _ ⟨(hs2.2 _ (Ne.symm I.ne)).trans I.obj, hn2, I.ne⟩ hs2)

/-- C(..): the dict at the heap's end, the instance behind it; then its __init__ -/
theorem make_map {R : Result → Shared → Prop} {vs : List Value} {kw : List (Str × Value)} (X : K.In s.heap) (hm : PySem.W.makesIn K C = true)
    (hi : PySem.W.findIn K (.ref C) "__init__" = some (some (.ref f))) (hf : PySem.W.typeIn K (.ref f) = some (.type "function"))
    (h : codeAny (model prog w) (A.under (.builtin "type.__call__" ⟨.ref C :: vs, kw⟩)) (.call (.ref f) ⟨.ref (s.heap.objs.size + 1) :: vs, kw⟩) (PySem.W.InitBack (s.heap.objs.size + 1) R)
      { s with heap := (s.heap.push PySem.W.emptyDict).push (PySem.W.instObj C s.heap.objs.size) }) :
    codeAny (model prog w) A (.call (.ref C) ⟨vs, kw⟩) R s := by
  obtain ⟨hh, g, d, t, os⟩ := s
  exact PySem.W.make_core (PySem.W.makes_of X hm) (PySem.W.looks_findIn X hi) (fun self => PySem.W.bind_fn X self hf) (.inl rfl) h
end

/-! ### the attributes as a list of pairs -/
def putF (f : Str) (v : V) : List (Str × V) → List (Str × V)
  | [] => [(f, v)]
  | (g, x) :: r => if g = f then (g, v) :: r else (g, x) :: putF f v r
theorem lookup_putF (f g : Str) (v : V) : ∀ fs : List (Str × V), (putF f v fs).lookup g = if g = f then some v else fs.lookup g
  | [] => by
    show List.lookup g [(f, v)] = _
    by_cases h : g = f
    · have hb : (g == f) = true := beq_iff_eq.mpr h
      simp only [List.lookup, hb, if_pos h]
    · have hb : (g == f) = false := beq_eq_false_iff_ne.mpr h
      simp only [List.lookup, hb, if_neg h]
  | (k, x) :: r => by
    have ih := lookup_putF f g v r
    rw [show putF f v ((k, x) :: r) = (if k = f then (k, v) :: r else (k, x) :: putF f v r) from rfl]
    by_cases hk : k = f
    · rw [if_pos hk]
      by_cases h : g = k
      · have hb : (g == k) = true := beq_iff_eq.mpr h
        simp only [List.lookup, hb, if_pos (h.trans hk)]
      · have hb : (g == k) = false := beq_eq_false_iff_ne.mpr h
        simp only [List.lookup, hb, if_neg (fun e : g = f => h (e.trans hk.symm))]
    · rw [if_neg hk]
      by_cases h : g = k
      · have hb : (g == k) = true := beq_iff_eq.mpr h
        simp only [List.lookup, hb, if_neg (fun e : g = f => hk (h.symm.trans e))]
      · have hb : (g == k) = false := beq_eq_false_iff_ne.mpr h
        simp only [List.lookup, hb]
        exact ih
theorem keys_putF (f : Str) (v : V) : ∀ fs : List (Str × V), f ∈ (putF f v fs).map (·.1) ∧ ∀ g, g ∈ fs.map (·.1) → g ∈ (putF f v fs).map (·.1)
  | [] => ⟨by simp [putF], fun g h => by simp at h⟩
  | (k, x) :: r => by
    obtain ⟨i1, i2⟩ := keys_putF f v r
    rw [show putF f v ((k, x) :: r) = (if k = f then (k, v) :: r else (k, x) :: putF f v r) from rfl]
    by_cases hk : k = f
    · rw [if_pos hk]
      subst hk
      exact ⟨by simp, fun g h => by simpa using h⟩
    · rw [if_neg hk]
      refine ⟨?_, fun g h => ?_⟩
      · rw [List.map_cons]
        exact List.mem_cons_of_mem _ i1
      · rw [List.map_cons] at h ⊢
        rcases List.mem_cons.mp h with e | e
        · exact List.mem_cons.mpr (.inl e)
        · exact List.mem_cons_of_mem _ (i2 g e)
theorem length_putF (f : Str) (v : V) : ∀ fs : List (Str × V), (putF f v fs).length ≤ fs.length + 1
  | [] => by simp [putF]
  | (k, x) :: r => by
    have ih := length_putF f v r
    rw [show putF f v ((k, x) :: r) = (if k = f then (k, v) :: r else (k, x) :: putF f v r) from rfl]
    by_cases hk : k = f
    · rw [if_pos hk, List.length_cons, List.length_cons]; omega
    · rw [if_neg hk, List.length_cons, List.length_cons]; omega

section
variable {P : Program} {w : World} {H H' : Hp} {h h' : Heap} {a C dx : Addr} {fs fs' : List (Str × V)}
theorem ins_get (hok : HOk P w H h) (e : H a = some (.ins C dx fs)) : ∃ mA, ObjM h a dx C mA ∧ (∀ f, RelO (fs.lookup f) (mA f)) ∧ PySem.Within mA (fs.map (·.1)) ∧ fs.length ≤ 1000 ∧ H dx = some (.own a) := by
  obtain ⟨d, z, ne, ob, mA, n, r, q⟩ := (show ObjOk P w H h a (.ins C dx fs) from hok a _ e)
  exact ⟨mA, ⟨ob, n, ne⟩, r, q, z, d⟩
end

/-! ### what of the text a class must have -/
structure Cls (K : PySem.W.Frag) (C : Addr) : Prop where
  pg : PySem.W.plainGet K C Str.empty = true
  hd : PySem.W.hasDictIn K C = true
  po : PySem.W.plainOver K C = true
  sa : PySem.W.findIn K (.ref C) "__setattr__" = some (some (.builtin "object.__setattr__"))
theorem Cls.get {K : PySem.W.Frag} {C : Addr} (c : Cls K C) (f : Str) : PySem.W.plainGet K C f = true := c.pg
/-- no class of it has the name -/
def NoAttr (K : PySem.W.Frag) (C : Addr) (f : Str) : Prop := PySem.W.findIn K (.ref C) f = some none
theorem NoAttr.taker {K : PySem.W.Frag} {C : Addr} {f : Str} (n : NoAttr K C f) : PySem.W.takerIn K C f = some none := by
  unfold PySem.W.takerIn
  rw [show PySem.W.findIn K (.ref C) f = some none from n]
  rfl
/-- a constant of the class -/
structure Con (K : PySem.W.Frag) (C : Addr) (f : Str) (v : V) (u : Value) : Prop where
  at_ : PySem.W.findIn K (.ref C) f = some (some u)
  rel : RelV v u
  get : PySem.W.specialIn K u "__get__" = some none
  cp : PySem.W.copiedNames.contains f = false
/-- a method: a plain def of the class or of one above it -/
structure Meth (K : PySem.W.Frag) (C : Addr) (m : Str) (f : Addr) : Prop where
  at_ : PySem.W.findIn K (.ref C) m = some (some (.ref f))
  fn : PySem.W.isFn K (.ref f) = true
  kp : PySem.W.keepIn K (.ref f) = true

section
variable {X : Cx} {pins : List (Addr × Obj)} {σ : St} {H : Hp} {s : Shared} {a C dx : Addr} {fs : List (Str × V)} {f : Str} {v : V} {A : Around} {E : Value → Shared → Prop}

theorem setattr_ok {y : V} {u : Value} {Q : Unit → Shared → Prop} (I : Inv X pins σ H s) (e : H a = some (.ins C dx fs)) (c : Cls X.K C) (n : NoAttr X.K C f) (hl : fs.length < 1000) (ry : RelV y u)
    (h : ∀ s', Inv X pins σ (upd H a (.ins C dx (putF f y fs))) s' → Q () s') : wpAny (model X.prog X.w) A (setAttr (.ref a) f u) Q E s := by
  obtain ⟨mA, O, r, wi, _, ho⟩ := ins_get I.hok e
  have hz : (fs.map (·.1)).length ≤ sizeLine := by rw [List.length_map, sizeLine_eq]; omega
  refine set_map I.kIn O c.sa c.po n.taker c.hd wi hz fun h' O' sb => h _ ?_
  have hd : ∃ o, h'.get? dx = some o := let ⟨o, _, _, e', _⟩ := O'.ns; ⟨o, e'⟩
  refine I.write (x := a) (e := dx) (by rw [e]; exact True.intro) (.inr ho) (fun b q hb z => (sb.2 b hb).trans z) hd ?_
  refine ⟨by rw [upd_ne O.ne]; exact ho, ?_, O.ne, O'.obj, _, O'.ns, fun g => ?_, fun g hg => ?_⟩
  · have := length_putF f y fs; omega
  · show RelO ((putF f y fs).lookup g) (if g = f then some u else mA g)
    rw [lookup_putF]
    by_cases q : g = f
    · rw [if_pos q, if_pos q]; exact ry
    · rw [if_neg q, if_neg q]; exact r g
  · by_cases q : g = f
    · rw [q]; exact (keys_putF f y fs).1
    · refine (keys_putF f y fs).2 g (wi g fun z => hg ?_)
      show (if g = f then some u else mA g) = none
      rw [if_neg q]; exact z

/-- a new instance, tracked, without attributes -/
theorem Inv.made (I : Inv X pins σ H s) : Inv X pins σ (upd (upd H s.heap.objs.size (.own (s.heap.objs.size + 1))) (s.heap.objs.size + 1) (.ins C s.heap.objs.size []))
    { s with heap := (s.heap.push PySem.W.emptyDict).push (PySem.W.instObj C s.heap.objs.size) } := by
  have e1 : (s.heap.push PySem.W.emptyDict).get? s.heap.objs.size = some PySem.W.emptyDict := Heap.get?_push_size s.heap rfl
  have e2 : ((s.heap.push PySem.W.emptyDict).push (PySem.W.instObj C s.heap.objs.size)).get? (s.heap.objs.size + 1) = some (PySem.W.instObj C s.heap.objs.size) := by
    have := Heap.get?_push_size (s.heap.push PySem.W.emptyDict) (o := PySem.W.instObj C s.heap.objs.size) rfl
    rwa [Heap.size_push] at this
  have e3 : (s.heap.push PySem.W.emptyDict).Ns s.heap.objs.size (fun _ => none) := ⟨PySem.W.emptyDict, #[], _, e1, rfl, (fun e he => absurd he (by simp)), fun _ => rfl⟩
  have I1 := I.laid (a := s.heap.objs.size) (o := .own (s.heap.objs.size + 1)) (h' := s.heap.push PySem.W.emptyDict) (t' := s.toks) (fun b u q => Heap.get?_push_of_some _ q) (Nat.le_refl _) ⟨_, e1⟩
  refine I1.laid (a := s.heap.objs.size + 1) (o := .ins C s.heap.objs.size []) (t' := s.toks) (fun b u q => Heap.get?_push_of_some _ q) (Nat.le_of_eq (Heap.size_push _ _)) ?_
  have ne : s.heap.objs.size ≠ s.heap.objs.size + 1 := Nat.ne_of_lt (Nat.lt_succ_self _)
  refine ⟨by rw [upd_ne ne, upd_same], Nat.zero_le _, ne, e2, fun _ => none, (Heap.Ns1.of_empty e3).at fun o q => Heap.get?_push_of_some _ q, fun _ => True.intro, fun y hy => absurd rfl hy⟩

end

/-! ### readings and rules -/
/-- e.f = value -/
def sFld (K : PySem.W.Frag) (ta tv : TE) (f : Str) : TS := fun D σ H => tv σ H fun y H1 => ta σ H1 fun x H2 => ∃ a C dx fs, x = .ref a ∧ H2 a = some (.ins C dx fs) ∧ Cls K C ∧ NoAttr K C f ∧ fs.length < 1000 ∧
  D.nx σ (upd H2 a (.ins C dx (putF f y fs)))
section
variable {X : Cx} {o e value : Expr} {f : Str} {pos pos' tpos : Pos} {ta tv : TE}
theorem ps_fld (ha : PE X o ta) (hv : PE X value tv) (hs : swapsWith value (some (.Attribute o f pos')) pos.line X.env = pure false) : PS X (.Assign [.Attribute o f pos'] value pos) (sFld X.K ta tv f) := by
  intro pins s σ H D I h
  refine plainObj_wpAny_Assign_Attribute (thn (hv pins s σ H _ I h) fun u s1 ⟨y, H1, I1, ry, q⟩ => thn (ha pins s1 σ H1 _ I1 q) fun ov s2 ⟨x, H2, I2, rx, a, C, dx, fs, ex, ea, c, n, l, q2⟩ => ?_) hs
  subst ex
  obtain rfl : ov = Value.ref a := rx
  exact setattr_ok I2 ea c n l ry fun s3 I3 => ⟨σ, _, I3, q2⟩
end

/-! ### isinstance -/
section
variable {X : Cx} {pins : List (Addr × Obj)} {σ : St} {H : Hp} {s : Shared} {A : Around} {E : Value → Shared → Prop} {Q : Value → Shared → Prop} {c : Value} {b : Bool}
/-- the type of a value, as the fragment's deciders take it; for an instance its class -/
inductive TyOf (K : PySem.W.Frag) (H : Hp) : V → Value → Prop where
  | non : TyOf K H .non (.type "NoneType")
  | bl (x : Bool) : TyOf K H (.bl x) (.type "bool")
  | int (i : Int) : TyOf K H (.int i) (.type "int")
  | str (x : Str) : TyOf K H (.str x) (.type "str")
  | flt (x : UInt64) : TyOf K H (.flt x) (.type "float")
  | lst {a : Addr} {xs : List V} (e : H a = some (.lst xs)) : TyOf K H (.ref a) (.type "list")
  | frz {a : Addr} {o : Obj} {xs : List V} (e : H a = some (.frz o (.lst xs))) : TyOf K H (.ref a) (.type "list")
  | tup {a : Addr} {xs : List V} (e : H a = some (.tup xs)) : TyOf K H (.ref a) (.type "tuple")
  | dK {a : Addr} {kvs : List (Key × V)} (e : H a = some (.dK kvs)) : TyOf K H (.ref a) (.type "dict")
  | dT {a : Addr} {kvs : List (List Key × V)} (e : H a = some (.dT kvs)) : TyOf K H (.ref a) (.type "dict")
  | ins {a C dx : Addr} {fs : List (Str × V)} (e : H a = some (.ins C dx fs)) (cl : Cls K C) (ha : PySem.W.findIn K (.ref C) "__class__" = some (some (.builtin "object.__class__")))
      (hn : PySem.W.specialIn K (.builtin "object.__class__") "__get__" = some (some (.builtin "getset_descriptor.__get__"))) (htk : PySem.W.takesIn K (.builtin "object.__class__") = some true)
      (hm : PySem.W.mroIn K C (.type "object") = some true) : TyOf K H (.ref a) (.ref C)
end
end L2

namespace L2
open PySem PySem.Spec PyProof.Rows

/-! ### room -/
structure Room (k : Nat) (A : Around) : Prop where
  hd : A.handled = none
  dp : A.depth + 3 * k + 5 < recursionLimit
  un : A.units + 16 * k + 200 < cLine
theorem Room.mono {j k : Nat} {A : Around} (r : Room k A) (h : j ≤ k) : Room j A := ⟨r.hd, by have := r.dp; omega, by have := r.un; omega⟩
theorem Room.deeper {k : Nat} {A : Around} (r : Room (k + 1) A) (env : Env) : Room k (A.deeper env) :=
  ⟨r.hd, by have := r.dp; show A.depth + 1 + 3 * k + 5 < _; omega, by have := r.un; show A.units + 3 + 16 * k + 200 < _; omega⟩
theorem make_depth {A : Around} {C : Addr} {us : List Value} {kw : List (Str × Value)} : (A.under (.builtin "type.__call__" ⟨.ref C :: us, kw⟩)).depth = A.depth + 1 := by
  first | rfl | simp [Around.under, Code.weight, Code.isCreation, Code.isGuard, Code.isCaller, Code.frames, Code.isFrame, guardIds]
theorem make_units {A : Around} {C : Addr} {us : List Value} {kw : List (Str × Value)} : (A.under (.builtin "type.__call__" ⟨.ref C :: us, kw⟩)).units = A.units + 1 := by
  first | rfl | simp [Around.under, Code.cUnits, Code.frames, Code.isFrame]
theorem Room.make {k : Nat} {A : Around} (r : Room (k + 1) A) (C : Addr) (us : List Value) (kw : List (Str × Value)) : Room k (A.under (.builtin "type.__call__" ⟨.ref C :: us, kw⟩)) :=
  ⟨r.hd, by have := r.dp; rw [make_depth]; omega, by have := r.un; rw [make_units]; omega⟩
theorem Room.depth {k : Nat} {A : Around} (r : Room k A) : A.depth < recursionLimit := by have := r.dp; omega
theorem Room.units {k : Nat} {A : Around} (r : Room k A) : A.units + 64 < cLine := by have := r.un; omega
/-! ### argument lists and displays -/
def tNil : TA := fun _ H Q => Q [] H
def tCons (ta : TE) (tr : TA) : TA := fun σ H Q => ta σ H fun x H1 => tr σ H1 fun xs H2 => Q (x :: xs) H2
section
variable {X : Cx} {e : Expr} {es : List Expr} {te : TE} {t : TA} {pos : Pos}
theorem pa_nil : PA X [] tNil := fun _ _ _ _ H Q I h => Calls.spliced_nil ⟨[], H, I, .nil, h⟩
theorem pa_cons (ha : PE X e te) (hr : PA X es t) (hs : starEach (e :: es) X.env = (false, eval e X.env) :: starEach es X.env := by rfl) : PA X (e :: es) (tCons te t) := by
  intro pos pins s σ H Q I h
  rw [hs]
  show wpAny _ _ (spliced ((false, eval e X.env) :: backTo pos (starEach es X.env))) _ _ s
  refine Calls.spliced_cons (thn (ha pins s σ H _ I h) fun u s1 ⟨x, H1, I1, r1, q1⟩ => ?_)
  exact thn (hr pos pins s1 σ H1 _ I1 q1) fun us s2 ⟨xs, H2, I2, r2, q2⟩ => ⟨x :: xs, H2, I2, .cons r1 r2, q2⟩

/-- a tuple, a list of written items -/
def tTup (t : TA) : TE := fun σ H Q => t σ H fun xs H1 => xs.length ≤ sizeLine ∧ ∀ p, H1 p = none → Q (.ref p) (upd H1 p (.tup xs))
def tLst (t : TA) : TE := fun σ H Q => t σ H fun xs H1 => xs.length ≤ sizeLine ∧ ∀ p, H1 p = none → Q (.ref p) (upd H1 p (.lst xs))
theorem pe_tup {x1} (h : PA X es t) : PE X (.Tuple es x1 pos) (tTup t) := by
  intro pins s σ H Q I hq
  refine wpAny_Tuple_spliced (thn (h pos pins s σ H _ I hq) fun us s1 ⟨xs, H1, I1, r, z, q⟩ => ⟨by rw [← r.length]; exact z, ?_⟩)
  have hf : H1 s1.heap.objs.size = none := I1.hok.fresh (Nat.le_refl _)
  refine ⟨.ref s1.heap.objs.size, upd H1 s1.heap.objs.size (.tup xs), I1.laid (t' := s1.toks) (fun b u e => Heap.get?_push_of_some _ e) (Nat.le_refl _) ?_, rfl, q _ hf⟩
  exact ⟨z, us, r, ⟨_, Heap.get?_push_size _ rfl, rfl, _, rfl⟩⟩
theorem pe_lst (h : PA X es t) : PE X (.List es pos) (tLst t) := by
  intro pins s σ H Q I hq
  refine wpAny_List_spliced (thn (h pos pins s σ H _ I hq) fun us s1 ⟨xs, H1, I1, r, z, q⟩ => ⟨by rw [← r.length]; exact z, ?_⟩)
  have hf : H1 s1.heap.objs.size = none := I1.hok.fresh (Nat.le_refl _)
  refine ⟨.ref s1.heap.objs.size, upd H1 s1.heap.objs.size (.lst xs), I1.laid (t' := s1.toks) (fun b u e => Heap.get?_push_of_some _ e) (Nat.le_refl _) ?_, rfl, q _ hf⟩
  exact ⟨z, us, 0, r, Heap.get?_push_size _ rfl⟩
end

/-! ### what a def promises -/
/-- a def's promise: the bound arguments in the parameters' order, the heap, the wanted end, the wanted exception -/
abbrev Sp := List V → Hp → VK → XK → Prop
/-- how an exception lies behind a call (file 08 gives it): the callers' frames, abstract heap and state ahead of the call, the wish, the exception, the state -/
abbrev CXT := List Env → Hp → Shared → XK → Value → Shared → Prop

/-- the state at a call -/
structure Env0 (P : Program) (w : World) (K : PySem.W.Frag) (mg : Str → Option Value) (base : Heap) (A : Around) (outer : List Env) (s : Shared) (H : Hp) : Prop where
  frames : A.frames = some outer
  mod : Mod K mg base
  bs : ∀ b o, base.get? b = some o → s.heap.get? b = some o ∧ H b = none
  bsz : base.objs.size ≤ s.heap.objs.size
  funs : s.heap.FunFrames base outer
  frf : ∀ b ∈ frs outer, H b = none
  hok : HOk P w H s.heap
  bare : AllBare s.gens
/-- a call's end -/
def CE (outer : List Env) (P : Program) (w : World) (H : Hp) (s : Shared) (Q : VK) (u : Value) (s' : Shared) : Prop :=
  ∃ v H', s'.os = s.os ∧ AllBare s'.gens ∧ Un (frs outer) [] H H' s.heap s'.heap ∧ HOk P w H' s'.heap ∧ RelV v u ∧ Q v H'
def CR (CX : CXT) (outer : List Env) (P : Program) (w : World) (H : Hp) (s : Shared) (Q : VK) (E : XK) (r : Result) (s' : Shared) : Prop :=
  match r with
  | .ok (.ret u) => CE outer P w H s Q u s'
  | .ok _ => False
  | .error e => CX outer H s E e s'
structure FnOk (P : Program) (w : World) (K : PySem.W.Frag) (mg : Str → Option Value) (base : Heap) (CX : CXT) (k : Nat) (f : Addr) (fd : FuncData) (ps : List Str) (sp : Sp) : Prop where
  len : ∀ vs H Q E, sp vs H Q E → vs.length = ps.length
  run : ∀ (A : Around) (outer : List Env) (s : Shared) (H : Hp) (args : Args) (us : List Value) (vs : List V) (Q : VK) (E : XK), Room k A → Env0 P w K mg base A outer s H → BindsTo s fd args (ps.zip us) → Vals vs us → sp vs H Q E →
    codeAny (model P w) A (.call (.ref f) args) (CR CX outer P w H s Q E) s
theorem FnOk.mono {P : Program} {w : World} {K : PySem.W.Frag} {mg : Str → Option Value} {base : Heap} {CX : CXT} {j k : Nat} {f : Addr} {fd : FuncData} {ps : List Str} {sp : Sp} (F : FnOk P w K mg base CX j f fd ps sp) (h : j ≤ k) :
    FnOk P w K mg base CX k f fd ps sp := ⟨F.len, fun A outer s H args us vs Q E hr => F.run A outer s H args us vs Q E (hr.mono h)⟩
/-- a weaker promise -/
theorem FnOk.imp {P : Program} {w : World} {K : PySem.W.Frag} {mg : Str → Option Value} {base : Heap} {CX : CXT} {k : Nat} {f : Addr} {fd : FuncData} {ps : List Str} {sp sp' : Sp} (F : FnOk P w K mg base CX k f fd ps sp)
    (h : ∀ vs H Q E, sp' vs H Q E → sp vs H Q E) : FnOk P w K mg base CX k f fd ps sp' :=
  ⟨fun vs H Q E q => F.len vs H Q E (h _ _ _ _ q), fun A outer s H args us vs Q E hr he hb hv hs => F.run A outer s H args us vs Q E hr he hb hv (h _ _ _ _ hs)⟩

theorem Env0.make {P : Program} {w : World} {K : PySem.W.Frag} {mg : Str → Option Value} {base : Heap} {A : Around} {outer : List Env} {s : Shared} {H : Hp} (e : Env0 P w K mg base A outer s H) (C : Addr) (us : List Value) (kw : List (Str × Value)) :
    Env0 P w K mg base (A.under (.builtin "type.__call__" ⟨.ref C :: us, kw⟩)) outer s H := ⟨by first | exact e.frames | (simpa [Around.under, Code.envs, Code.isFrame, pushEnvs] using e.frames), e.mod, e.bs, e.bsz, e.funs, e.frf, e.hok, e.bare⟩
section
variable {X : Cx} {pins : List (Addr × Obj)} {σ : St} {H : Hp} {s s' : Shared}
/-- from a body: what a callee wants -/
theorem Inv.env0 (I : Inv X pins σ H s) : Env0 X.prog X.w X.K X.mg X.base X.A X.stack s H :=
  ⟨I.ok.frames, I.ok.mod, I.bs, Nat.le_trans I.ok.bsz I.sz, I.stack, I.stkFree, I.hok, I.bare⟩
/-- behind a call -/
theorem Inv.after {Q : VK} {u : Value} (I : Inv X pins σ H s) (h : CE X.stack X.prog X.w H s Q u s') : EP X pins σ Q u s' := by
  obtain ⟨v, H', os, bare, un, hok, r, q⟩ := h
  obtain ⟨hh, g, d, t, os'⟩ := s'
  obtain rfl : os' = s.os := os
  exact ⟨v, H', I.call (h' := hh) (g' := g) (d' := d) (t' := t) (ch := []) un hok bare (fun b z => absurd z (by simp)), r, q⟩
end

/-! ### calls -/
/-- f(..): the written arguments, then the defaults dvs; E: what is wanted of an exception -/
def tCall (sp : Sp) (dvs : List V) (E : XK) (t : TA) : TE := fun σ H Q => t σ H fun vs H1 => sp (vs ++ dvs) H1 Q E
/-- C(..): a new instance and its dict, then __init__ -/
def tMake (C : Addr) (sp : Sp) (dvs : List V) (E : XK) (t : TA) : TE := fun σ H Q => t σ H fun vs H1 => ∀ x dx, H1 x = none → H1 dx = none → dx ≠ x →
  sp (.ref x :: (vs ++ dvs)) (upd (upd H1 dx (.own x)) x (.ins C dx [])) (fun v H2 => v = .non ∧ Q (.ref x) H2) E

/-- how the parameters are bound: us the positional arguments, kw the keywords' values by name, ds the defaults that fill up -/
def Binds (K : PySem.W.Frag) (fd : FuncData) (ps : List Str) (ds : List Value) : Prop :=
  ∀ (s : Shared) (us : List Value), K.In s.heap → (us ++ ds).length = ps.length → BindsTo s fd ⟨us, []⟩ (ps.zip (us ++ ds))
/-- every parameter is given -/
theorem Binds.all {K : PySem.W.Frag} {fd : FuncData} {ps : List Str} (h : ∀ us : List Value, us.length = ps.length → bindArgs fd ⟨us, []⟩ = pure (ps.zip us)) : Binds K fd ps [] := fun s us _ hl => by
  rw [List.append_nil] at hl ⊢
  exact .of_eq (h us hl)

/-- an exception of a callee reaches what this body wants of exceptions -/
def Passes (CX : CXT) (X : Cx) (E : XK) : Prop := ∀ (pins : List (Addr × Obj)) (σ : St) (H : Hp) (s : Shared) (e : Value) (s' : Shared), Inv X pins σ H s → CX X.stack H s E e s' → X.xe e s'

section
variable {X : Cx} {CX : CXT} {k : Nat} {f C : Addr} {fd : FuncData} {ps : List Str} {sp : Sp} {dvs : List V} {ds : List Value} {E : XK} {x m : Str} {p pos apos : Pos} {e o : Expr} {es : List Expr} {ta : TE} {t : TA}

/-- the callee runs -/
theorem run_fn {pins : List (Addr × Obj)} {σ : St} {H : Hp} {s : Shared} {Q : VK} {us : List Value} {vs : List V} (F : FnOk X.prog X.w X.K X.mg X.base CX k f fd ps sp) (hr : Room k X.A) (hb : Binds X.K fd ps ds) (hd : Vals dvs ds) (hx : Passes CX X E)
    (I : Inv X pins σ H s) (r : Vals vs us) (h : sp (vs ++ dvs) H Q E) : wpAny (model X.prog X.w) X.A (call (.ref f) us) (EP X pins σ Q) X.xe s := by
  have r2 : Vals (vs ++ dvs) (us ++ ds) := r.append hd
  have hl : (us ++ ds).length = ps.length := by rw [← r2.length]; exact F.len _ _ _ _ h
  refine wpAny_call (codeAny_mono (F.run X.A X.stack s H ⟨us, []⟩ (us ++ ds) (vs ++ dvs) Q E hr I.env0 (hb s us I.kIn hl) r2 h) fun r s' hq => ?_)
  cases r with
  | error e => exact hx pins σ H s e s' I hq
  | ok fl =>
    cases fl with
    | ret u => exact I.after hq
    | next => exact False.elim hq
    | brk => exact False.elim hq
    | cont => exact False.elim hq

theorem pe_call (F : FnOk X.prog X.w X.K X.mg X.base CX k f fd ps sp) (hr : Room k X.A) (hg : Gl X x) (hm : X.mg x = some (.ref f)) (hk : PySem.W.keepIn X.K (.ref f) = true) (hb : Binds X.K fd ps ds) (hd : Vals dvs ds) (hx : Passes CX X E)
    (ha : PA X (e :: es) t) (hdb : (x == ("__debug__" : Str)) = false := by decide) (he : starEach (e :: es) X.env = (false, eval e X.env) :: starEach es X.env := by rfl) (hpl : (backTo pos (starEach es X.env)).any (·.1) = false := by rfl) :
    PE X (.Call (.Name x p) (e :: es) [] pos) (tCall sp dvs E t) := by
  intro pins s σ H Q I h
  refine wpAny_Call_Name_kw (ld_glob I hg hm ?_ hdb)
  refine PySem.W.callWith_K (h₀ := X.base) I.ok.mod.kin hk (thn (ha pos pins s σ H _ I h) fun us s1 ⟨vs, H1, I1, r, q⟩ => ⟨I1.kIn, ?_⟩) he hpl
  exact run_fn F hr hb hd hx I1 r q
/-- what a class must have to be made -/
structure Mk (K : PySem.W.Frag) (C f : Addr) : Prop where
  makes : PySem.W.makesIn K C = true
  init : PySem.W.findIn K (.ref C) "__init__" = some (some (.ref f))
  fn : PySem.W.isFn K (.ref f) = true
  kp : PySem.W.keepIn K (.ref C) = true

theorem run_make {pins : List (Addr × Obj)} {σ : St} {H : Hp} {s : Shared} {Q : VK} {us : List Value} {vs : List V} (M : Mk X.K C f) (F : FnOk X.prog X.w X.K X.mg X.base CX k f fd ps sp) (hr : Room (k + 1) X.A) (hb : Binds X.K fd ps ds) (hd : Vals dvs ds)
    (hx : Passes CX X E) (I : Inv X pins σ H s) (r : Vals vs us)
    (h : ∀ x dx, H x = none → H dx = none → dx ≠ x → sp (.ref x :: (vs ++ dvs)) (upd (upd H dx (.own x)) x (.ins C dx [])) (fun v H2 => v = .non ∧ Q (.ref x) H2) E) :
    wpAny (model X.prog X.w) X.A (call (.ref C) us) (EP X pins σ Q) X.xe s := by
  have hq := h (s.heap.objs.size + 1) s.heap.objs.size (I.hok.fresh (Nat.le_succ _)) (I.hok.fresh (Nat.le_refl _)) (Nat.ne_of_lt (Nat.lt_succ_self _))
  have I2 := Inv.made (C := C) I
  have r2 : Vals (V.ref (s.heap.objs.size + 1) :: (vs ++ dvs)) (Value.ref (s.heap.objs.size + 1) :: (us ++ ds)) := .cons rfl (r.append hd)
  have hl : (Value.ref (s.heap.objs.size + 1) :: us ++ ds).length = ps.length := by
    have e := r2.length
    rw [F.len _ _ _ _ hq] at e
    exact e.symm
  refine wpAny_call (make_map (f := f) I.kIn M.makes M.init (beq_iff_eq.mp M.fn) (codeAny_mono (F.run _ X.stack _ _ ⟨Value.ref (s.heap.objs.size + 1) :: us, []⟩ (Value.ref (s.heap.objs.size + 1) :: (us ++ ds)) _ _ E (hr.make C us [])
    (I2.env0.make C us []) (hb _ (Value.ref (s.heap.objs.size + 1) :: us) I2.kIn hl) r2 hq) fun r s' hq' => ?_))
  cases r with
  | error e => exact hx pins σ _ _ e s' I2 hq'
  | ok fl =>
    cases fl with
    | ret u =>
      obtain ⟨v, H', I3, rv, ev, q3⟩ := I2.after hq'
      subst ev
      exact ⟨rv, ⟨V.ref (s.heap.objs.size + 1), H', I3, rfl, q3⟩⟩
    | next => exact False.elim hq'
    | brk => exact False.elim hq'
    | cont => exact False.elim hq'
theorem pe_make (M : Mk X.K C f) (F : FnOk X.prog X.w X.K X.mg X.base CX k f fd ps sp) (hr : Room (k + 1) X.A) (hg : Gl X x) (hm : X.mg x = some (.ref C)) (hb : Binds X.K fd ps ds) (hd : Vals dvs ds) (hx : Passes CX X E)
    (ha : PA X (e :: es) t) (hdb : (x == ("__debug__" : Str)) = false := by decide) (he : starEach (e :: es) X.env = (false, eval e X.env) :: starEach es X.env := by rfl) (hpl : (backTo pos (starEach es X.env)).any (·.1) = false := by rfl) :
    PE X (.Call (.Name x p) (e :: es) [] pos) (tMake C sp dvs E t) := by
  intro pins s σ H Q I h
  refine wpAny_Call_Name_kw (ld_glob I hg hm ?_ hdb)
  refine PySem.W.callWith_K (h₀ := X.base) I.ok.mod.kin M.kp (thn (ha pos pins s σ H _ I h) fun us s1 ⟨vs, H1, I1, r, q⟩ => ⟨I1.kIn, ?_⟩) he hpl
  exact run_make M F hr hb hd hx I1 r q
end

/-! ### keywords -/
section
variable {X : Cx} {CX : CXT} {k : Nat} {f C : Addr} {fd : FuncData} {ps ks : List Str} {sp : Sp} {E : XK} {x m : Str} {p pos apos kpos : Pos} {e o : Expr} {es : List Expr} {kws : List Keyword} {te ta : TE} {t tk : TA} {nm : Option Str}
/-- how a call with keywords binds: g puts the positional values us and the keywords' values ws (names ks) in the parameters' order, defaults among them -/
structure KBinds (K : PySem.W.Frag) (fd : FuncData) (ps ks : List Str) (g : List Value → List Value → List Value) (gV : List V → List V → List V) : Prop where
  to : ∀ (s : Shared) (us ws : List Value), K.In s.heap → (g us ws).length = ps.length → BindsTo s fd ⟨us, ks.zip ws⟩ (ps.zip (g us ws))
  rel : ∀ {vs : List V} {us : List Value} {zs : List V} {ws : List Value}, Vals vs us → Vals zs ws → Vals (gV vs zs) (g us ws)
variable {g : List Value → List Value → List Value} {gV : List V → List V → List V}
end

/-! ### a def's body keeps its promise -/
/-- names: the parameters first -/
structure FnScope (N P : List Str) (sc : Scope) : Prop where
  kind : sc.kind = .function
  co : sc.isCoroutine = false
  gen : sc.isGenerator = false
  nd : N.Nodup
  pre : N.take P.length = P
  par : ∀ x ∈ P, sc.names.lookup x = some .local ∨ sc.names.lookup x = some .cell
  nofree : ∀ y ∈ sc.names, y.2 ≠ .free

theorem bindL_out {kindOf : Str → Option NameKind} {x : Str} : ∀ {binds : List (Str × Value)} {m : Str → Option Value}, (∀ v, (x, v) ∉ binds) → bindL kindOf binds m x = m x
  | [], _, _ => rfl
  | (n, v) :: r, m, h => by
    unfold bindL
    rw [bindL_out fun w hw => h w (List.mem_cons_of_mem _ hw)]
    split
    · have : x ≠ n := by rintro rfl; exact h v List.mem_cons_self
      simp [this]
    · rfl
theorem bindC_out {kindOf : Str → Option NameKind} {x : Str} : ∀ {binds : List (Str × Value)} {m : Str → Option Value}, (∀ v, (x, v) ∉ binds) → bindC kindOf binds m x = m x
  | [], _, _ => rfl
  | (n, v) :: r, m, h => by
    unfold bindC
    rw [bindC_out fun w hw => h w (List.mem_cons_of_mem _ hw)]
    split
    · rfl
    · have : x ≠ n := by rintro rfl; exact h v List.mem_cons_self
      simp [this]
theorem bindL_get {kindOf : Str → Option NameKind} {x : Str} {v : Value} : ∀ {P : List Str} {vs : List Value} {i : Nat} {m : Str → Option Value}, P.Nodup → P[i]? = some x → vs[i]? = some v → kindOf x = some .local →
    bindL kindOf (P.zip vs) m x = some v
  | [], _, _, _, _, h, _, _ => by simp at h
  | _ :: _, [], _, _, _, _, h, _ => by simp at h
  | p :: P, w :: vs, 0, m, nd, h1, h2, hk => by
    simp at h1 h2; subst h1; subst h2
    show bindL kindOf ((p, w) :: P.zip vs) m p = _
    unfold bindL
    rw [bindL_out fun v hv => (List.nodup_cons.mp nd).1 (List.of_mem_zip hv).1, if_pos hk]
    simp
  | p :: P, w :: vs, i + 1, m, nd, h1, h2, hk => by
    show bindL kindOf ((p, w) :: P.zip vs) m x = _
    unfold bindL
    exact bindL_get (i := i) (List.nodup_cons.mp nd).2 (by simpa using h1) (by simpa using h2) hk
theorem bindC_get {kindOf : Str → Option NameKind} {x : Str} {v : Value} : ∀ {P : List Str} {vs : List Value} {i : Nat} {m : Str → Option Value}, P.Nodup → P[i]? = some x → vs[i]? = some v → kindOf x ≠ some .local →
    bindC kindOf (P.zip vs) m x = some v
  | [], _, _, _, _, h, _, _ => by simp at h
  | _ :: _, [], _, _, _, _, h, _ => by simp at h
  | p :: P, w :: vs, 0, m, nd, h1, h2, hk => by
    simp at h1 h2; subst h1; subst h2
    show bindC kindOf ((p, w) :: P.zip vs) m p = _
    unfold bindC
    rw [bindC_out fun v hv => (List.nodup_cons.mp nd).1 (List.of_mem_zip hv).1, if_neg hk]
    simp
  | p :: P, w :: vs, i + 1, m, nd, h1, h2, hk => by
    show bindC kindOf ((p, w) :: P.zip vs) m x = _
    unfold bindC
    exact bindC_get (i := i) (List.nodup_cons.mp nd).2 (by simpa using h1) (by simpa using h2) hk

/-- the names' values at the entry -/
def start (N : List Str) (vs : List V) : St := vs.map some ++ List.replicate (N.length - vs.length) none

/-- the context of a def's body, at its entry; an exception leaves the frame, then lies as CX says -/
def cxOf (CX : CXT) (P : Program) (w : World) (K : PySem.W.Frag) (mg : Str → Option Value) (base : Heap) (N : List Str) (qual : Str) (scope : Scope) (f : Addr) (cd : Value) (A : Around) (outer : List Env) (s : Shared) (H : Hp) (E : XK) : Cx where
  prog := P
  w := w
  K := K
  mg := mg
  base := base
  A := A.deeper (envOfC qual scope s.heap.objs.size f cd)
  N := N
  s₀ := s
  H₀ := H
  env := envOfC qual scope s.heap.objs.size f cd
  outer := outer
  stack := envOfC qual scope s.heap.objs.size f cd :: outer
  ex := []
  calm := true
  fn := fun _ => true
  pn := []
  xe := fun e s' => wpAny (model P w) (A.deeper (envOfC qual scope s.heap.objs.size f cd)) (leaving (envOfC qual scope s.heap.objs.size f cd) e) (fun _ s'' => CX outer H s E e s'') (fun e' s'' => CX outer H s E e' s'') s'

theorem cell_has {sc : Scope} {n : Nat} {x : Str} (h : sc.names.lookup x = some .cell) : ∃ c, (cellsFrom n sc.names []).lookup x = some c := by
  have q := PySem.W.cellsFrom_some sc.names n [] (.inl h)
  exact Option.isSome_iff_exists.mp q

theorem inv_start {CX : CXT} {P : Program} {w : World} {K : PySem.W.Frag} {mg : Str → Option Value} {base : Heap} {N ps : List Str} {qual : Str} {scope : Scope} {f : Addr} {cd : Value} {A : Around} {outer : List Env} {s s1 : Shared} {H : Hp} {E : XK} {us : List Value} {vs : List V}
    (S : FnScope N ps scope) (hd : A.handled = none) (e0 : Env0 P w K mg base A outer s H) (hl : vs.length = ps.length) (r : Vals vs us)
    (x : InCallC s s.heap.objs.size (bindL (envOfC qual scope s.heap.objs.size f cd).kindOf (ps.zip us) fun _ => none) (cellsFrom (s.heap.objs.size + 1) scope.names []) (bindC (envOfC qual scope s.heap.objs.size f cd).kindOf (ps.zip us) fun _ => none) s1) :
    Inv (cxOf CX P w K mg base N qual scope f cd A outer s H E) [] (start N vs) H s1 := by
  have hpl : ps.length ≤ N.length := by have := congrArg List.length S.pre; rw [List.length_take] at this; omega
  obtain ⟨h1, tk, rfl, hk⟩ := x.done
  have noA : ∀ b : Addr, b ∉ (cxOf CX P w K mg base N qual scope f cd A outer s H E).ex := fun b z => absurd (show b ∈ ([] : List Addr) from z) (by simp)
  refine ⟨⟨e0.mod, S.kind, rfl, rfl, Nat.le_refl _, fun y z c h1 h2 => ?_, fun y hy => ?_, fun y c _ h => ?_, fun _ => hd, Around.frames_deeper e0.frames, .inr ⟨rfl, rfl⟩, fun b z => absurd z (noA b), e0.bs, e0.bsz, fun b _ _ => noA b, fun b z => absurd z (noA b), e0.funs, e0.frf⟩,
    rfl, e0.bare, Un.kept hk, ⟨_, x.toInCall.ns, fun i y v h1 h2 h3 => ?_⟩, fun y c h => ⟨_, x.cell y c h⟩, e0.hok.fresh (Nat.le_refl _), fun y c h => ?_, fun p hp => absurd (show p ∈ ([] : List (Addr × Obj)) from hp) (by simp), e0.hok.kept hk, ?_⟩
  · exact name_of_addr x.apart (PySem.mem_of_lookup h1) (PySem.mem_of_lookup h2)
  · have hy : scope.names.lookup y = some .cell ∨ scope.names.lookup y = some .free := hy
    rcases hy with hy | hy
    · exact cell_has hy
    · exact absurd rfl (S.nofree _ (PySem.mem_of_lookup hy))
  · exact Nat.le_of_lt (x.above y c (PySem.mem_of_lookup h))
  · have hi : i < vs.length := by
      unfold start at h2
      by_cases hi : i < vs.length
      · exact hi
      · rw [List.getElem?_append_right (by simpa using hi)] at h2
        rw [List.getElem?_replicate] at h2
        split at h2 <;> cases h2
    have ha : vs[i]? = some v := by
      unfold start at h2
      rw [List.getElem?_append_left (by simpa using hi), List.getElem?_map] at h2
      cases e : vs[i]? with
      | none => rw [e] at h2; cases h2
      | some a => rw [e] at h2; cases h2; rfl
    obtain ⟨u, hu, rv⟩ := r.get ha
    have hp : ps[i]? = some y := by
      rw [← S.pre, List.getElem?_take_of_lt (by omega)]; exact h1
    have ndP : ps.Nodup := by rw [← S.pre]; exact S.nd.sublist (List.take_sublist _ _)
    refine ⟨u, rv, ?_⟩
    rcases S.par y (List.mem_of_getElem? hp) with k | k
    · exact .inl ⟨k, bindL_get ndP hp hu k⟩
    · obtain ⟨c, e⟩ := cell_has (n := s.heap.objs.size + 1) k
      refine .inr ⟨.inl k, c, e, ?_⟩
      have q := x.cell y c e
      rw [bindC_get ndP hp hu (by show scope.names.lookup y ≠ _; rw [k]; decide)] at q
      exact q
  · exact e0.hok.fresh (Nat.le_of_lt (x.above y c (PySem.mem_of_lookup h)))
  · unfold start
    show _ = N.length
    rw [List.length_append, List.length_map, List.length_replicate]
    omega

/-- THE RULE: a def (or a method) of the text, by its body. The body's reading t is chosen for each entry; it is run at the parameters' values -/
theorem fn_of {CX : CXT} {P : Program} {w : World} {K : PySem.W.Frag} {mg : Str → Option Value} {base : Heap} {k : Nat} {f : Addr} {name qual : Str} {params : Arguments} {body : List Stmt} {scope : Scope} {dV kV doc pm cdv ct oc : Value} {an od : Option Addr}
    {osl : Array (Option Value)} {N ps : List Str} {sp : Sp} (lk : K.lookup f = some ⟨oc, od, .func (PySem.W.fnOf name qual params body scope dV kV doc pm an cdv ct), osl⟩) (hcd : PySem.W.codeIn K cdv qual = true) (S : FnScope N ps scope)
    (len : ∀ vs H Q E, sp vs H Q E → vs.length = ps.length)
    (hbody : ∀ (A : Around) (outer : List Env) (s : Shared) (H : Hp) (vs : List V) (Q : VK) (E : XK), Room k (A.deeper (envOfC qual scope s.heap.objs.size f cdv)) → sp vs H Q E →
      ∃ t, PSs (cxOf CX P w K mg base N qual scope f cdv A outer s H E) body t ∧ t { nx := fun _ H' => Q .non H', rt := Q } (start N vs) H) :
    FnOk P w K mg base CX (k + 1) f (PySem.W.fnOf name qual params body scope dV kV doc pm an cdv ct) ps sp := by
  refine ⟨len, fun A outer s H args us vs Q E hr e0 hb r hsp => ?_⟩
  have hl := len _ _ _ _ hsp
  have KX : K.In s.heap := e0.mod.kin.keeps fun b o e => (e0.bs b o e).1
  have lim : s.heap.NoLimit := e0.mod.nolimit.keeps fun b o e => (e0.bs b o e).1
  have hkind : ∀ y ∈ ps.zip us, scope.names.lookup y.1 = some .local ∨ (scope.names.lookup y.1 = some .cell ∧ ((cellsFrom (s.heap.objs.size + 1) scope.names []).lookup y.1).isSome = true) := fun ⟨n, v⟩ hy => by
    rcases S.par n (List.of_mem_zip hy).1 with q | q
    · exact .inl q
    · exact .inr ⟨q, PySem.W.cellsFrom_some _ _ _ (.inl q)⟩
  refine codeAny_call_function hr.depth (KX _ _ lk) rfl S.co S.gen rfl (PySem.W.codeRec_of KX hcd) (hb _ _ _ _ ?_)
  refine wpAny_newFunctionEnv_cells S.kind hkind fun env he s1 x => ?_
  subst he
  refine ⟨lim.keeps x.toInCall.keep, codeAny_func ?_⟩
  obtain ⟨t, ht, hq⟩ := hbody A outer s H vs Q E (hr.deeper _) hsp
  have I : Inv (cxOf CX P w K mg base N qual scope f cdv A outer s H E) [] (start N vs) H s1 := inv_start S hr.hd e0 hl r x
  refine wpAny_mono (ht [] s1 (start N vs) H _ I hq) (fun fl s' hs => ?_) fun e s' hs => hs
  have fin : ∀ {σ' : St} {H' : Hp} {v : V} {u : Value}, Inv (cxOf CX P w K mg base N qual scope f cdv A outer s H E) [] σ' H' s' → RelV v u → Q v H' → CE outer P w H s Q u s' :=
    fun {σ' H' v u} J rv q => ⟨v, H', J.os, J.bare, J.base, J.hok, rv, q⟩
  cases fl with
  | ret u =>
    obtain ⟨v, σ', H', J, rv, q⟩ := hs
    exact fin J rv q
  | next =>
    obtain ⟨σ', H', J, q⟩ := hs
    exact fin (v := V.non) (u := Value.none) J rfl q
  | brk =>
    obtain ⟨_, _, _, q⟩ := hs
    exact False.elim q
  | cont =>
    obtain ⟨_, _, _, q⟩ := hs
    exact False.elim q
end L2

namespace L2
open PySem PySem.Spec PyProof.Rows
section
variable {X : Cx} {x : Str} {p pos : Pos} {e : Expr} {es : List Expr} {t : TA} {id T : String} {r : List V → Hp → VK → Prop}

def tCB (r : List V → Hp → VK → Prop) (t : TA) : TE := fun σ H Q => t σ H fun vs H1 => r vs H1 Q
/-- f(e, ..), f a built-in function -/
theorem pe_callB (hc : CallR X (.builtin id) r) (hg : Gl X x) (hm : X.mg x = none) (hv : bootBuiltins x = some (.builtin id)) (ha : PA X (e :: es) t) (hn : x ≠ "__name__" := by decide) (hdb : (x == ("__debug__" : Str)) = false := by decide)
    (he : starEach (e :: es) X.env = (false, eval e X.env) :: starEach es X.env := by rfl) (hpl : (backTo pos (starEach es X.env)).any (·.1) = false := by rfl) : PE X (.Call (.Name x p) (e :: es) [] pos) (tCB r t) := by
  intro pins s σ H Q I h
  refine wpAny_Call_Name_kw (ld_blt I hg hm hv ?_ hn hdb)
  exact PyProof.Rows.callWith_builtin1 (thn (ha pos pins s σ H _ I h) fun us s1 ⟨vs, H1, I1, r1, q1⟩ => hc pins s1 σ H1 vs us Q I1 r1 q1) he hpl
/-- T(e, ..), T a built-in type -/
theorem pe_callTy (hc : CallR X (.type T) r) (hg : Gl X x) (hm : X.mg x = none) (hv : bootBuiltins x = some (.type T)) (ha : PA X (e :: es) t) (hn : x ≠ "__name__" := by decide) (hdb : (x == ("__debug__" : Str)) = false := by decide)
    (he : starEach (e :: es) X.env = (false, eval e X.env) :: starEach es X.env := by rfl) (hpl : (backTo pos (starEach es X.env)).any (·.1) = false := by rfl) : PE X (.Call (.Name x p) (e :: es) [] pos) (tCB r t) := by
  intro pins s σ H Q I h
  refine wpAny_Call_Name_kw (ld_blt I hg hm hv ?_ hn hdb)
  exact PyProof.Rows.callWith_type1 (thn (ha pos pins s σ H _ I h) fun us s1 ⟨vs, H1, I1, r1, q1⟩ => hc pins s1 σ H1 vs us Q I1 r1 q1) he hpl
end
end L2

namespace HT
open PySem PyProof.Rows

section
open PySem.SeqAt
open PySem.AutoSeq1 (wpAny_loadPart')
open PySem.MeetsSeq PySem.MeetsSeq2 PySem.MeetsSeq3

end

section
variable {prog : Program} {w : World} {A : Around} {E : Value → Shared → Prop} {s : Shared}

/-! ### t[a:b], not the whole -/
/-- a slice's bound as a place among n (d where it is left out) -/
def sIx (n d : Nat) : Option Int → Nat
  | none => d
  | some v => if v < 0 then (v + (n : Int)).toNat else min v.toNat n
theorem sIx_none (n d : Nat) : sIx n d none = d := rfl
end
end HT

namespace L2
open PySem PySem.Spec PyProof.Rows

/-! ### the parts of a slice -/
abbrev TO := St → Hp → (Option Int → Hp → Prop) → Prop
/-- a slice's part (left out, or an int) -/
def PO (X : Cx) (e : Option Expr) (t : TO) : Prop :=
  ∀ (pins : List (Addr × Obj)) (s : Shared) (σ : St) (H : Hp) (Q : Option Int → Hp → Prop), Inv X pins σ H s → t σ H Q →
    wpAny (model X.prog X.w) X.A (evalPart e X.env) (fun u s' => ∃ o H', Inv X pins σ H' s' ∧ IsPart u o ∧ Q o H') X.xe s
def tNoPart : TO := fun _ H Q => Q none H
def tPart (t : TE) : TO := fun σ H Q => t σ H fun x H1 => ∃ i, x = .int i ∧ Q (some i) H1

section
variable {X : Cx} {e : Expr} {te : TE} {lo hi : Option Expr} {tl th : TO} {pos p2 : Pos}

theorem po_none : PO X none tNoPart := by
  intro pins s σ H Q I h
  rw [evalPart_none]
  exact wpAny_pure ⟨none, H, I, .none, h⟩
theorem po_some (h : PE X e te) : PO X (some e) (tPart te) := by
  intro pins s σ H Q I hw
  rw [evalPart_some]
  refine thn (h pins s σ H _ I hw) fun u s1 ⟨x, H1, I1, r1, q1⟩ => ?_
  obtain ⟨i, rfl, q⟩ := q1
  obtain ⟨t, rfl⟩ := r1
  exact ⟨some i, H1, I1, .int i t, q⟩

/-- what a slice of a value is, by values: the slice object stands at sl -/
def SlR (X : Cx) (r : V → Option Int → Option Int → Hp → VK → Prop) : Prop :=
  ∀ (pins : List (Addr × Obj)) (s : Shared) (σ : St) (H : Hp) (x : V) (v vl vu : Value) (lo hi : Option Int) (sl : Addr) (Q : VK), Inv X pins σ H s → RelV x v → s.heap.IsSliceOf sl vl vu .none → IsPart vl lo → IsPart vu hi → r x lo hi H Q →
    ∃ T id, typeLookup (.type T) "__getitem__" = pure (some (.builtin id)) ∧ s.TypeIs v T ∧ wpAny (model X.prog X.w) X.A (getItem v (.ref sl)) (EP X pins σ Q) X.xe s
def tSl (r : V → Option Int → Option Int → Hp → VK → Prop) (te : TE) (tl th : TO) : TE := fun σ H Q => te σ H fun x H1 => tl σ H1 fun l H2 => th σ H2 fun u H3 => r x l u H3 Q
/-- a[lo:hi], any a -/
theorem pe_slice {r : V → Option Int → Option Int → Hp → VK → Prop} (hr : SlR X r) (he : PE X e te) (hl : PO X lo tl) (hu : PO X hi th) : PE X (.Subscript e (.Slice lo hi none p2) pos) (tSl r te tl th) := by
  intro pins s σ H Q I h
  refine Subscript_ (thn (he pins s σ H _ I h) fun v s1 ⟨x, H1, I1, r1, q1⟩ => ?_)
  refine wpAny_Slice (thn (hl pins s1 σ H1 _ I1 q1) fun vl s2 ⟨l, H2, I2, pl, q2⟩ => thn (hu pins s2 σ H2 _ I2 q2) fun vu s3 ⟨u, H3, I3, pu, q3⟩ => ?_)
  rw [evalPart_none]
  refine wpAny_pure ?_
  have I4 : Inv X pins σ H3 { s3 with heap := s3.heap.push { cls := .type "slice", data := .fields #[vl, vu, .none] } } := I3.kept (t' := s3.toks) fun b ob q => Heap.get?_push_of_some _ q
  obtain ⟨T, id, hT, ht, hg⟩ := hr pins { s3 with heap := s3.heap.push { cls := .type "slice", data := .fields #[vl, vu, .none] } } σ H3 x v vl vu l u s3.heap.objs.size Q I4 r1 (Heap.IsSliceOf.new ..) pl pu q3
  show wpAny (model X.prog X.w) X.A (subscriptTail e (.Slice lo hi none p2) v (.ref s3.heap.objs.size)) (EP X pins σ Q) X.xe { s3 with heap := s3.heap.push { cls := .type "slice", data := .fields #[vl, vu, .none] } }
  exact tail_any (ops := [.ref s3.heap.objs.size, v]) ht hT hg (by with_unfolding_all rfl)

/-- the items of xs[lo:hi] -/
def cutV (xs : List V) (lo hi : Option Int) : List V := (xs.drop (HT.sIx xs.length 0 lo)).take (HT.sIx xs.length xs.length hi - HT.sIx xs.length 0 lo)
theorem cutV_length (xs : List V) (lo hi : Option Int) : (cutV xs lo hi).length ≤ xs.length := by
  unfold cutV
  rw [List.length_take, List.length_drop]
  omega
/-! ### t < u, t + u -/
end
end L2

namespace L2
open PySem PySem.Spec PyProof.Rows

/-! ### places -/
/-- the place that an index of any sign means -/
def ixN (n : Nat) (i : Int) : Option Nat := if 0 ≤ i then (if i < n then some i.toNat else none) else if -(n : Int) ≤ i then some (i + n).toNat else none
def atI {α : Type} (xs : List α) (i : Int) : Option α := (ixN xs.length i).bind fun j => xs[j]?
theorem ixN_seq {n : Nat} {i : Int} {j : Nat} (h : ixN n i = some j) : seqIndex? i n = some j ∧ j < n ∧ -(n : Int) ≤ i ∧ i < n := by
  unfold ixN at h
  by_cases h0 : 0 ≤ i
  · rw [if_pos h0] at h
    by_cases h1 : i < n
    · rw [if_pos h1] at h
      have e : i.toNat = j := Option.some.inj h
      exact ⟨by rw [seqIndex_of h0 h1, e], by omega, by omega, h1⟩
    · rw [if_neg h1] at h; cases h
  · rw [if_neg h0] at h
    by_cases h1 : -(n : Int) ≤ i
    · rw [if_pos h1] at h
      have e : (i + n).toNat = j := Option.some.inj h
      exact ⟨by rw [seqIndex_neg (by omega) h1, e], by omega, h1, by omega⟩
    · rw [if_neg h1] at h; cases h
theorem atI_get {α : Type} {xs : List α} {i : Int} {v : α} (h : atI xs i = some v) : ∃ j, seqIndex? i xs.length = some j ∧ xs[j]? = some v ∧ j < xs.length ∧ -(xs.length : Int) ≤ i ∧ i < xs.length := by
  unfold atI at h
  cases e : ixN xs.length i with
  | none => rw [e] at h; cases h
  | some j =>
    rw [e] at h
    obtain ⟨h1, h2, h3, h4⟩ := ixN_seq e
    exact ⟨j, h1, h, h2, h3, h4⟩
/-! ### what may be subscripted -/
/-- what stands as an index of a plain subscript -/
def PlainIx (b : Expr) : Prop := ∀ o i, subscripted b false o i = operate [o, i] (getItem o i)
/-- a subscript by values -/
def IxR (X : Cx) (r : R2) : Prop :=
  ∀ (value slice : Expr) (pins : List (Addr × Obj)) (s : Shared) (σ : St) (H : Hp) (x y : V) (v u : Value) (Q : VK), Inv X pins σ H s → RelV x v → RelV y u → r x y H Q →
    subscripted slice false v u = operate [v, u] (getItem v u) → wpAny (model X.prog X.w) X.A (subscriptTail value slice v u) (EP X pins σ Q) X.xe s
/-- a call of a builtin's method by values: the receiver, the arguments -/
def MtR (X : Cx) (id : String) (r : V → List V → Hp → VK → Prop) : Prop :=
  ∀ (pins : List (Addr × Obj)) (s : Shared) (σ : St) (H : Hp) (x : V) (xs : List V) (v : Value) (us : List Value) (Q : VK), Inv X pins σ H s → RelV x v → Vals xs us → r x xs H Q →
    wpAny (model X.prog X.w) X.A (call (.builtin id) (v :: us)) (EP X pins σ Q) X.xe s
section
variable {X : Cx} {a b : Expr} {ta tb : TE} {pos : Pos}
/-- a[b] -/
theorem pe_ix {r : R2} (hr : IxR X r) (ha : PE X a ta) (hb : PE X b tb) (hs : PlainIx b) : PE X (.Subscript a b pos) (tOp r ta tb) := by
  intro pins s σ H Q I h
  exact Subscript_ (binT ha hb I h fun v u s2 x y H2 I2 rx ry q => hr a b pins s2 σ H2 x y v u Q I2 rx ry q (hs _ _))

def rIxL (K : PySem.W.Frag) : R2 := fun x y H Q => ∃ p xs i v, x = .ref p ∧ y = .int i ∧ SqL K H p xs ∧ atI xs i = some v ∧ Q v H
def rIxT (K : PySem.W.Frag) : R2 := fun x y H Q => ∃ p xs i v, x = .ref p ∧ y = .int i ∧ SqT K H p xs ∧ atI xs i = some v ∧ Q v H
def rIxS : R2 := fun x y H Q => ∃ z i c, x = .str z ∧ y = .int i ∧ z.length ≤ sizeLine ∧ atI z.cps.toList i = some c ∧ Q (.str ⟨#[c]⟩) H
theorem ix_list : IxR X (rIxL X.K) := by
  intro value slice pins s σ H x y v u Q I rx ry h hs
  obtain ⟨p, xs, i, z, rfl, rfl, hq, he, q⟩ := h
  cases rx
  obtain ⟨t, rfl⟩ := ry
  obtain ⟨its, r, pl, hz⟩ := I.list hq
  obtain ⟨j, h1, h2, h3, h4, h5⟩ := atI_get he
  obtain ⟨w, ew, rw'⟩ := r.get h2
  have hl := r.length
  have hn := line63
  have fin : EP X pins σ Q w s := ⟨z, H, I, rw', q⟩
  by_cases h0 : 0 ≤ i
  · have hj : i.toNat = j := by
      rw [seqIndex_of h0 h5] at h1
      exact Option.some.inj h1
    exact item_listR pl.isList h0 (by omega) (by rw [hj]; simpa using ew) fin hs
  · have hj : (i + (its.toArray.size : Int)).toNat = j := by
      rw [seqIndex_neg (by omega) h4] at h1
      rw [List.size_toArray, ← hl]
      exact Option.some.inj h1
    exact subscriptTail_builtinR (x := w) pl.isList.typeIs slot_list_getitem.lookup
      (wpAny_getItem_list_neg (Q := fun r s' => r = w ∧ EP X pins σ Q r s') pl.isList (by omega) (by rw [List.size_toArray] <;> omega) (by omega) (by rw [hj]; simpa using ew) ⟨rfl, fin⟩) hs
theorem ix_tup : IxR X (rIxT X.K) := by
  intro value slice pins s σ H x y v u Q I rx ry h hs
  obtain ⟨p, xs, i, z, rfl, rfl, hq, he, q⟩ := h
  cases rx
  obtain ⟨t, rfl⟩ := ry
  obtain ⟨its, r, pl, hz⟩ := I.tuple hq
  obtain ⟨j, h1, h2, h3, h4, h5⟩ := atI_get he
  obtain ⟨w, ew, rw'⟩ := r.get h2
  have hl := r.length
  have hn := line63
  have fin : EP X pins σ Q w s := ⟨z, H, I, rw', q⟩
  exact subscriptTail_builtinR (x := w) pl.typeIs slot_tuple_getitem.lookup
    (getItem_tuple (j := j) (Q := fun r s' => r = w ∧ EP X pins σ Q r s') pl (by omega) (by omega) (by rw [List.size_toArray, ← hl]; exact h1) (by simpa using ew) ⟨rfl, fin⟩) hs
theorem ix_str : IxR X rIxS := by
  intro value slice pins s σ H x y v u Q I rx ry h hs
  obtain ⟨z, i, c, rfl, rfl, hz, he, q⟩ := h
  obtain ⟨t, rfl⟩ := rx
  obtain ⟨t', rfl⟩ := ry
  obtain ⟨j, h1, h2, h3, h4, h5⟩ := atI_get he
  have hl : z.cps.toList.length = z.length := by simp [Str.length]
  rw [hl] at h1 h4 h5
  have hn := line63
  exact tail_any (typeIs_str s z t) slot_str_getitem.lookup (getItem_str (c := c) (by
    have e1 : decide (i < -(2 ^ 63 : Int)) = false := decide_eq_false (by omega)
    have e2 : decide (i ≥ 2 ^ 63) = false := decide_eq_false (by omega)
    rw [e1, e2, Bool.or_false]) (by rw [h1]; simpa using h2) ⟨.str ⟨#[c]⟩, H, I.tok _, ⟨_, rfl⟩, q⟩) hs
/-! ### xs[i] = v, any sign -/
/-- the list's object behind a store -/
theorem mapSeq_set (its : List Value) (n j : Nat) (u : Value) : Obj.mapSeq (·.setIfInBounds j u) { cls := .type "list", data := .seq its.toArray n } = { cls := .type "list", data := .seq (its.set j u).toArray n } := by
  simp [Obj.mapSeq]
theorem Inv.lst {pins : List (Addr × Obj)} {σ : St} {H : Hp} {s : Shared} {p : Addr} {xs : List V} (I : Inv X pins σ H s) (h : H p = some (.lst xs)) :
    ∃ (its : List Value) (n : Nat), Vals xs its ∧ s.heap.get? p = some { cls := .type "list", data := .seq its.toArray n } ∧ xs.length ≤ sizeLine := by
  obtain ⟨z, its, n, r, e⟩ := I.hok p _ h
  exact ⟨its, n, r, e, z⟩
/-- the list at p is written by an update of its object -/
theorem Inv.lstUpd {pins : List (Addr × Obj)} {σ : St} {H : Hp} {s : Shared} {p : Addr} {xs ys : List V} {its its' : List Value} {n n' : Nat} {f : Obj → Obj} (I : Inv X pins σ H s) (h : H p = some (.lst xs))
    (ho : s.heap.get? p = some { cls := .type "list", data := .seq its.toArray n }) (hf : f { cls := .type "list", data := .seq its.toArray n } = { cls := .type "list", data := .seq its'.toArray n' }) (r : Vals ys its') (hz : ys.length ≤ sizeLine) (t : Nat) :
    Inv X pins σ (upd H p (.lst ys)) { s with heap := s.heap.update p f, toks := t } := by
  have e : (s.heap.update p f).get? p = some { cls := .type "list", data := .seq its'.toArray n' } := by
    rw [Heap.get?_update_self f ho (by rw [hf] <;> rfl), hf]
  refine I.write (x := p) (e := p) (by rw [h]; trivial) (.inl rfl) (fun b u hb q => (Heap.get?_update_other _ _ (Ne.symm hb)).trans q) ⟨_, e⟩ ?_
  exact ⟨hz, its', n', r, e⟩
def rSetL : V → V → V → Hp → (Hp → Prop) → Prop := fun o i v H Q => ∃ p xs k j, o = .ref p ∧ i = .int k ∧ H p = some (.lst xs) ∧ ixN xs.length k = some j ∧ Q (upd H p (.lst (xs.set j v)))
theorem set_list : PSet X rSetL := by
  intro pins s σ H o i v ov iv u Q I ro ri rv h
  obtain ⟨p, xs, k, j, rfl, rfl, hp, hj, q⟩ := h
  cases ro
  obtain ⟨t, rfl⟩ := ri
  obtain ⟨its, n, r, ho, hz⟩ := I.lst hp
  obtain ⟨h1, h2, h3, h4⟩ := ixN_seq hj
  have hl := r.length
  have hn := line63
  have I' : Inv X pins σ (upd H p (.lst (xs.set j v))) { s with heap := s.heap.update p (Obj.mapSeq (·.setIfInBounds j u)) } :=
    I.lstUpd hp ho (mapSeq_set its n j u) (r.set rv j) (by rw [List.length_set]; exact hz) s.toks
  by_cases h0 : 0 ≤ k
  · have hk : k.toNat = j := by
      rw [seqIndex_of h0 h4] at h1
      exact Option.some.inj h1
    exact PySem.W.ki_setAt ho h0 (by omega) (by rw [List.size_toArray, ← hl]; exact h4) (by rw [hk]; exact ⟨_, I', q⟩)
  · have hk : (k + (its.toArray.size : Int)).toNat = j := by
      rw [seqIndex_neg (by omega) h3] at h1
      rw [List.size_toArray, ← hl]
      exact Option.some.inj h1
    exact PySem.W.ki_setBack ho (by omega) (by rw [List.size_toArray, ← hl]; exact h3) (by omega) (by rw [hk]; exact ⟨_, I', q⟩)

/-! ### slices -/
theorem slice_bounds (lo hi : Option Int) (n : Nat) : (sliceBounds lo hi none n).1 = ((HT.sIx n 0 lo : Nat) : Int) ∧ (sliceBounds lo hi none n).2.1 = ((HT.sIx n n hi : Nat) : Int) ∧ (sliceBounds lo hi none n).2.2 = 1 := by
  refine ⟨?_, ?_, rfl⟩
  · cases lo with
    | none => simp [sliceBounds, HT.sIx]
    | some i =>
      simp only [sliceBounds, HT.sIx, Option.getD_none, show (1 : Int) > 0 by decide, if_true]
      by_cases h : i < 0
      · simp only [h, if_true] <;> omega
      · simp only [h, if_false] <;> omega
  · cases hi with
    | none => simp [sliceBounds, HT.sIx]
    | some i =>
      simp only [sliceBounds, HT.sIx, Option.getD_none, show (1 : Int) > 0 by decide, if_true]
      by_cases h : i < 0
      · simp only [h, if_true] <;> omega
      · simp only [h, if_false] <;> omega
theorem slicePick_cut (its : List Value) (lo hi : Option Int) : slicePick its.toArray lo hi none = ((its.drop (HT.sIx its.length 0 lo)).take (HT.sIx its.length its.length hi - HT.sIx its.length 0 lo)).toArray := by
  obtain ⟨h1, h2, h3⟩ := slice_bounds lo hi its.toArray.size
  unfold slicePick
  rw [h1, h2, h3]
  simp only [sliceRange_one, pick_run, List.size_toArray] <;> rfl
/-- xs[lo:hi] of a list: a new list -/
def rSlL (K : PySem.W.Frag) : V → Option Int → Option Int → Hp → VK → Prop := fun x lo hi H Q => ∃ a xs, x = .ref a ∧ SqL K H a xs ∧ ∀ p, H p = none → Q (.ref p) (upd H p (.lst (cutV xs lo hi)))
theorem sl_list : SlR X (rSlL X.K) := by
  intro pins s σ H x v vl vu lo hi sl Q I rx hs pl pu h
  obtain ⟨a, xs, rfl, hx, q⟩ := h
  cases rx
  obtain ⟨its, r, ht, hz⟩ := I.list hx
  have hlen := r.length
  refine ⟨"list", _, slot_list_getitem.lookup, ht.isList.typeIs, ?_⟩
  refine wpAny_getItem_list_slice ht.isList hs pl pu .none (by simp) ?_ (by rw [List.size_toArray] <;> omega)
  rw [slicePick_cut, ← hlen]
  refine ⟨.ref s.heap.objs.size, _, I.laid (t' := s.toks) (o := .lst (cutV xs lo hi)) (fun b ob q => Heap.get?_push_of_some _ q) (Nat.le_refl _) ?_, rfl, q _ (I.hok.fresh (Nat.le_refl _))⟩
  exact ⟨Nat.le_trans (cutV_length xs lo hi) hz, _, 0, (r.drop (HT.sIx xs.length 0 lo)).take (HT.sIx xs.length xs.length hi - HT.sIx xs.length 0 lo), Heap.get?_push_size _ rfl⟩

/-! ### in, not in: flat items -/
def flatV : V → Bool
  | .non => true
  | .bl _ => true
  | .int _ => true
  | .str _ => true
  | _ => false
/-- == of flat values -/
def eqV : V → V → Bool
  | .non, .non => true
  | .bl a, .bl b => a == b
  | .bl a, .int b => (if a then 1 else 0) == b
  | .int a, .bl b => a == (if b then 1 else 0)
  | .int a, .int b => a == b
  | .str a, .str b => a == b
  | _, _ => false
theorem eqAt_V {A : Around} {s : Shared} {y x : V} {u v : Value} (ry : RelV y u) (rx : RelV x v) (fy : flatV y = true) (fx : flatV x = true) : SeqAt.EqAt A s u v (eqV y x) := by
  cases y with
  | non =>
    cases ry
    cases x with
    | non => cases rx; exact SeqAt.EqAt.same _
    | bl b => cases rx; exact SeqAt.EqAt.none_bool b
    | int b => obtain ⟨t, rfl⟩ := rx; exact SeqAt.EqAt.none_int b t
    | str b => obtain ⟨t, rfl⟩ := rx; exact SeqAt.EqAt.none_str b t
    | _ => exact absurd (show false = true from fx) Bool.false_ne_true
  | bl a =>
    cases ry
    cases x with
    | non => cases rx; exact SeqAt.EqAt.bool_none a
    | bl b => cases rx; exact SeqAt.EqAt.bool_bool a b
    | int b => obtain ⟨t, rfl⟩ := rx; exact SeqAt.EqAt.bool_int a b t
    | str b => obtain ⟨t, rfl⟩ := rx; exact SeqAt.EqAt.bool_str a b t
    | _ => exact absurd (show false = true from fx) Bool.false_ne_true
  | int a =>
    obtain ⟨t', rfl⟩ := ry
    cases x with
    | non => cases rx; exact SeqAt.EqAt.int_none a t'
    | bl b => cases rx; exact SeqAt.EqAt.int_bool a t' b
    | int b => obtain ⟨t, rfl⟩ := rx; exact SeqAt.EqAt.int_int a t' b t
    | str b => obtain ⟨t, rfl⟩ := rx; exact SeqAt.EqAt.int_str a t' b t
    | _ => exact absurd (show false = true from fx) Bool.false_ne_true
  | str a =>
    obtain ⟨t', rfl⟩ := ry
    cases x with
    | non => cases rx; exact SeqAt.EqAt.str_none a t'
    | bl b => cases rx; exact SeqAt.EqAt.str_bool a t' b
    | int b => obtain ⟨t, rfl⟩ := rx; exact SeqAt.EqAt.str_int a t' b t
    | str b => obtain ⟨t, rfl⟩ := rx; exact SeqAt.EqAt.str_str a t' b t
    | _ => exact absurd (show false = true from fx) Bool.false_ne_true
  | _ => exact absurd (show false = true from fy) Bool.false_ne_true
/-! ### len, list(x), tuple(x) of any list or tuple that is read -/
theorem call_len_seq : CallR X (.builtin "len") (fun xs H Q => ∃ p ys, xs = [.ref p] ∧ (SqL X.K H p ys ∨ SqT X.K H p ys) ∧ Q (.int ys.length) H) := by
  intro pins s σ H xs us Q I r h
  obtain ⟨p, ys, rfl, hq, q⟩ := h
  obtain ⟨u, rfl, rx⟩ := vals1 r
  cases rx
  have hn := line63
  rcases hq with hq | hq
  · obtain ⟨its, r', pl, hz⟩ := I.list hq
    have hlen := r'.length
    exact Calls.call_len_list pl.isList (by simp only [List.size_toArray] <;> omega) ⟨.int ys.length, H, I.tok _, ⟨s.toks + 1, by rw [List.size_toArray, hlen]⟩, q⟩
  · obtain ⟨its, r', pl, hz⟩ := I.tuple hq
    have hlen := r'.length
    exact len_tuple pl (by simp only [List.size_toArray] <;> omega) ⟨.int ys.length, H, I.tok _, ⟨s.toks + 1, by rw [List.size_toArray, hlen]⟩, q⟩
theorem call_len_str : CallR X (.builtin "len") (fun xs H Q => ∃ z, xs = [.str z] ∧ z.length ≤ sizeLine ∧ Q (.int z.length) H) := by
  intro pins s σ H xs us Q I r h
  obtain ⟨z, rfl, hz, q⟩ := h
  obtain ⟨u, rfl, t, rfl⟩ := vals1 r
  have hn := line63
  exact len_str (by omega) ⟨.int z.length, H, I.tok _, ⟨_, rfl⟩, q⟩
/-! ### the call of a builtin's method: o.m(..) -/
/-- the value is of that builtin type -/
def tyV (K : PySem.W.Frag) (T : String) (x : V) (H : Hp) : Prop := match x with
  | .str _ => T = "str"
  | .int _ => T = "int"
  | .ref p => (T = "list" ∧ ∃ xs, SqL K H p xs) ∨ (T = "tuple" ∧ ∃ o, K.lookup p = some o ∧ o.cls = .type "tuple" ∧ o.dict = none) ∨
      (T = "dict" ∧ ((∃ kvs, H p = some (.dK kvs)) ∨ ∃ kvs, H p = some (.dT kvs))) ∨ (T = "set" ∧ ∃ S n, H p = some (.set S n))
  | _ => False
theorem tyV_is {pins : List (Addr × Obj)} {σ : St} {H : Hp} {s : Shared} {T : String} {x : V} {v : Value} (I : Inv X pins σ H s) (r : RelV x v) (ty : tyV X.K T x H) :
    s.TypeIs v T ∧ ∀ a, v = .ref a → ∃ ob, s.heap.get? a = some ob ∧ ob.dict = none := by
  cases x with
  | str z =>
    obtain ⟨t, rfl⟩ := r
    cases (show T = "str" from ty)
    exact ⟨typeIs_str s z t, fun _ e => nomatch e⟩
  | int i =>
    obtain ⟨t, rfl⟩ := r
    cases (show T = "int" from ty)
    exact ⟨typeIs_int s i t, fun _ e => nomatch e⟩
  | ref p =>
    cases r
    rcases ty with ⟨rfl, xs, hq⟩ | ⟨rfl, o, hk, hc, hd⟩ | ⟨rfl, hk⟩ | ⟨rfl, S, n, hk⟩
    · obtain ⟨its, _, pl, _⟩ := I.list hq
      refine ⟨pl.isList.typeIs, fun a e => ?_⟩
      cases e
      obtain ⟨o, n, e, c, hd, _⟩ := pl
      exact ⟨o, e, hd⟩
    · refine ⟨⟨o, I.kIn p o hk, hc⟩, fun a e => ?_⟩
      cases e
      exact ⟨o, I.kIn _ o hk, hd⟩
    · have z : ∃ o, s.heap.get? p = some o ∧ o.ExactDict := by
        rcases hk with ⟨kvs, hk⟩ | ⟨kvs, hk⟩
        · obtain ⟨_, _, _, _, o, _, _, e, ex, _⟩ := I.hok p _ hk
          exact ⟨o, e, ex⟩
        · obtain ⟨_, _, _, _, o, _, _, e, ex, _⟩ := I.hok p _ hk
          exact ⟨o, e, ex⟩
      obtain ⟨o, e, ex⟩ := z
      refine ⟨⟨o, e, ex.1⟩, fun a e2 => ?_⟩
      cases e2
      exact ⟨o, e, ex.2.1⟩
    · obtain ⟨o, _, _, _, e, ex, _⟩ := I.hok p _ hk
      refine ⟨⟨o, e, ex.1⟩, fun a e2 => ?_⟩
      cases e2
      exact ⟨o, e, ex.2.1⟩
  | _ => exact False.elim ty
def tBM0 (K : PySem.W.Frag) (T : String) (r : V → List V → Hp → VK → Prop) (to : TE) : TE := fun σ H Q => to σ H fun x H1 => tyV K T x H1 ∧ r x [] H1 Q
def tBM (K : PySem.W.Frag) (T : String) (r : V → List V → Hp → VK → Prop) (to : TE) (t : TA) : TE := fun σ H Q => to σ H fun x H1 => tyV K T x H1 ∧ t σ H1 fun xs H2 => r x xs H2 Q
variable {o e : Expr} {es : List Expr} {to : TE} {t : TA} {name : Str} {apos cpos : Pos} {T id : String} {r : V → List V → Hp → VK → Prop}
theorem pe_bm0 (pa : PlainAttrs T) (slot : Slot T name id) (hty : typeOf (.builtin id) = pure (.type "method_descriptor")) (hm : MtR X id r) (ho : PE X o to)
    (hbase : attributeBase o name X.env (eval o X.env) = eval o X.env := by rfl) (hline : (apos.endLine == cpos.line) = true := by rfl) : PE X (.Call (.Attribute o name apos) [] [] cpos) (tBM0 X.K T r to) := by
  intro pins s σ H Q I h
  refine wpAny_Call_method0_late hbase hline (thn (ho pins s σ H _ I h) fun v s1 ⟨x, H1, I1, r1, ty, q1⟩ => ?_)
  obtain ⟨h1, h2⟩ := tyV_is I1 r1 ty
  exact ⟨T, id, pa, slot, hty, h1, h2, Calls.callWith_builtin rfl (PySem.evalArgs_none (hm pins s1 σ H1 x [] v [] Q I1 r1 .nil q1))⟩
theorem pe_bm (pa : PlainAttrs T) (slot : Slot T name id) (hty : typeOf (.builtin id) = pure (.type "method_descriptor")) (hm : MtR X id r) (ho : PE X o to) (ha : PA X (e :: es) t)
    (hbase : attributeBase o name X.env (eval o X.env) = eval o X.env := by rfl)
    (hfew : ((backTo cpos (starEach (e :: es) X.env)).all (fun x => !x.1) && (backToKw cpos (keywordEach [] X.env)).all (fun x => x.1.isSome)
      && decide ((e :: es).length + ([] : List Keyword).length + (if ([] : List Keyword).isEmpty then 0 else 1) < 30)) = true := by rfl)
    (hline : (apos.endLine == cpos.line) = true := by rfl) (hs : starEach (e :: es) X.env = (false, eval e X.env) :: starEach es X.env := by rfl) (hplain : (backTo cpos (starEach es X.env)).any (·.1) = false := by rfl) :
    PE X (.Call (.Attribute o name apos) (e :: es) [] cpos) (tBM X.K T r to t) := by
  intro pins s σ H Q I h
  refine wpAny_Call_method_late hbase hfew hline rfl (thn (ho pins s σ H _ I h) fun v s1 ⟨x, H1, I1, r1, ty, q1⟩ => ?_)
  obtain ⟨h1, h2⟩ := tyV_is I1 r1 ty
  refine ⟨T, id, pa, slot, hty, h1, h2, ?_⟩
  have hA := ha cpos pins s1 σ H1 _ I1 q1
  rw [hs] at hA ⊢
  refine Calls.callWith_builtin (by show (false || (backTo cpos (starEach es X.env)).any (·.1)) = false; rw [hplain] <;> rfl) (Calls.evalArgs_plain ?_)
  exact thn hA fun us s2 ⟨vs, H2, I2, r2, q2⟩ => hm pins s2 σ H2 x vs v us Q I2 r1 r2 q2
/- xs.append(e), list.index on a module's tuple .. are MtR facts of 06m -/
end
end L2

namespace L2
open PySem PySem.Spec PyProof.Rows

def MtM (X : Cx) (id : String) (r : V → List V → Hp → VK → Prop) : Prop :=
  ∀ (pins : List (Addr × Obj)) (s : Shared) (σ : St) (H : Hp) (x : V) (xs : List V) (v : Value) (us : List Value) (Q : VK), Inv X pins σ H s → RelV x v → Vals xs us → r x xs H Q →
    wpAny (model X.prog X.w) X.A (call (.builtin id) (v :: us)) (EP X pins σ Q) X.xe s

/-! ### lists of values -/
theorem Vals.one : ∀ {x : V} {us : List Value}, Vals [x] us → ∃ u, us = [u] ∧ RelV x u
  | _, _, .cons r .nil => ⟨_, rfl, r⟩
theorem Vals.reverse {xs : List V} {us : List Value} (h : Vals xs us) : Vals xs.reverse us.reverse := by
  induction h with
  | nil => exact .nil
  | cons r t ih => rw [List.reverse_cons, List.reverse_cons]; exact Vals.append ih (.cons r .nil)
theorem Vals.rep {xs : List V} {us : List Value} (h : Vals xs us) : ∀ k : Nat, Vals (List.replicate k xs).flatten (List.replicate k us).flatten
  | 0 => .nil
  | k + 1 => by
    rw [List.replicate_succ, List.replicate_succ, List.flatten_cons, List.flatten_cons]
    exact Vals.append h (Vals.rep h k)
theorem foldl_rep (its : List Value) : ∀ (k : Nat) (acc : List Value),
    List.foldl (fun x1 x2 => x1 ++ x2) acc.toArray (List.replicate k its.toArray) = (acc ++ (List.replicate k its).flatten).toArray
  | 0, acc => by simp
  | k + 1, acc => by
    have e : acc.toArray ++ its.toArray = (acc ++ its).toArray := by simp
    have e2 : (acc ++ its) ++ (List.replicate k its).flatten = acc ++ (List.replicate (k + 1) its).flatten := by
      rw [List.replicate_succ, List.flatten_cons, List.append_assoc]
    rw [← e2, ← foldl_rep its k (acc ++ its), ← e, List.replicate_succ, List.foldl_cons]

section
variable {X : Cx} {pins : List (Addr × Obj)} {σ : St} {H : Hp} {s : Shared} {l b : Addr} {xs ys zs : List V}

/-! ### the two steps: a tracked list is rewritten, a new list is laid -/
theorem Inv.lset {its its' : List Value} {n : Nat} {f : Array Value → Array Value} {t' : Nat} (I : Inv X pins σ H s) (hH : H l = some (.lst xs))
    (e : s.heap.get? l = some { cls := .type "list", data := .seq its.toArray n }) (hf : f its.toArray = its'.toArray) (hv : Vals ys its') (hz : ys.length ≤ sizeLine) :
    Inv X pins σ (upd H l (.lst ys)) { s with heap := s.heap.update l (Obj.mapSeq f), toks := t' } := by
  have q := PySem.IsL.update e f
  rw [hf] at q
  refine I.write (x := l) (e := l) (by rw [hH]; exact trivial) (.inl rfl) (fun b' u hb hu => (Heap.get?_update_other s.heap (Obj.mapSeq f) (Ne.symm hb)).trans hu) ⟨_, q⟩ ?_
  exact ⟨hz, its', _, hv, q⟩
theorem Inv.lnew {its : List Value} {t' : Nat} (I : Inv X pins σ H s) (hv : Vals ys its) (hz : ys.length ≤ sizeLine) :
    Inv X pins σ (upd H s.heap.objs.size (.lst ys)) { s with heap := s.heap.push { cls := .type "list", data := .seq its.toArray }, toks := t' } :=
  I.laid (fun _ _ q => Heap.get?_push_of_some _ q) (Nat.le_refl _) ⟨hz, its, 0, hv, Heap.get?_push_size _ rfl⟩
theorem Inv.fresh (I : Inv X pins σ H s) : H s.heap.objs.size = none := I.hok.fresh (Nat.le_refl _)
theorem Inv.lstM (I : Inv X pins σ H s) (hH : H l = some (.lst xs)) : xs.length ≤ sizeLine ∧ ∃ (its : List Value) (n : Nat), Vals xs its ∧ xs.length = its.length ∧ s.heap.get? l = some { cls := .type "list", data := .seq its.toArray n } := by
  obtain ⟨z, its, n, r, e⟩ := I.hok l _ hH
  exact ⟨z, its, n, r, r.length, e⟩

theorem notLongL {n : Nat} (h : n ≤ sizeLine) : Builtin.List.listTooLong n = false := by
  unfold Builtin.List.listTooLong
  exact decide_eq_false (by omega)
end

section
variable {X : Cx}

/-! ### methods -/
def rAppend : V → List V → Hp → VK → Prop := fun x vs H Q => ∃ l xs y, x = .ref l ∧ vs = [y] ∧ H l = some (.lst xs) ∧ xs.length < sizeLine ∧ Q .non (upd H l (.lst (xs ++ [y])))
theorem mt_append : MtM X "list.append" rAppend := by
  intro pins s σ H x vs v us Q I rx rv h
  obtain ⟨l, xs, y, rfl, rfl, hH, hz, q⟩ := h
  cases rx
  obtain ⟨u, rfl, ru⟩ := rv.one
  obtain ⟨z, its, n, r, hl, e⟩ := I.lstM hH
  refine call_meets F.slot_list_append ⟨_, e, rfl⟩ F.entry_list_append (F.args_list_append_2 _ _) (PySem.list_append l its.toArray n u (by rw [List.size_toArray]; omega)) ⟨e, ?_⟩
  refine ⟨.non, _, I.lset (its' := its ++ [u]) hH e (by simp) (r.append (.cons ru .nil)) ?_, rfl, q⟩
  rw [List.length_append, List.length_singleton]
  omega

/-! ### list + list, list += list, list * int -/
def rCat : R2 := fun x y H Q => ∃ l b xs zs, x = .ref l ∧ y = .ref b ∧ H l = some (.lst xs) ∧ H b = some (.lst zs) ∧ xs.length + zs.length ≤ sizeLine ∧ ∀ p, H p = none → Q (.ref p) (upd H p (.lst (xs ++ zs)))
theorem op_cat : OpR X (binaryOp .Add) rCat := by
  intro pins s σ H x y v u Q I rx ry h
  obtain ⟨l, b, xs, zs, rfl, rfl, hH, hB, hz, q⟩ := h
  cases rx
  cases ry
  obtain ⟨z, its, n, r, hl, e⟩ := I.lstM hH
  obtain ⟨z2, its2, n2, r2, hl2, e2⟩ := I.lstM hB
  refine PySem.P.add_list e e2 ?_ (by rw [List.size_toArray, List.size_toArray]; omega)
  have ea : its.toArray ++ its2.toArray = (its ++ its2).toArray := by simp
  rw [ea]
  exact ⟨.ref _, _, I.lnew (t' := s.toks) (r.append r2) (by rw [List.length_append]; omega), rfl, q _ I.fresh⟩
/-- a list times an int (a negative one is nothing) -/
def rRep : R2 := fun x y H Q => ∃ l k xs, x = .ref l ∧ y = .int k ∧ H l = some (.lst xs) ∧ -(2 ^ 63) ≤ k ∧ k < 2 ^ 63 ∧ xs.length * k.toNat ≤ sizeLine ∧
  ∀ p, H p = none → Q (.ref p) (upd H p (.lst (List.replicate k.toNat xs).flatten))
theorem len_rep {α : Type} (xs : List α) (k : Nat) : (List.replicate k xs).flatten.length = k * xs.length := by
  induction k with
  | zero => simp
  | succ k ih => rw [List.replicate_succ, List.flatten_cons, List.length_append, ih, Nat.succ_mul, Nat.add_comm]
theorem op_rep : OpR X (binaryOp .Mult) rRep := by
  intro pins s σ H x y v u Q I rx ry h
  obtain ⟨l, k, xs, rfl, rfl, hH, h1, h2, hz, q⟩ := h
  cases rx
  obtain ⟨t, rfl⟩ := ry
  obtain ⟨z, its, n, r, hl, e⟩ := I.lstM hH
  have hlen : its.toArray.size * k.toNat ≤ sizeLine := by rw [List.size_toArray, ← hl]; exact hz
  have hcap : ¬ its.toArray.size * k.toNat > (2 ^ 63 - 1) / 8 := by
    have : (sizeLine : Nat) ≤ (2 ^ 63 - 1) / 8 := by decide
    omega
  have hfit : ¬ (!Builtin.List.listFitsIndex k) = true := by
    rw [fitsIndex_both h1 h2]
    exact Bool.false_ne_true
  have hlong : ¬ Builtin.List.listTooLong (its.toArray.size * k.toNat) = true := by
    rw [notLongL hlen]
    exact Bool.false_ne_true
  have hnew : List.foldl (fun x1 x2 => x1 ++ x2) #[] (List.replicate (if its.toArray.isEmpty = true then 0 else k.toNat) its.toArray) = (List.replicate k.toNat its).flatten.toArray := by
    have f0 : ∀ m : Nat, List.foldl (fun x1 x2 => x1 ++ x2) #[] (List.replicate m its.toArray) = (List.replicate m its).flatten.toArray := fun m => by
      have := foldl_rep its m []
      rw [List.nil_append] at this
      exact this
    rw [f0]
    cases its with
    | nil => simp
    | cons a r' => rw [if_neg (by simp)]
  refine wpAny_binaryOp_repeat_ref (T := "list") (U := "int") (by decide) ⟨_, e, rfl⟩ (fun s' => typeIs_int s' k t) noFill_list_mul F.fills_int_mul F.slot_int_rmul repeat_list F.slot_int_index.lookup
    (call_meets F.slot_int_rmul (typeIs_int s k t) F.entry_int_rmul (F.args_int_rmul_2 _ _) (int___rmul___int_list k t l its.toArray n)
      ⟨e, rfl, ⟨_, e, rfl⟩, call_meets F.slot_list_mul ⟨_, e, rfl⟩ F.entry_list_mul (F.args_list_mul_2 _ _) (AutoListH.list___mul___list_int_3 l its.toArray n k t hfit hcap hlong) ⟨e, ?_⟩⟩)
  rw [hnew]
  exact ⟨.ref _, _, I.lnew (t' := s.toks) (r.rep k.toNat) (by rw [len_rep, Nat.mul_comm]; exact hz), rfl, q _ I.fresh⟩

/-! ### del xs[i] -/
end

/-! ### xs[a:b] = ys -/
section
variable {prog : Program} {w : World} {A : Around} {E : Value → Shared → Prop} {s : Shared}
end

section
variable {X : Cx}
end
end L2

namespace L2
open PySem PySem.Spec PyProof.Rows

/-! ### lists of pairs as tables -/
section
variable {κ : Type} [DecidableEq κ]
def valV (kvs : List (κ × V)) (k : κ) : Option V := (kvs.find? fun kv => decide (kv.1 = k)).map (·.2)
def dropK (kvs : List (κ × V)) (k : κ) : List (κ × V) := kvs.filter fun kv => decide (kv.1 ≠ k)

theorem valV_nil {k : κ} : valV ([] : List (κ × V)) k = none := rfl
theorem RelO.getD {o : Option V} {u : Option Value} {d : V} {d' : Value} (r : RelO o u) (rd : RelV d d') : RelV (o.getD d) (u.getD d') := by
  cases o with
  | none => cases u with
    | none => exact rd
    | some _ => exact (show False from r).elim
  | some _ => cases u with
    | none => exact (show False from r).elim
    | some _ => exact r

theorem KV.any {kvs : List (κ × V)} {vs : List (κ × Value)} (r : KV kvs vs) (k : κ) : (kvs.any fun kv => decide (kv.1 = k)) = vs.any fun kv => decide (kv.1 = k) := by
  unfold KV at r
  induction r with
  | nil => rfl
  | cons h t ih => rw [List.any_cons, List.any_cons, ih, h.1]
theorem KV.drop {kvs : List (κ × V)} {vs : List (κ × Value)} (r : KV kvs vs) (k : κ) : KV (dropK kvs k) (without vs k) := by
  unfold KV at r ⊢
  unfold dropK without
  induction r with
  | nil => exact .nil
  | @cons p q ps qs h t ih =>
    obtain ⟨h1, h2⟩ := h
    rw [List.filter_cons, List.filter_cons]
    by_cases e : p.1 = k
    · have a : ¬ decide (p.1 ≠ k) = true := by simp [e]
      have b : ¬ decide (q.1 ≠ k) = true := by simp [h1.symm.trans e]
      rw [if_neg a, if_neg b]; exact ih
    · have e' : ¬ q.1 = k := fun z => e (h1.trans z)
      have a : decide (p.1 ≠ k) = true := by simp [e]
      have b : decide (q.1 ≠ k) = true := by simp [e']
      rw [if_pos a, if_pos b]; exact .cons ⟨h1, h2⟩ ih
theorem KV.length {kvs : List (κ × V)} {vs : List (κ × Value)} (r : KV kvs vs) : kvs.length = vs.length := Paired.length r
end


/-! ### a tracked dict, its keys ints and texts or tuples of these -/
section
variable {P : Program} {w : World} {H : Hp} {h : Heap} {a : Addr}
end

section
variable {X : Cx} {pins : List (Addr × Obj)} {σ : St} {H : Hp} {s : Shared} {a : Addr} {y v : V} {u r : Value} {o : Option V} {A : Around} {E : Value → Shared → Prop}

end

section
variable {X : Cx} {pins : List (Addr × Obj)} {σ : St} {H : Hp} {s : Shared} {a : Addr} {kvs : List (Key × V)} {k : Key} {u : Value} {A : Around} {E : Value → Shared → Prop}
end


/-! ### readings and rules -/
section
variable {X : Cx} {o i e value : Expr} {pos pos' tpos : Pos} {td ty tv : TE}
end


/-! ### displays -/
section
variable {X : Cx} {pos : Pos}
end

/-! ### methods -/
/-- a method call o.m(e) of a built-in, with one argument: what must be seen of the text -/
structure M1 (X : Cx) (o : Expr) (m : Str) (apos : Pos) (e : Expr) (cpos : Pos) : Prop where
  base : attributeBase o m X.env (eval o X.env) = eval o X.env
  few : ((backTo cpos (starEach [e] X.env)).all (fun x => !x.1) && (backToKw cpos (keywordEach [] X.env)).all (fun x => x.1.isSome)
    && decide (([e] : List Expr).length + ([] : List Keyword).length + (if ([] : List Keyword).isEmpty then 0 else 1) < 30)) = true
  line : (apos.endLine == cpos.line) = true
  trees : backTo cpos (starEach [e] X.env) = [(false, eval e X.env)]
structure M2 (X : Cx) (o : Expr) (m : Str) (apos : Pos) (e f : Expr) (cpos : Pos) : Prop where
  base : attributeBase o m X.env (eval o X.env) = eval o X.env
  few : ((backTo cpos (starEach [e, f] X.env)).all (fun x => !x.1) && (backToKw cpos (keywordEach [] X.env)).all (fun x => x.1.isSome)
    && decide (([e, f] : List Expr).length + ([] : List Keyword).length + (if ([] : List Keyword).isEmpty then 0 else 1) < 30)) = true
  line : (apos.endLine == cpos.line) = true
  trees : backTo cpos (starEach [e, f] X.env) = [(false, eval e X.env), (false, eval f X.env)]

section
variable {X : Cx} {pins : List (Addr × Obj)} {σ : St} {H : Hp} {s : Shared} {a : Addr} {y d : V} {u r : Value} {o : Option V} {A : Around} {E : Value → Shared → Prop}
end

section
variable {X : Cx} {o e f : Expr} {apos cpos : Pos} {td ty tx : TE}
end

/-! ### dict(d): a copy -/
section
variable {X : Cx} {pins : List (Addr × Obj)} {σ : St} {H : Hp} {s : Shared} {a : Addr} {kvs : List (Key × V)} {A : Around} {E : Value → Shared → Prop}
end


section
variable {X : Cx} {pins : List (Addr × Obj)} {σ : St} {H : Hp} {s : Shared} {a : Addr} {y : V} {u : Value} {A : Around} {E : Value → Shared → Prop}
end
end L2


namespace Att
open PySem PySem.W PySem.Calls PyProof.Rows

/-! ### the script -/
theorem ints_of_wellAll {P : Params} {h : Heap} : ∀ (ns : List Int) (vs : List Value), WellAll P h vs (ns.map WData.int) → IntsAre vs ns := by
  intro ns
  induction ns with
  | nil =>
    intro vs w
    rw [List.map_nil] at w
    cases w
    exact .nil
  | cons n ns ih =>
    intro vs w
    rw [List.map_cons] at w
    cases w with
    | cons a b =>
      cases a
      exact .cons _ _ (ih _ b)

theorem script_of {l : OpenLaw} {n : Nat} (hn : l.most = some n) {P : Params} {h : Heap} {args : List WData} {vals : List Value}
    (hpre : l.row.toRowW.claim.pre args = true) (hwl : WellAll P h vals args) :
    ∃ a vs ns, vals = [Value.ref a] ∧ args = [WData.list (ns.map WData.int)] ∧ h.get? a = some { cls := .type "list", data := .seq vs.toArray } ∧ IntsAre vs ns ∧ ns.length ≤ n := by
  have hsh : WShape.hasAll [] args [.list .int] = true := (pre_splitW hpre).1
  have hc : l.pre.holds [] { args := args } = true := (pre_splitW hpre).2
  obtain ⟨d, r, rfl, h1, h2⟩ := hasAllW_cons hsh
  obtain rfl := hasAllW_nil h2
  obtain ⟨xs, rfl, h3⟩ := hasW_list h1
  obtain ⟨ns, rfl⟩ := items_int h3
  have hlen : ns.length ≤ n := by
    unfold OpenLaw.pre at hc
    have h4 : (WTm.not (.lt (.lit (.int (n : Int))) (.len (.arg 0)))).holds [] { args := [.list (ns.map .int)] } = true := by
      have h4 := (holds_andW hc).1
      rw [hn] at h4
      exact h4
    have h5 := condW_of h4 (w_not (w_lt w_lit (w_len_list (w_arg rfl))))
    rw [List.length_map] at h5
    refine Nat.le_of_not_lt fun q => ?_
    have q' : (n : Int) < ((ns.length : Nat) : Int) := by omega
    first
      | (rw [decide_eq_true q'] at h5; exact absurd h5 (by decide))
      | (simp at h5; omega)
  cases hwl with
  | cons w1 w2 =>
    cases w2
    cases w1 with
    | list ho hall => exact ⟨_, _, ns, rfl, rfl, ho, ints_of_wellAll ns _ hall, hlen⟩

theorem post_true (l : OpenLaw) (args : List WData) : l.row.toRowW.claim.post args (.bool true) args = true :=
  postW_of (r := l.row.toRowW) (X := (true == true))
    (show WShape.has [] (.bool true) .bool = true by first | rfl | decide | simp [WShape.has, WShape.arms, WShape.armsAll])
    (show (WTm.eq .res (.lit (.bool true))).value [] { args := args, res := some (.bool true), after := args } = some (.bool (true == true)) from w_eq_bool (w_res rfl) w_lit) rfl

/-! ### the attachment: holds_open's last premise (the goal 'hc' behind k_head) from a wpAny of the law's body -/
/-- the same from a codeAny of the CALL (for a layer whose function contracts speak of calls) -/
theorem attach_call {l : OpenLaw} {n : Nat} {q : Program} {loose : List Str} {XP : (Str → Option Value) → Heap → Prop} {YP : World → Heap → Prop} {d : DefRec}
    (hn : l.most = some n) (hdf : d.params.defaults = [])
    (call : ∀ (w : World) (s₀ s₁ : Shared) (mg mb : Str → Option Value) (fa : Addr) (o : Obj) (pm cd doc : Value) (a : Addr) (vs : List Value) (ns : List Int),
      Ground q loose [] XP w s₀ mg mb s₁.heap → YP w s₁.heap →
      s₁.heap.get? fa = some o → o.data = .func (docDef d.name d.params d.body d.scope pm cd doc) → s₁.heap.CodeRec cd d.name → mg d.name = some (.ref fa) →
      s₁.heap.get? a = some { cls := .type "list", data := .seq vs.toArray } → IntsAre vs ns → ns.length ≤ n → s₁.gens = #[] →
      codeAny (model l.prog w) callerA (.call (.ref fa) ⟨[.ref a], []⟩) (fun r s' => r = .ok (.ret (.bool true)) ∧ OldK s₁.heap s'.heap ∧ s'.os = s₁.os ∧ AllBare s'.gens) s₁) :
    WalkO q loose XP YP l.row.toRowW d [] (fun f vs => PySem.call f vs) := by
  intro w s₀ s₁ mg mb G Y fa o pm cd doc dV kV ho hd hcd hD hmg hg args vals as hpre hlay hrd hwl hlo
  obtain rfl : dV = .none := Dflts.none hD hdf
  obtain rfl : kV = .none := Dflts.noKw hD
  obtain ⟨a, vs, ns, rfl, rfl, hobj, hints, hlen⟩ := script_of hn hpre hwl
  refine enter_call (codeAny_mono (call w s₀ s₁ mg mb fa o pm cd doc a vs ns G Y ho (fd_plain hd) hcd hmg hobj hints hlen hg) fun r s' hq => ?_)
  obtain ⟨rfl, h2, h3, h4⟩ := hq
  exact ⟨.inl ⟨.bool true, .bool true, [], rfl, fun _ => rfl, .bool true, post_true l _, fun _ => ⟨List.Pairwise.nil, fun _ hm => (nomatch hm)⟩⟩, h2, h3, h4⟩

/-! ### rules over ANY heap (no ledger) from facts about the written part K: the library's own take a ledger (News) for what they write -/
section
variable {prog : Program} {w : World} {A : Around} {E : Value → Shared → Prop} {s : Shared} {K : Frag}

/-! the whole heap as the ledger: makes every rule that writes through a ledger a rule over any heap -/
def ledger (h : Heap) (L d : Addr) : List (Addr × Obj) := (List.range h.objs.size).filterMap fun a => if a = L ∨ a = d then none else (h.get? a).map fun o => (a, o)
end
end Att

namespace L2
open PySem PySem.Spec PyProof.Rows

theorem vals_ints : ∀ {vs : List Value} {ns : List Int}, IntsAre vs ns → Vals (ns.map V.int) vs
  | _, _, .nil => .nil
  | _, _, .cons n t h => .cons ⟨t, rfl⟩ (vals_ints h)

/-- nothing is tracked but the script, known to the object (or it is an object of the module) -/
def Only (H : Hp) : Prop := ∀ b, H b = none ∨ ∃ o xs, H b = some (.frz o (.lst xs))

/-- THE HEAD: the law's promise, at the heap behind the top. F, the promise of the law's def, may use that base is part of the heap (so K.In base, base.Ns mainGlobals mg stand in Mod) -/
theorem law_call {P : Program} {w : World} {K : PySem.W.Frag} {mg mb : Str → Option Value} {CX : CXT} {k : Nat} {fa a : Addr} {fd : FuncData} {x : Str} {sp : Sp} {s₁ : Shared} {vs : List Value} {ns : List Int}
    (KX : K.In s₁.heap) (hns : s₁.heap.Ns mainGlobals mg) (hb : s₁.heap.Ns builtinsNs mb) (hbb : ∀ x : Str, x ≠ "__name__" → mb x = bootBuiltins x) (hlim : s₁.heap.NoLimit) (hg : s₁.gens = #[])
    (ha : s₁.heap.get? a = some { cls := .type "list", data := .seq vs.toArray }) (hi : IntsAre vs ns) (hl : ns.length ≤ sizeLine) (hr : Room k callerA)
    (F : ∀ base : Heap, K.In base → base.Ns mainGlobals mg → FnOk P w K mg base CX k fa fd [x] sp) (hbind : ∀ (s : Shared) (u : Value), BindsTo s fd ⟨[u], []⟩ [(x, u)])
    (hsp : ∀ H : Hp, Only H → SqL K H a (ns.map V.int) → sp [.ref a] H (fun v _ => v = .bl true) fun _ _ _ => False)
    (hCX : ∀ H e s', CX [] H s₁ (fun _ _ _ => False) e s' → False) :
    codeAny (model P w) callerA (.call (.ref fa) ⟨[.ref a], []⟩) (fun r s' => r = .ok (.ret (.bool true)) ∧ OldK s₁.heap s'.heap ∧ s'.os = s₁.os ∧ AllBare s'.gens) s₁ := by
  have rv := vals_ints hi
  have lenV := hi.length
  -- from an abstract heap in which nothing but the script may be tracked
  have core : ∀ H : Hp, Only H → SqL K H a (ns.map V.int) → HOk P w H s₁.heap → (∀ b, H b ≠ none → b = a) → (H a ≠ none → K.lookup a = none) →
      codeAny (model P w) callerA (.call (.ref fa) ⟨[.ref a], []⟩) (fun r s' => r = .ok (.ret (.bool true)) ∧ OldK s₁.heap s'.heap ∧ s'.os = s₁.os ∧ AllBare s'.gens) s₁ := by
    intro H hO hS hok hA hK
    have base_of : ∀ {b : Addr} {o : Obj}, s₁.heap.get? b = some o → H b = none → (hidT s₁.heap H).get? b = some o := fun e n => hidT_get e n
    have noA : ∀ {b : Addr} {o : Obj} {es : Array DictEntry} {ep : Nat}, s₁.heap.get? b = some o → o.data = .dict es ep → H b = none := fun {b o es ep} e d => by
      cases q : H b with
      | none => rfl
      | some u =>
        have e' : b = a := hA b (by rw [q]; simp)
        subst e'
        rw [ha] at e; cases e
        have d' : Data.seq vs.toArray _ = Data.dict es ep := d
        cases d'
    have nsK : ∀ {b : Addr} {m : Str → Option Value}, s₁.heap.Ns b m → (hidT s₁.heap H).Ns b m := fun {b m} ⟨o, es, ep, e, d, r⟩ => ⟨o, es, ep, base_of e (noA e d), d, r⟩
    have hKb : K.In (hidT s₁.heap H) := fun b o e => base_of (KX b o e) (by
      cases q : H b with
      | none => rfl
      | some u =>
        have e' : b = a := hA b (by rw [q]; simp)
        subst e'
        rw [hK (by rw [q]; simp)] at e; cases e)
    have hM : Mod K mg (hidT s₁.heap H) := ⟨hKb, nsK hns, ⟨mb, nsK hb, hbb⟩, let ⟨mc, h1, h2⟩ := hlim; ⟨mc, nsK h1, h2⟩⟩
    have e0 : Env0 P w K mg (hidT s₁.heap H) callerA [] s₁ H := ⟨rfl, hM, fun b o e => of_hidT e, Nat.le_of_eq (hidT_size _ _), trivial, fun b hb => absurd (show b ∈ ([] : List Addr) from hb) (by simp), hok, .of_eq hg⟩
    refine codeAny_mono ((F _ hKb (nsK hns)).run callerA [] s₁ H ⟨[.ref a], []⟩ [.ref a] [.ref a] _ _ hr e0 (hbind s₁ (.ref a)) (.cons rfl .nil) (hsp H hO hS)) fun r s' h => ?_
    cases r with
    | error e => exact (hCX H e s' h).elim
    | ok fl =>
      cases fl with
      | next => exact False.elim h
      | brk => exact False.elim h
      | cont => exact False.elim h
      | ret u =>
        obtain ⟨v, H', os, bare, un, hok', r', q⟩ := h
        have q' : v = .bl true := q
        subst q'
        obtain rfl : u = Value.bool true := r'
        refine ⟨rfl, OldK.of_keep fun b o e => ?_, os, bare⟩
        cases q : H b with
        | none => exact un.keep b o e q (by intro z; exact absurd (show b ∈ ([] : List Addr) from z) (by simp)) (by simp)
        | some u =>
          rcases hO b with z | ⟨ob, xs, z⟩
          · rw [q] at z; cases z
          · have z2 := un.frzs b ob _ z
            obtain ⟨e1, _⟩ := hok b _ z
            obtain ⟨e2, _⟩ := hok' b _ z2
            rw [e] at e1; cases e1
            exact e2
  cases hk : K.lookup a with
  | some o =>
    -- the script is one of the module's own objects
    have e := KX a o hk
    rw [ha] at e
    cases e
    refine core (fun _ => none) (fun _ => .inl rfl) (.inr ⟨_, vs.toArray, _, hk, rfl, rfl, rfl, by rw [List.size_toArray, lenV]; exact hl, by simpa using rv⟩) (fun b u z => by have z' : (none : Option HO) = some u := z; cases z') (fun b z => absurd rfl z) fun z => absurd rfl z
  | none =>
    refine core (fun b => if b = a then some (.frz { cls := .type "list", data := .seq vs.toArray } (.lst (ns.map V.int))) else none) (fun b => ?_) (.inl (.inr ⟨{ cls := .type "list", data := .seq vs.toArray }, if_pos rfl⟩)) (fun b u z => ?_) (fun b z => ?_) fun _ => hk
    · by_cases hb : b = a
      · exact .inr ⟨_, _, if_pos hb⟩
      · exact .inl (if_neg hb)
    · by_cases hb : b = a
      · have z' := (if_pos hb).symm.trans z
        cases z'
        subst hb
        exact ⟨ha, by rw [List.length_map]; exact hl, vs, _, rv, ha⟩
      · have z' := (if_neg hb).symm.trans z
        cases z'
    · by_cases hb : b = a
      · exact hb
      · exact absurd (if_neg hb) z
end L2

namespace L2
open PySem PySem.Spec PyProof.Rows

abbrev KOf {K : PySem.W.Frag} {h : Heap} (_ : K.In h) : PySem.W.Frag := K

/-- the goal that k_head leaves (case hc), from the law's promise. F gives the function object fd (K's own) once, then the promise over every base -/
theorem walk_of {l : PySem.W.OpenLaw} {n k : Nat} {q : Program} {loose : List Str} {XP : (Str → Option Value) → Heap → Prop} {YP : World → Heap → Prop} {d : DefRec} {K : Params → PySem.W.Frag} {CX : World → CXT} {sp : World → Sp} {x : Str}
    (hn : l.most = some n) (hn2 : n ≤ sizeLine) (hdf : d.params.defaults = []) (hr : Room k callerA)
    (hY : ∀ (w : World) (h : Heap), YP w h → (K w.params).In h)
    (F : ∀ (w : World) (mg : Str → Option Value) (fa : Addr) (h : Heap), (K w.params).In h → h.Ns mainGlobals mg → mg d.name = some (.ref fa) →
      ∃ fd : FuncData, (∀ (s : Shared) (u : Value), BindsTo s fd ⟨[u], []⟩ [(x, u)]) ∧
        ∀ base : Heap, (K w.params).In base → base.Ns mainGlobals mg → FnOk l.prog w (K w.params) mg base (CX w) k fa fd [x] (sp w))
    (hsp : ∀ (w : World) (H : Hp) (a : Addr) (ns : List Int), ns.length ≤ n → Only H → SqL (K w.params) H a (ns.map V.int) → sp w [.ref a] H (fun v _ => v = .bl true) fun _ _ _ => False)
    (hCX : ∀ (w : World) (H : Hp) (s : Shared) (e : Value) (s' : Shared), CX w [] H s (fun _ _ _ => False) e s' → False) :
    PySem.W.WalkO q loose XP YP l.row.toRowW d [] (fun f vs => PySem.call f vs) := by
  refine Att.attach_call hn hdf fun w s₀ s₁ mg mb fa o pm cd doc a vs ns G Y ho hd hcd hmg hobj hints hlen hg => ?_
  have KX := hY w _ Y
  obtain ⟨fd, hb, hF⟩ := F w mg fa _ KX G.T.g hmg
  exact law_call KX G.T.g G.T.b G.T.builtins G.T.nolimit hg hobj hints (Nat.le_trans hlen hn2) hr hF hb (fun H hO hS => hsp w H a ns hlen hO hS) fun H e s' => hCX w H s₁ e s'
/-- the same where the promise hangs on the written part alone: (sp := My.sp_law), no hole under a binder -/
theorem walk_ofK {l : PySem.W.OpenLaw} {n k : Nat} {q : Program} {loose : List Str} {XP : (Str → Option Value) → Heap → Prop} {YP : World → Heap → Prop} {d : DefRec} {K : Params → PySem.W.Frag} {CX : CXT} {sp : PySem.W.Frag → Sp} {x : Str}
    (hn : l.most = some n) (hn2 : n ≤ sizeLine) (hdf : d.params.defaults = []) (hr : Room k callerA)
    (hY : ∀ (w : World) (h : Heap), YP w h → (K w.params).In h)
    (F : ∀ (w : World) (mg : Str → Option Value) (fa : Addr) (h : Heap), (K w.params).In h → h.Ns mainGlobals mg → mg d.name = some (.ref fa) →
      ∃ fd : FuncData, (∀ (s : Shared) (u : Value), BindsTo s fd ⟨[u], []⟩ [(x, u)]) ∧
        ∀ base : Heap, (K w.params).In base → base.Ns mainGlobals mg → FnOk l.prog w (K w.params) mg base CX k fa fd [x] (sp (K w.params)))
    (hsp : ∀ (K : PySem.W.Frag) (H : Hp) (a : Addr) (ns : List Int), ns.length ≤ n → Only H → SqL K H a (ns.map V.int) → sp K [.ref a] H (fun v _ => v = .bl true) fun _ _ _ => False)
    (hCX : ∀ (H : Hp) (s : Shared) (e : Value) (s' : Shared), CX [] H s (fun _ _ _ => False) e s' → False) :
    PySem.W.WalkO q loose XP YP l.row.toRowW d [] (fun f vs => PySem.call f vs) :=
  walk_of (K := K) (CX := fun _ => CX) (sp := fun w => sp (K w.params)) hn hn2 hdf hr hY F (fun w H a ns h1 h2 h3 => hsp (K w.params) H a ns h1 h2 h3) fun _ H s e s' => hCX H s e s'
end L2

/- THE LAST THEOREM (shape; LID, My.* are yours):
   My.Adr: a structure of the addresses that your layer names (classes, functions); My.Txt K t: a structure (Prop) of the equations over K;
   My.txt_mk : {K} {implicit addresses ..} (e1 : nsIn K mainGlobals "law" = some (some (.ref f))) (e2 : K.lookup f = some ⟨oc, od, .func (fnOf "law" "law" params body scope dV kV doc pm an cdv ct), sl⟩) (e3 : codeIn K cdv "law" = true) .. : ∃ t, My.Txt K t

set_option maxRecDepth 100000 in
set_option maxHeartbeats 0 in
theorem PySem.Challenge.cw_LID_holds : PySem.Challenge.rw_LID.Holds := by
  w_on; o_law; k_head; (case hw => w_witness2)
  k_fill
  refine L2.walk_of (l := PySem.Challenge.rw_LID) (n := 63) (k := 40) (x := "script") (CX := fun w => ..) (sp := fun _ => My.sp_law) rfl (by decide) rfl ⟨rfl, by decide, by decide⟩ (fun w h Y => PySem.W.kIn_of Y) ?F ?S ?C
  case F =>
    intro w mg fa h KX G hmg
    have T : ∃ t, My.Txt (L2.KOf KX) t := by
      dsimp only [L2.KOf]                          -- K must stand as «<heap const> w.params» for k_is
      refine' My.txt_mk ?e1 ?e2 ?e3 ..
      (case e1 => PySem.W.k_is)                    -- in the order: a name -> its address -> its object -> its parts
      (case e2 => PySem.W.k_is)
      ..
    obtain ⟨t, T⟩ := T
    have e0 := hmg.symm.trans (PySem.W.mg_of KX G T.law)
    cases e0                                       -- fa is the law's own address
    exact ⟨_, fun s u => .of_eq rfl, fun base kb nb => My.law_fn T kb nb⟩     -- if «.of_eq rfl» comes too early: refine' ⟨_, ?b, fun base kb nb => My.law_fn T kb nb⟩; exact fun s u => .of_eq rfl
  case S => exact fun w H a ns hl hO hS => ..
  case C => exact ..
(the tactic k_is has no namespace: write k_is) -/

/-! SHORT WORDS over the layer: a def of the text, its body, what a loop and a test want. -/
namespace L2
open PySem PySem.Spec PyProof.Rows

/-! ### the text by places -/
/-- the j-th statement of a class's body -/
def inClass (s : Stmt) (j : Nat) : Stmt := match s with
  | .ClassDef _ _ _ body _ _ _ _ _ _ _ => body.getD j (.Pass ⟨0, 0, 0, 0⟩)
  | _ => .Pass ⟨0, 0, 0, 0⟩
def defArgs (s : Stmt) : Arguments := match s with
  | .FunctionDef _ a _ _ _ _ _ _ _ _ => a
  | _ => { posonlyargs := [], args := [], vararg := none, kwonlyargs := [], kw_defaults := [], kwarg := none, defaults := [] }
def defBody (s : Stmt) : List Stmt := match s with
  | .FunctionDef _ _ b _ _ _ _ _ _ _ => b
  | _ => []
def defScope (s : Stmt) : Scope := match s with
  | .FunctionDef _ _ _ _ _ _ sc _ _ _ => sc
  | _ => { kind := .function, names := [], isGenerator := false, isCoroutine := false }

/-! ### no exception leaves a def -/
abbrev CX0 : CXT := fun _ _ _ _ _ _ => False
abbrev E0 : XK := fun _ _ _ => False
theorem pass0 {X : Cx} : Passes CX0 X E0 := fun _ _ _ _ _ _ _ h => h.elim

/-! ### a def (or method) of the text as it stands behind the top -/
structure Fun (K : PySem.W.Frag) (x qual : Str) (st : Stmt) (f : Addr) (fd : FuncData) : Prop where
  ex : ∃ (oc : Value) (od : Option Addr) (kV doc pm : Value) (an : Option Addr) (cdv ct : Value) (osl : Array (Option Value)),
    fd = PySem.W.fnOf x qual (defArgs st) (defBody st) (defScope st) .none kV doc pm an cdv ct ∧ K.lookup f = some ⟨oc, od, .func fd, osl⟩ ∧ PySem.W.codeIn K cdv qual = true
  kp : PySem.W.keepIn K (.ref f) = true
section
variable {P : Program} {w : World} {K : PySem.W.Frag} {mg : Str → Option Value} {base : Heap}
/-- THE RULE for a def: its body as a term of rules, and the reading of that term -/
theorem Fun.ok {x qual : Str} {st : Stmt} {f : Addr} {fd : FuncData} {N ps : List Str} {k : Nat} {sp : Sp} (F : Fun K x qual st f fd) (S : FnScope N ps (defScope st)) (len : ∀ vs H Q E, sp vs H Q E → vs.length = ps.length)
    (hbody : ∀ (cdv : Value) (A : Around) (outer : List Env) (s : Shared) (H : Hp) (vs : List V) (Q : VK) (E : XK), Room k (A.deeper (envOfC qual (defScope st) s.heap.objs.size f cdv)) → sp vs H Q E →
      ∃ t, PSs (cxOf CX0 P w K mg base N qual (defScope st) f cdv A outer s H E).nox (defBody st) t ∧ t { nx := fun _ H' => Q .non H', rt := Q } (start N vs) H) : FnOk P w K mg base CX0 (k + 1) f fd ps sp := by
  obtain ⟨oc, od, kV, doc, pm, an, cdv, ct, osl, rfl, lk, hcd⟩ := F.ex
  refine fn_of lk hcd S len fun A outer s H vs Q E hr hsp => ?_
  obtain ⟨t, h, q⟩ := hbody cdv A outer s H vs Q E hr hsp
  exact ⟨t, h.nox, q⟩
/-- how its arguments bind (no defaults): h is «fun _ _ _ _ _ _ us hl => match us, hl with | [_, _], _ => rfl», one _ a parameter -/
theorem Fun.binds {x qual : Str} {st : Stmt} {f : Addr} {fd : FuncData} {ps : List Str} (F : Fun K x qual st f fd)
    (h : ∀ (kV doc pm : Value) (an : Option Addr) (cdv ct : Value) (us : List Value), us.length = ps.length → bindArgs (PySem.W.fnOf x qual (defArgs st) (defBody st) (defScope st) .none kV doc pm an cdv ct) ⟨us, []⟩ = pure (ps.zip us)) : Binds K fd ps [] := by
  obtain ⟨oc, od, kV, doc, pm, an, cdv, ct, osl, rfl, lk, hcd⟩ := F.ex
  exact .all (h kV doc pm an cdv ct)
theorem fun_mk {x qual : Str} {st : Stmt} {f : Addr} {oc : Value} {od an : Option Addr} {osl : Array (Option Value)} {kV doc pm cdv ct : Value} (l : K.lookup f = some ⟨oc, od, .func (PySem.W.fnOf x qual (defArgs st) (defBody st) (defScope st) .none kV doc pm an cdv ct), osl⟩)
    (c : PySem.W.codeIn K cdv qual = true) (k : PySem.W.keepIn K (.ref f) = true) : Fun K x qual st f (PySem.W.fnOf x qual (defArgs st) (defBody st) (defScope st) .none kV doc pm an cdv ct) := ⟨⟨oc, od, kV, doc, pm, an, cdv, ct, osl, rfl, l, c⟩, k⟩
end
/-! ### expressions in short: the name that stands in the i-th slot -/
section
variable {X : Cx}
theorem pv (i : Nat) {x : Str} {pos : Pos} (hN : X.N[i]? = some x := by rfl) (hv : Vis X.env.scope x := by first | exact Or.inl rfl | exact Or.inr (Or.inl rfl) | exact Or.inr (Or.inr rfl)) (hd : (x == ("__debug__" : Str)) = false := by decide)
    (hcd : (x == ("__classdict__" : Str)) = false := by decide) : PE X (.Name x pos) (tVar i) := pe_var hN hv hd hcd
end

/-! ### tests -/
theorem iteF {A B : Prop} (h : B) : if false = true then A else B := by
  rw [if_neg Bool.false_ne_true]
  exact h
theorem iteT {A B : Prop} (h : A) : if true = true then A else B := by
  rw [if_pos rfl]
  exact h
theorem ite2 {c A B : Prop} [Decidable c] (h1 : c → A) (h2 : ¬ c → B) : if c then A else B := by
  by_cases h : c
  · rw [if_pos h]
    exact h1 h
  · rw [if_neg h]
    exact h2 h
/-! ### heaps -/
/-- all that was tracked is as it was -/
def Same (H H' : Hp) : Prop := ∀ b o, H b = some o → H' b = some o
theorem Same.refl (H : Hp) : Same H H := fun _ _ h => h
theorem Same.trans {H H1 H2 : Hp} (a : Same H H1) (b : Same H1 H2) : Same H H2 := fun c o h => b c o (a c o h)
theorem Same.free {H H' : Hp} (e : Same H H') {l : Addr} (h : H' l = Option.none) : H l = Option.none := by
  cases q : H l with
  | none => rfl
  | some o =>
    rw [e l o q] at h
    cases h
theorem Same.seq {K : PySem.W.Frag} {H H' : Hp} {a : Addr} {xs : List V} (e : Same H H') (h : SqL K H a xs) : SqL K H' a xs := by
  rcases h with (h | ⟨o, h⟩) | h
  · exact .inl (.inl (e _ _ h))
  · exact .inl (.inr ⟨o, e _ _ h⟩)
  · exact .inr h

end L2


/-! ## comprehensions, over the layer -/
namespace L2
open PySem PySem.Spec PyProof.Rows

/-- the tests of a comprehension -/
def PTs (X : Cx) (ifs : List Expr) (t : TT) : Prop :=
  ∀ (pins : List (Addr × Obj)) (s : Shared) (σ : St) (H : Hp) (Q : Bool → Hp → Prop), Inv X pins σ H s → t σ H Q →
    wpAny (model X.prog X.w) X.A (forIn ifs true fun c r => if r = true then do let ok ← isTrue c X.env (eval c X.env); pure (ForInStep.yield ok) else pure (ForInStep.yield r)) (TP X pins σ Q) X.xe s
def tYes : TT := fun _ H Q => Q true H
theorem pts_nil {X : Cx} : PTs X [] tYes := fun _ _ _ H _ I h => wpAny_tests_nil ⟨H, I, h⟩
/-- a comprehension's turn, whatever the iterator keeps -/
theorem compLoop_any {prog : Program} {w : World} {A : Around} {s : Shared} {R : Result → Shared → Prop} {elt target iter : Expr} {ifs : List Expr} {scope : Scope} {pos : Pos} {it acc : Value} {env : Env} (J : Nat → Shared → Prop)
    (turn : ∀ n s, J n s → wpAny (model prog w) A (pyNext it) (fun r s1 => match r with
      | none => R (.ok .next) s1
      | some v => wpAny (model prog w) A (letOwnedTupleGo target it v) (fun _ s2 => wpAny (model prog w) A (assign target env v) (fun _ s3 =>
          wpAny (model prog w) A (forIn ifs true fun c r => if r = true then do let ok ← isTrue c env (eval c env); pure (ForInStep.yield ok) else pure (ForInStep.yield r)) (fun ok s4 =>
            if ok = true then wpAny (model prog w) A (eval elt env) (fun x s5 =>
              wpAny (model prog w) A (call (.builtin "list.append") [acc, x]) (fun _ s6 => ∃ m, m < n ∧ J m s6) (fun _ _ => False) s5) (fun _ _ => False) s4
            else ∃ m, m < n ∧ J m s4) (fun _ _ => False) s3) (fun _ _ => False) s2) (fun _ _ => False) s1) (fun _ _ => False) s)
    (n : Nat) (h : J n s) : codeAny (model prog w) A (.compLoop (.ListComp elt [⟨target, iter, ifs, 0⟩] scope pos) 0 it acc env) R s := by
  refine codeAny_loop rfl J (fun n s hI => ?_) n h
  show wpAny _ A ((compTurn (.ListComp elt [⟨target, iter, ifs, 0⟩] scope pos) 0 it acc env).onRaise (fun x => do noteFrame x env; theTreesLotGoes x)) _ _ s
  refine wpAny_noted ?_
  rw [compTurn_list]
  refine wpAny_bind (wpAny_standAt (wpAny_bind (wpAny_mono (turn n s hI) (fun r s1 h1 => ?_) fun _ _ z => z.elim)))
  cases r with
  | none => exact wpAny_pure h1
  | some v =>
    refine wpAny_bind (wpAny_mono h1 (fun _ s2 h2 => ?_) fun _ _ z => z.elim)
    refine wpAny_bind (wpAny_mono h2 (fun _ s3 h3 => wpAny_bind (wpAny_mono h3 (fun ok s4 h4 => ?_) fun _ _ z => z.elim)) fun _ _ z => z.elim)
    cases ok with
    | false => exact wpAny_pure ⟨rfl, h4⟩
    | true =>
      exact wpAny_bind (wpAny_bind (wpAny_mono h4 (fun x s5 h5 => wpAny_bind (wpAny_mono h5 (fun _ s6 h6 => wpAny_pure (wpAny_pure ⟨rfl, h6⟩)) fun _ _ z => z.elim)) fun _ _ z => z.elim))

/-! ### the cells that a block sees -/
def closL (cells : List (Str × Addr)) : List (Str × NameKind) → List (Str × Addr) → List (Str × Addr)
  | [], acc => acc
  | (n, k) :: r, acc => if k == .free then closL cells r ((n, (cells.lookup n).getD 0) :: acc) else closL cells r acc
theorem closure_go {env : Env} : ∀ (names : List (Str × NameKind)) (acc : List (Str × Addr)), (∀ y ∈ names, y.2 = .free → ∃ c, env.cells.lookup y.1 = some c) →
    (forIn names acc fun (x : Str × NameKind) (cs : List (Str × Addr)) => (if (x.2 == .free) = true then do let a ← cellOf env x.1; pure (ForInStep.yield ((x.1, a) :: cs)) else pure (ForInStep.yield cs) : Sem (ForInStep (List (Str × Addr))))) = pure (closL env.cells names acc)
  | [], acc, _ => rfl
  | (n, k) :: r, acc, h => by
    have ih := fun acc => closure_go r acc fun y hy => h y (List.mem_cons_of_mem _ hy)
    rw [List.forIn_cons]
    unfold closL
    by_cases hk : (k == NameKind.free) = true
    · obtain ⟨c, hc⟩ := h (n, k) List.mem_cons_self (by simpa using hk)
      have e : cellOf env n = pure c := by
        unfold cellOf
        rw [show env.cells.lookup n = some c from hc]
      simp only [hk, if_true, e, pure_bind]
      rw [ih, show env.cells.lookup n = some c from hc]
      rfl
    · simp only [hk, Bool.false_eq_true, if_false, pure_bind]
      exact ih acc
theorem closure_of {env : Env} {scope : Scope} (h : ∀ y ∈ scope.names, y.2 = .free → ∃ c, env.cells.lookup y.1 = some c) : closureFor scope env = pure (closL env.cells scope.names []) := by
  have e := closure_go scope.names [] h
  unfold closureFor
  simp only [bind_pure] at e ⊢
  exact e
theorem closL_sub {env : Env} : ∀ (names : List (Str × NameKind)) (acc : List (Str × Addr)), (∀ y ∈ names, y.2 = .free → ∃ c, env.cells.lookup y.1 = some c) → (∀ x c, acc.lookup x = some c → env.cells.lookup x = some c) →
    ∀ x c, (closL env.cells names acc).lookup x = some c → env.cells.lookup x = some c
  | [], acc, _, ha, x, c, e => ha x c e
  | (n, k) :: r, acc, h, ha, x, c, e => by
    unfold closL at e
    by_cases hk : (k == NameKind.free) = true
    · rw [if_pos hk] at e
      obtain ⟨d, hd⟩ := h (n, k) List.mem_cons_self (by simpa using hk)
      refine closL_sub r _ (fun y hy => h y (List.mem_cons_of_mem _ hy)) (fun y b q => ?_) x c e
      rw [List.lookup_cons] at q
      by_cases hy : (y == n) = true
      · rw [hy] at q
        have hy' : y = n := by simpa using hy
        have hd' : env.cells.lookup n = some d := hd
        rw [hd'] at q
        have q' : d = b := Option.some.inj q
        rw [hy', hd', q']
      · have hy' : (y == n) = false := by simpa using hy
        rw [hy'] at q
        exact ha y b q
    · rw [if_neg hk] at e
      exact closL_sub r acc (fun y hy => h y (List.mem_cons_of_mem _ hy)) ha x c e
theorem closL_acc {cells : List (Str × Addr)} : ∀ (names : List (Str × NameKind)) (acc : List (Str × Addr)) (x : Str), (acc.lookup x).isSome = true → ((closL cells names acc).lookup x).isSome = true
  | [], _, _, h => h
  | (n, k) :: r, acc, x, h => by
    unfold closL
    by_cases hk : (k == NameKind.free) = true
    · rw [if_pos hk]
      refine closL_acc r _ x ?_
      rw [List.lookup_cons]
      by_cases hx : (x == n) = true
      · rw [hx]; rfl
      · have hx' : (x == n) = false := by simpa using hx
        rw [hx']; exact h
    · rw [if_neg hk]
      exact closL_acc r acc x h
theorem closL_has {cells : List (Str × Addr)} : ∀ (names : List (Str × NameKind)) (acc : List (Str × Addr)) (x : Str), (x, NameKind.free) ∈ names → ((closL cells names acc).lookup x).isSome = true
  | [], _, _, h => nomatch h
  | (n, k) :: r, acc, x, h => by
    unfold closL
    rcases List.mem_cons.mp h with e | h
    · cases e
      rw [if_pos (by rfl)]
      refine closL_acc r _ _ ?_
      rw [List.lookup_cons]
      simp
    · by_cases hk : (k == NameKind.free) = true
      · rw [if_pos hk]; exact closL_has r _ x h
      · rw [if_neg hk]; exact closL_has r _ x h
theorem lookup_relabel {env : Env} : ∀ {names : List (Str × NameKind)} {x : Str} {k : NameKind}, (names.map fun (n, k) => if (k == NameKind.free && env.scope.kind == .function && env.kindOf n == some .cell) then (n, NameKind.cell) else (n, k)).lookup x = some k →
    (k = .cell ∨ k = .free) → (x, NameKind.free) ∈ names ∨ (x, NameKind.cell) ∈ names
  | [], _, _, h, _ => by simp at h
  | (n, q) :: r, x, k, h, hk => by
    have h' : List.lookup x ((if (q == NameKind.free && env.scope.kind == .function && env.kindOf n == some .cell) = true then (n, NameKind.cell) else (n, q)) :: r.map fun (n, k) => if (k == NameKind.free && env.scope.kind == .function && env.kindOf n == some .cell) then (n, NameKind.cell) else (n, k)) = some k := h
    by_cases hc : (q == NameKind.free && env.scope.kind == .function && env.kindOf n == some .cell) = true
    · rw [if_pos hc, List.lookup_cons] at h'
      have hq : q = .free := by
        simp only [Bool.and_eq_true, beq_iff_eq] at hc
        exact hc.1.1
      by_cases hx : (x == n) = true
      · have hx' : x = n := by simpa using hx
        subst hx'; subst hq
        exact .inl List.mem_cons_self
      · have hx' : (x == n) = false := by simpa using hx
        rw [hx'] at h'
        rcases lookup_relabel (env := env) h' hk with z | z
        · exact .inl (List.mem_cons_of_mem _ z)
        · exact .inr (List.mem_cons_of_mem _ z)
    · rw [if_neg hc, List.lookup_cons] at h'
      by_cases hx : (x == n) = true
      · rw [hx] at h'
        have hx' : x = n := by simpa using hx
        subst hx'
        have e : q = k := Option.some.inj h'
        subst e
        rcases hk with rfl | rfl
        · exact .inr List.mem_cons_self
        · exact .inl List.mem_cons_self
      · have hx' : (x == n) = false := by simpa using hx
        rw [hx'] at h'
        rcases lookup_relabel (env := env) h' hk with z | z
        · exact .inl (List.mem_cons_of_mem _ z)
        · exact .inr (List.mem_cons_of_mem _ z)
theorem relabel_free {env : Env} : ∀ {names : List (Str × NameKind)} {x : Str}, names.lookup x = some .free →
    (names.map fun (n, k) => if (k == NameKind.free && env.scope.kind == .function && env.kindOf n == some .cell) then (n, NameKind.cell) else (n, k)).lookup x = some .cell ∨
    (names.map fun (n, k) => if (k == NameKind.free && env.scope.kind == .function && env.kindOf n == some .cell) then (n, NameKind.cell) else (n, k)).lookup x = some .free
  | [], _, h => by simp at h
  | (n, q) :: r, x, h => by
    show List.lookup x ((if (q == NameKind.free && env.scope.kind == .function && env.kindOf n == some .cell) = true then (n, NameKind.cell) else (n, q)) :: _) = _ ∨ List.lookup x ((if (q == NameKind.free && env.scope.kind == .function && env.kindOf n == some .cell) = true then (n, NameKind.cell) else (n, q)) :: _) = _
    rw [List.lookup_cons] at h
    by_cases hc : (q == NameKind.free && env.scope.kind == .function && env.kindOf n == some .cell) = true
    · rw [if_pos hc, List.lookup_cons]
      by_cases hx : (x == n) = true
      · rw [hx]; exact .inl rfl
      · have hx' : (x == n) = false := by simpa using hx
        rw [hx'] at h ⊢
        exact relabel_free h
    · rw [if_neg hc, List.lookup_cons]
      by_cases hx : (x == n) = true
      · rw [hx] at h ⊢; exact .inr h
      · have hx' : (x == n) = false := by simpa using hx
        rw [hx'] at h ⊢
        exact relabel_free h

/-! ### the block -/
/-- the context of a comprehension's block -/
def cxC (X : Cx) (N' : List Str) (scope : Scope) (C : Addr) (s : Shared) (H : Hp) (fp : List Addr) : Cx where
  prog := X.prog
  w := X.w
  K := X.K
  mg := X.mg
  base := X.base
  A := X.A
  N := N'
  s₀ := s
  H₀ := H
  env := compEnvC scope (closL X.env.cells scope.names []) C X.env
  outer := X.stack
  stack := X.stack
  ex := fp
  fn := fun _ => false
  calm := X.calm
  pn := []
  xe := fun _ _ => False
/-- the block's values at a turn's start: its own names unknown, the seen ones as they are -/
def σC (o : Nat) (fr : List Nat) (σ : St) : St := List.replicate o none ++ fr.map fun j => (σ[j]?).join
/-- what the text must be like: sc0, N: the scope and the names around; names N' of the block, its o own ones first, behind them those it sees, at the places fr of N -/
structure CompScope (sc0 : Scope) (N N' : List Str) (o : Nat) (fr : List Nat) (scope : Scope) : Prop where
  kind : scope.kind = .function
  nocell : (scope.names.all fun y => y.2 != .cell) = true
  loc : (scope.names.all fun y => y.2 != .local || scope.names.lookup y.1 == some .local) = true
  free : (scope.names.all fun y => y.2 != .free || sc0.names.lookup y.1 == some .cell || sc0.names.lookup y.1 == some .free) = true
  len : N'.length = o + fr.length
  sees : ((List.range fr.length).all fun j => match fr[j]? with
    | none => false
    | some y => match N[y]? with
      | none => false
      | some x => N'[o + j]? == some x && scope.names.lookup x == some .free) = true
/-- the reading. W: turn, measure, the items so far, heap -/
def LcR (J : It) (g : TG) (tt : TT) (te : TE) (o : Nat) (fr : List Nat) (σ : St) (H1 : Hp) (Q : VK) : Prop := ∃ W : Nat → Nat → List V → Hp → Prop, (∃ m, W 0 m [] H1) ∧ ∀ i m ys H, W i m ys H →
  (J.stop i H ∧ ys.length ≤ sizeLine ∧ ∀ p, H p = none → Q (.ref p) (upd H p (.lst ys))) ∨
  (J.go i H ∧ ys.length < sizeLine ∧ ∀ x H', J.yld i H x H' → g x (σC o fr σ) H' fun σ2 H2 => tt σ2 H2 fun b H3 => if b = true then te σ2 H3 fun y H4 => ∃ m', m' < m ∧ W (i + 1) m' (ys ++ [y]) H4 else ∃ m', m' < m ∧ W (i + 1) m' ys H3)
def tLc (wi : TI) (g : TG) (tt : TT) (te : TE) (o : Nat) (fr : List Nat) : TE := fun σ H Q => wi σ H fun J H1 => LcR J g tt te o fr σ H1 Q
/-- a target that stores into the own names alone -/
def OwnG (o : Nat) (g : TG) : Prop := ∀ (x : V) (ow fr : St) (H : Hp) (Q : St → Hp → Prop), ow.length = o → g x (ow ++ fr) H Q → g x (ow ++ fr) H fun σ2 H2 => (∃ ow', ow'.length = o ∧ σ2 = ow' ++ fr) ∧ Q σ2 H2
theorem own_name {o i : Nat} (h : i < o) : OwnG o (gName i) := fun x ow fr H Q hl q => ⟨⟨ow.set i (some x), by rw [List.length_set]; exact hl, by rw [List.set_append_left _ _ (by omega)]⟩, q⟩
section
variable {X : Cx} {pins : List (Addr × Obj)} {σ : St} {H : Hp} {s : Shared} {N' : List Str} {o : Nat} {fr : List Nat} {scope : Scope} {fp : List Addr}
abbrev accObj (us : List Value) : Obj := { cls := .type "list", data := .seq us.toArray us.length }
theorem CompScope.nocell' {sc0 : Scope} {N : List Str} (S : CompScope sc0 N N' o fr scope) : ∀ y ∈ scope.names, y.2 ≠ .cell := fun y hy e => by
  have q := List.all_eq_true.mp S.nocell y hy
  rw [e] at q
  exact absurd q (by decide)
theorem CompScope.loc' {sc0 : Scope} {N : List Str} (S : CompScope sc0 N N' o fr scope) : ∀ y ∈ scope.names, y.2 = .local → scope.names.lookup y.1 = some .local := fun y hy e => by
  have q := List.all_eq_true.mp S.loc y hy
  rw [e] at q
  simpa using q
theorem CompScope.free' {sc0 : Scope} {N : List Str} (S : CompScope sc0 N N' o fr scope) (hs : X.env.scope = sc0) : ∀ y ∈ scope.names, y.2 = .free → X.env.kindOf y.1 = some .cell ∨ X.env.kindOf y.1 = some .free := fun y hy e => by
  have q := List.all_eq_true.mp S.free y hy
  rw [e] at q
  show X.env.scope.names.lookup y.1 = _ ∨ X.env.scope.names.lookup y.1 = _
  rw [hs]
  simpa using q
theorem CompScope.sees' {sc0 : Scope} {N : List Str} (S : CompScope sc0 N N' o fr scope) : ∀ j y, fr[j]? = some y → ∃ x, N[y]? = some x ∧ N'[o + j]? = some x ∧ scope.names.lookup x = some .free := fun j y e => by
  have hj : j < fr.length := (List.getElem?_eq_some_iff.mp e).1
  have q := List.all_eq_true.mp S.sees j (List.mem_range.mpr hj)
  rw [e] at q
  dsimp only at q
  cases ex : N[y]? with
  | none => rw [ex] at q; cases q
  | some x =>
    rw [ex] at q
    dsimp only at q
    rw [Bool.and_eq_true, beq_iff_eq, beq_iff_eq] at q
    exact ⟨x, rfl, q.1, q.2⟩
theorem CompScope.cells {sc0 : Scope} {N0 : List Str} (S : CompScope sc0 N0 N' o fr scope) (hs : X.env.scope = sc0) (I : Inv X pins σ H s) : ∀ y ∈ scope.names, y.2 = .free → ∃ c, X.env.cells.lookup y.1 = some c := fun y hy e => I.ok.has y.1 (S.free' hs y hy e)
theorem CompScope.sub {sc0 : Scope} {N0 : List Str} (S : CompScope sc0 N0 N' o fr scope) (hs : X.env.scope = sc0) (I : Inv X pins σ H s) : ∀ x c, (closL X.env.cells scope.names []).lookup x = some c → X.env.cells.lookup x = some c :=
  closL_sub (env := X.env) scope.names [] (S.cells hs I) (fun _ _ z => nomatch z)
/-- the block's entry: the list at D, the block's names at C -/
theorem Inv.block {sc0 : Scope} {N0 : List Str} (S : CompScope sc0 N0 N' o fr scope) (hs : X.env.scope = sc0) (hN : X.N = N0) (I : Inv X pins σ H s) (hf : ∀ b ∈ fp, FpOk X pins H b) (hfl : ∀ b ∈ fp, b < s.heap.objs.size) {h1 : Heap} {C D : Addr} {m : Str → Option Value} {us : List Value} {t : Nat}
    (hC : s.heap.objs.size ≤ C) (hD : s.heap.objs.size ≤ D) (hDC : D ≠ C)
    (old : ∀ b ob, s.heap.get? b = some ob → h1.get? b = some ob) (hn : h1.Ns C m) (ha : h1.get? D = some (accObj us)) : Inv (cxC X N' scope C s H fp) [(D, accObj us)] (σC o fr σ) H { s with heap := h1, toks := t } := by
  have sub := S.sub hs I
  have frC : ∀ b ∈ frs X.stack, b < s.heap.objs.size := fun b hb => by
    obtain ⟨_, ob, ho, _⟩ := I.stack.mem hb
    exact Heap.lt_size ho
  refine ⟨⟨I.ok.mod, S.kind, I.ok.glob, I.ok.blt, hC, fun x y c h1 h2 => I.ok.inj x y c (sub x c h1) (sub y c h2), fun x hx => ?_, fun x c hfx _ => (nomatch hfx), I.ok.hd, I.ok.frames, .inl rfl, fun b hb => ?_, I.bs, Nat.le_trans I.ok.bsz I.sz, fun b ob e hb => ?_, fun b hb hb' => ?_, I.stack, I.stkFree⟩,
    rfl, I.bare, Un.kept old, ⟨m, hn, fun i x v e1 e2 e3 => ?_⟩, fun x c e => ?_, I.hok.fresh hC, fun x c e => I.freeC x c (sub x c e), fun p hp => ?_, I.hok.kept old, ?_⟩
  · have hx' : (relabel scope X.env).names.lookup x = some .cell ∨ (relabel scope X.env).names.lookup x = some .free := hx
    have key : (x, NameKind.free) ∈ scope.names := by
      rcases hx' with z | z
      · rcases lookup_relabel (env := X.env) z (.inl rfl) with q | q
        · exact q
        · exact absurd rfl (S.nocell' _ q)
      · rcases lookup_relabel (env := X.env) z (.inr rfl) with q | q
        · exact q
        · exact absurd rfl (S.nocell' _ q)
    exact Option.isSome_iff_exists.mp (closL_has (cells := X.env.cells) scope.names [] x key)
  · obtain ⟨f0, f1, f2, f3, f4, f5⟩ := hf b hb
    exact ⟨Nat.ne_of_lt (Nat.lt_of_lt_of_le (hfl b hb) hC), fun x c e => f4 x c (sub x c e)⟩
  · obtain ⟨f0, f1, f2, f3, f4, f5⟩ := hf b hb
    rcases f3 with z | z
    · exact I.ok.noex b ob e z
    · exact absurd (Nat.lt_of_lt_of_le (Heap.lt_size e) (Nat.le_trans I.ok.bsz z)) (Nat.lt_irrefl _)
  · obtain ⟨f0, f1, f2, f3, f4, f5⟩ := hf b hb
    rcases List.mem_cons.mp (I.stkSub b hb') with z | z
    · exact f1 z
    · exact f2 z
  · unfold σC at e2
    by_cases hi : i < o
    · rw [List.getElem?_append_left (by rw [List.length_replicate]; exact hi), List.getElem?_replicate, if_pos hi] at e2
      cases e2
    · rw [List.getElem?_append_right (by rw [List.length_replicate]; exact Nat.not_lt.mp hi), List.length_replicate, List.getElem?_map] at e2
      cases hy : fr[i - o]? with
      | none => rw [hy] at e2; cases e2
      | some y =>
        rw [hy] at e2
        have e2' : (σ[y]?).join = some v := Option.some.inj e2
        have e3' : σ[y]? = some (some v) := by
          cases q : σ[y]? with
          | none => rw [q] at e2'; cases e2'
          | some z => rw [q] at e2'; exact congrArg some e2'
        obtain ⟨x', s2, s1, s3⟩ := S.sees' (i - o) y hy
        rw [← hN] at s2
        rw [show o + (i - o) = i by omega] at s1
        have ex : x = x' := by
          have e1' : N'[i]? = some x := e1
          rw [e1'] at s1
          exact Option.some.inj s1
        subst ex
        have hmem := PySem.mem_of_lookup s3
        obtain ⟨m0, _, hl⟩ := I.loc
        have hk := S.free' hs (x, .free) hmem rfl
        obtain ⟨u, ru, lk⟩ := hl y x v s2 e3' (by rcases hk with z | z; exact .inr (.inl z); exact .inr (.inr z))
        refine ⟨u, ru, .inr ⟨relabel_free (env := X.env) s3, ?_⟩⟩
        obtain ⟨c', hc'⟩ := Option.isSome_iff_exists.mp (closL_has (cells := X.env.cells) scope.names [] x hmem)
        refine ⟨c', hc', ?_⟩
        rcases lk with ⟨z, _⟩ | ⟨_, c, e, ob, ho, hd⟩
        · rcases hk with z' | z'
          · rw [z] at z'; cases z'
          · rw [z] at z'; cases z'
        · have ec : c = c' := by
            have := sub x c' hc'
            rw [e] at this
            exact Option.some.inj this
          subst ec
          exact ⟨ob, old _ _ ho, hd⟩
  · obtain ⟨v, ob, ho, hd⟩ := I.cell x c (sub x c e)
    exact ⟨v, ob, old _ _ ho, hd⟩
  · have e : p = (D, accObj us) := by simpa using (show p ∈ ([] : List (Addr × Obj)) ++ [(D, accObj us)] from hp)
    subst e
    refine ⟨ha, I.hok.fresh hD, hDC, fun z => absurd (Nat.lt_of_lt_of_le (frC D z) hD) (Nat.lt_irrefl _), fun v z => nomatch z⟩
  · show (σC o fr σ).length = N'.length
    unfold σC
    rw [List.length_append, List.length_replicate, List.length_map, S.len]
/-- the block's end, seen from the def: the new list is tracked, the block's names are pinned -/
theorem Inv.unblock (I : Inv X pins σ H s) (hf : ∀ b ∈ fp, FpOk X pins H b) {C D : Addr} {us : List Value} {ys : List V} {σ' : St} {H' : Hp} {s' : Shared} (hC : s.heap.objs.size ≤ C) (hD : s.heap.objs.size ≤ D) (hDC : D ≠ C)
    (I' : Inv (cxC X N' scope C s H fp) [(D, accObj us)] σ' H' s') (r : Vals ys us) (hz : ys.length ≤ sizeLine) : ∃ oC m, s'.heap.get? C = some oC ∧ s'.heap.Ns C m ∧ Inv X (pins ++ [(C, oC)]) σ (upd H' D (.lst ys)) s' := by
  obtain ⟨aD, nD, _, _, _⟩ := I'.pin (D, accObj us) (by simp)
  have aD : s'.heap.get? D = some (accObj us) := aD
  have nD : H' D = none := nD
  have un : Un (frs X.stack) fp H H' s.heap s'.heap := I'.base
  have lt : ∀ b u, H b = some u → b ≠ D := fun b u e => Nat.ne_of_lt (Nat.lt_of_lt_of_le (I.hok.lt e) hD)
  have un2 : Un (frs X.stack) fp H (upd H' D (.lst ys)) s.heap s'.heap := by
    refine ⟨un.keep, un.slot, fun b ob e n hx => ?_, un.there, fun b xs e => ?_, fun b ob u e => ?_, fun b ps e => ?_⟩
    · rw [upd_ne (Nat.ne_of_lt (Nat.lt_of_lt_of_le (Heap.lt_size e) hD))]
      exact un.free b ob e n hx
    · rw [upd_ne (lt b _ e)]; exact un.tups b xs e
    · rw [upd_ne (lt b _ e)]; exact un.frzs b ob u e
    · obtain ⟨more, q⟩ := un.tbls b ps e
      exact ⟨more, by rw [upd_ne (lt b _ e)]; exact q⟩
  have hok : HOk X.prog X.w (upd H' D (.lst ys)) s'.heap := fun b u e => by
    by_cases hb : b = D
    · subst hb
      rw [upd_same] at e
      cases e
      exact ⟨hz, us, us.length, r, aD⟩
    · rw [upd_ne hb] at e
      exact (I'.hok b u e).stay (fun c v _ q => q) (fun c q => by rw [upd_ne (ne_of_none q nD)]; exact q) fun c xs q => by rw [upd_ne (ne_of_none q nD)]; exact q
  have os : s'.os = s.os := I'.os
  have J : Inv X pins σ (upd H' D (.lst ys)) s' := I.call' (ch := fp) os un2 hok I'.bare fun b hb => by
    obtain ⟨f0, f1, f2, f3, f4, f5⟩ := hf b hb
    exact ⟨f3, f1, f4, f5⟩
  obtain ⟨m, hn, _⟩ := I'.loc
  have hn : s'.heap.Ns C m := hn
  obtain ⟨oC, es, ep, hoC, hdC, _⟩ := id hn
  refine ⟨oC, m, hoC, hn, J.pins_of fun p hp => ?_⟩
  rcases List.mem_append.mp hp with z | z
  · exact J.pin p (List.mem_append_right _ z)
  · have e : p = (C, oC) := by simpa using z
    subst e
    have nC : H' C = none := I'.free
    refine ⟨hoC, by rw [upd_ne (Ne.symm hDC)]; exact nC, Nat.ne_of_gt (Nat.lt_of_lt_of_le I.lt hC), I.nofs hC, fun v z => ?_⟩
    have z' : oC.data = .cell v := z
    rw [hdC] at z'
    cases z'
end

section
variable {X : Cx} {N' : List Str} {o : Nat} {fr : List Nat} {scope : Scope} {elt tg iter : Expr} {ifs : List Expr} {pos : Pos} {wi : TI} {g : TG} {tt : TT} {te : TE}
/-- a comprehension runs; use: what is done with the list while the block's names still stand -/
theorem lc_run (hc : X.calm = true) {sc0 : Scope} {N0 : List Str} (S : CompScope sc0 N0 N' o fr scope) (hi : PI X tg iter wi) (ho : OwnG o g)
    (hg : ∀ (C : Addr) (s : Shared) (H : Hp) (fp : List Addr), PG (cxC X N' scope C s H fp) tg g)
    (ht : ∀ (C : Addr) (s : Shared) (H : Hp) (fp : List Addr), PTs (cxC X N' scope C s H fp) ifs tt)
    (he : ∀ (C : Addr) (s : Shared) (H : Hp) (fp : List Addr), PE (cxC X N' scope C s H fp) elt te)
    (hs : ∀ x, foldedSetIterable iter X.env x = pure x) (hsc : X.env.scope = sc0) (hN0 : X.N = N0) {pins : List (Addr × Obj)} {s : Shared} {σ : St} {H : Hp} {Qv : VK} (I : Inv X pins σ H s) (h : tLc wi g tt te o fr σ H Qv)
    {use : Option (Value → Sem Unit)} {Q : Value → Shared → Prop} {E : Value → Shared → Prop}
    (hE : ∀ e s', X.xe e s' → E e s')
    (fin : ∀ (C oC D : _) (m : Str → Option Value) (H' : Hp) (ys : List V) (s' : Shared), Inv X (pins ++ [(C, oC)]) σ (upd H' D (.lst ys)) s' → Qv (.ref D) (upd H' D (.lst ys)) → s'.heap.Ns C m → H' C = none → C ≠ D →
      C ≠ X.env.locals → X.s₀.heap.objs.size ≤ C → (∀ x c, X.env.cells.lookup x = some c → c ≠ C) → (∀ p ∈ X.pn ++ pins, p.1 ≠ C) → compPost (model X.prog X.w) X.A E use Q (.ref D) C (.ok .next) s') :
    wpAny (model X.prog X.w) X.A (comprehension (.ListComp elt [⟨tg, iter, ifs, 0⟩] scope pos) scope X.env (firstIterPos [⟨tg, iter, ifs, 0⟩] pos) (newList []) false (eval iter X.env) use) Q E s := by
  refine wpAny_comprehension_free (use := use) rfl hs (closure_of (S.cells hsc I)) S.kind S.loc' (wpAny_mono (hi pins s σ H _ I h) (fun xv s1 h1 => wpAny_mono h1 (fun itv s2 h2 => ?_) hE) hE)
  obtain ⟨it, fp, tn, J, H2, rfl, I2, T, st2, f2, W, ⟨m0, w0⟩, turn⟩ := h2
  have hfl : ∀ b ∈ fp, b < s2.heap.objs.size := fun b hb => by
    obtain ⟨ob, e, _⟩ := T.obj 0 _ st2 b hb
    exact Heap.lt_size e
  refine wpAny_newObj_type (wpAny_newFunctionEnv S.nocell' (by intro y hy; simp at hy) (fun h1 hns1 hsb1 => ?_) S.kind)
  dsimp only at hns1 hsb1 ⊢
  generalize hH2 : s2.heap.push { cls := .type "list", dict := none, data := .seq ([] : List Value).toArray } = G at hns1 hsb1 ⊢
  have hCe : G.objs.size = s2.heap.objs.size + 1 := by rw [← hH2, Heap.size_push]
  have hC : s2.heap.objs.size ≤ G.objs.size := by rw [hCe]; exact Nat.le_succ _
  have hDC : s2.heap.objs.size ≠ G.objs.size := by rw [hCe]; exact Nat.ne_of_lt (Nat.lt_succ_self _)
  have old : ∀ b ob, s2.heap.get? b = some ob → h1.get? b = some ob := fun b ob e =>
    hsb1.extBut b ob (Nat.ne_of_lt (Nat.lt_of_lt_of_le (Heap.lt_size e) hC)) (Heap.get?_push_of_some _ (hH2 ▸ Heap.get?_push_of_some _ e))
  have hacc : h1.get? s2.heap.objs.size = some (accObj []) := hsb1.extBut _ _ hDC (Heap.get?_push_of_some _ (hH2 ▸ Heap.get?_push_size _ rfl))
  have st1 : tn 0 h1 := T.keep _ _ _ st2 fun b _ ob e => old b ob e
  have fpC : ∀ {us : List Value} {H' : Hp}, (∀ b ∈ fp, H' b = none) → ∀ b ∈ fp, FpOk (cxC X N' scope G.objs.size s2 H2 fp) [(s2.heap.objs.size, accObj us)] H' b := fun {us H'} hn b hb => by
    obtain ⟨f0, f1, f3, f4, f5, f6⟩ := f2 b hb
    refine ⟨hn b hb, Nat.ne_of_lt (Nat.lt_of_lt_of_le (hfl b hb) hC), fun z => ?_, .inl hb, fun x c e => f5 x c (S.sub hsc I2 x c e), fun p hp => ?_⟩
    · rcases List.mem_cons.mp (I2.stkSub b z) with q | q
      · exact f1 q
      · exact f3 q
    · have e : p = (s2.heap.objs.size, accObj us) := by simpa using (show p ∈ ([] : List (Addr × Obj)) ++ [(s2.heap.objs.size, accObj us)] from hp)
      subst e
      exact Nat.ne_of_gt (hfl b hb)
  have loop : ∀ s3 : Shared, s3 = { s2 with heap := h1, toks := s2.toks + ([] : List (Str × Value)).length } →
      codeAny (model X.prog X.w) X.A (.compLoop (.ListComp elt [⟨tg, iter, ifs, 0⟩] scope pos) 0 (.ref it) (.ref s2.heap.objs.size) (compEnvC scope (closL X.env.cells scope.names []) G.objs.size X.env))
        (compPost (model X.prog X.w) X.A E use Q (.ref s2.heap.objs.size) G.objs.size) s3 := by
    rintro s3 rfl
    refine compLoop_any (fun n s' => ∃ i σ' H' ys us, Inv (cxC X N' scope G.objs.size s2 H2 fp) [(s2.heap.objs.size, accObj us)] σ' H' s' ∧ σ' = σC o fr σ ∧ Vals ys us ∧ tn i s'.heap ∧ (∀ b ∈ fp, H' b = none) ∧ W i n ys H') ?_ m0
      ⟨0, _, H2, [], [], I2.block S hsc hN0 f2 hfl hC (Nat.le_refl _) hDC old hns1 hacc, rfl, .nil, st1, fun b hb => (f2 b hb).1, w0⟩
    rintro n s' ⟨i, σ', H', ys, us, I', rfl, rv, st', fr', w'⟩
    rcases turn i n ys H' w' with ⟨stop, hz, q⟩ | ⟨go, hz, step⟩
    · refine thn (T.done (cxC X N' scope G.objs.size s2 H2 fp) rfl rfl rfl hc i _ s' _ H' _ I' (fpC fr') st' stop) fun r s4 ⟨hr, I4⟩ => ?_
      subst hr
      obtain ⟨oC, m, hoC, hn, J4⟩ := I2.unblock f2 hC (Nat.le_refl _) hDC I4 rv hz
      exact fin _ oC _ m H' ys s4 J4 (q _ (I4.pin (s2.heap.objs.size, accObj us) (by simp)).2.1) hn I4.free (Ne.symm hDC) (Nat.ne_of_gt (Nat.lt_of_lt_of_le I2.lt hC)) (Nat.le_trans I2.sz hC)
        (fun x c e => by obtain ⟨v, z⟩ := I2.cell x c e; exact Nat.ne_of_lt (Nat.lt_of_lt_of_le z.lt hC)) fun p hp => Nat.ne_of_lt (Nat.lt_of_lt_of_le (Heap.lt_size (I2.pin p hp).1) hC)
    · refine thn (T.item (cxC X N' scope G.objs.size s2 H2 fp) rfl rfl rfl hc i _ s' _ H' _ I' (fpC fr') st' go) fun r s4 ⟨u, hr, h4⟩ => ?_
      subst hr
      refine thn h4 fun _ s5 ⟨x, H5, I5, r5, y5, st5, fr5⟩ => ?_
      have hst := step x H5 y5
      have hst' := ho x (List.replicate o none) (fr.map fun j => (σ[j]?).join) H5 _ (List.length_replicate ..) hst
      -- the iterator's records are pinned while the block's own code runs
      have I5' := I5.pinned (fpC (us := us) fr5) (T.obj _ _ st5)
      refine thn (hg _ _ _ _ _ s5 _ H5 x u _ I5' r5 hst') fun _ s6 ⟨σ6, H6, I6, ⟨ow, hol, e6⟩, q6⟩ => ?_
      subst e6
      refine thn (ht _ _ _ _ _ s6 _ H6 _ I6 q6) fun b s7 ⟨H7, I7, q7⟩ => ?_
      have back : ∀ {us' : List Value} {σ8 : St} {H8 : Hp} {s8 : Shared}, Inv (cxC X N' scope G.objs.size s2 H2 fp) ([(s2.heap.objs.size, accObj us')] ++ pinsAt fp s5.heap) (ow ++ fr.map fun j => (σ[j]?).join) H8 s8 →
          Inv (cxC X N' scope G.objs.size s2 H2 fp) [(s2.heap.objs.size, accObj us')] (σC o fr σ) H8 s8 ∧ tn (i + 1) s8.heap ∧ ∀ b ∈ fp, H8 b = none := fun {us' σ8 H8 s8} I8 => by
        refine ⟨I8.unpinned.weak ?_ fun j v e => ?_, T.keep _ _ _ st5 fun b hb ob e => (I8.pin (b, ob) (List.mem_append_right _ (List.mem_append_right _ (mem_pinsAt hb e)))).1, fun b hb => ?_⟩
        · unfold σC
          rw [List.length_append, List.length_append, List.length_replicate, hol]
        · unfold σC at e
          by_cases hj : j < o
          · rw [List.getElem?_append_left (by rw [List.length_replicate]; exact hj), List.getElem?_replicate, if_pos hj] at e
            cases e
          · rw [List.getElem?_append_right (by rw [List.length_replicate]; exact Nat.not_lt.mp hj), List.length_replicate] at e
            rw [List.getElem?_append_right (by rw [hol]; exact Nat.not_lt.mp hj), hol]
            exact e
        · obtain ⟨ob, e, _⟩ := T.obj _ _ st5 b hb
          exact (I8.pin (b, ob) (List.mem_append_right _ (List.mem_append_right _ (mem_pinsAt hb e)))).2.1
      cases b with
      | false =>
        rw [if_neg Bool.false_ne_true] at q7 ⊢
        obtain ⟨m', hm, w7⟩ := q7
        obtain ⟨I8, st8, fr8⟩ := back (us' := us) (σ8 := []) I7
        exact ⟨m', hm, i + 1, _, H7, ys, us, I8, rfl, rv, st8, fr8, w7⟩
      | true =>
        rw [if_pos rfl] at q7 ⊢
        refine thn (he _ _ _ _ _ s7 _ H7 _ I7 q7) fun y s8 ⟨yv, H8, I8, r8, m', hm, w8⟩ => ?_
        obtain ⟨aD, nD, _, _, _⟩ := I8.pin (s2.heap.objs.size, accObj us) (by simp)
        have aD : s8.heap.get? s2.heap.objs.size = some (accObj us) := aD
        have nD : H8 s2.heap.objs.size = none := nD
        have hul : us.length ≤ sizeLine := by rw [← rv.length]; exact Nat.le_of_lt hz
        refine append_at (hsz := by show us.toArray.size ≤ sizeLine; rw [List.size_toArray]; exact hul) aD fun h9 hs9 hD9 => ?_
        have hD9' : h9.get? s2.heap.objs.size = some (accObj (us ++ [y])) := by
          rw [hD9]
          show some ({ cls := .type "list", data := .seq (us.toArray.push y) (us.length + 1) } : Obj) = some { cls := .type "list", data := .seq (us ++ [y]).toArray (us ++ [y]).length }
          rw [List.length_append, List.length_singleton, List.push_toArray]
        have I9 : Inv (cxC X N' scope G.objs.size s2 H2 fp) (pinsAt fp s5.heap) (ow ++ fr.map fun j => (σ[j]?).join) H8 { s8 with heap := h9 } :=
          (I8.pins_of (pins' := pinsAt fp s5.heap) fun p hp => I8.pin p (List.mem_append_right _ (List.mem_append_right _ hp))).turned (t' := s8.toks) (it := s2.heap.objs.size) (fun b ob hb e => hs9.extBut b ob hb e) nD hDC (.inr (Nat.le_refl _))
            (fun x c e => by
              obtain ⟨v, z⟩ := I2.cell x c (S.sub hsc I2 x c e)
              exact Nat.ne_of_lt z.lt)
            fun p hp => by
              obtain ⟨hb, _⟩ := of_pinsAt (show p ∈ pinsAt fp s5.heap from by simpa [cxC] using hp)
              exact Nat.ne_of_lt (hfl p.1 hb)
        have I9' : Inv (cxC X N' scope G.objs.size s2 H2 fp) ([(s2.heap.objs.size, accObj (us ++ [y]))] ++ pinsAt fp s5.heap) (ow ++ fr.map fun j => (σ[j]?).join) H8 { s8 with heap := h9 } :=
          I9.pins_of fun p hp => by
            rcases List.mem_append.mp hp with z | z
            · have e : p = (s2.heap.objs.size, accObj (us ++ [y])) := by simpa using z
              subst e
              refine ⟨hD9', nD, hDC, fun z => ?_, fun v z => nomatch z⟩
              obtain ⟨_, ob, hob, _⟩ := I2.stack.mem z
              exact Nat.lt_irrefl _ (Heap.lt_size hob)
            · exact I9.pin p (List.mem_append_right _ z)
        obtain ⟨I10, st10, fr10⟩ := back (us' := us ++ [y]) (σ8 := []) I9'
        exact ⟨m', hm, i + 1, _, H8, ys ++ [yv], us ++ [y], I10, rfl, Vals.append rv (.cons r8 .nil), st10, fr10, w8⟩
  exact codeAny_compStart_list (loop _ rfl) (T.self _ 0 _ _ _ st1 (loop _ rfl))

/-- [elt for tg in iter if ..] -/
theorem pe_lc (hc : X.calm = true) {sc0 : Scope} {N0 : List Str} (S : CompScope sc0 N0 N' o fr scope) (hi : PI X tg iter wi) (ho : OwnG o g)
    (hg : ∀ (C : Addr) (s : Shared) (H : Hp) (fp : List Addr), PG (cxC X N' scope C s H fp) tg g)
    (ht : ∀ (C : Addr) (s : Shared) (H : Hp) (fp : List Addr), PTs (cxC X N' scope C s H fp) ifs tt)
    (he : ∀ (C : Addr) (s : Shared) (H : Hp) (fp : List Addr), PE (cxC X N' scope C s H fp) elt te)
    (hs : ∀ x, foldedSetIterable iter X.env x = pure x := by intro _; rfl) (hsc : X.env.scope = sc0 := by rfl) (hN0 : X.N = N0 := by rfl) : PE X (.ListComp elt [⟨tg, iter, ifs, 0⟩] scope pos) (tLc wi g tt te o fr) := by
  intro pins s σ H Q I h
  rw [eval_ListComp]
  refine lc_run hc S hi ho hg ht he hs hsc hN0 I h (use := none) (fun _ _ z => z) fun C oC D m H' ys s' J q hn nC hCD hCL hCs hCc hCp => ?_
  refine ⟨m, hn, fun h' hs' => ⟨.ref D, upd H' D (.lst ys), ?_, rfl, q⟩⟩
  refine J.unpinned.turned (t' := s'.toks) (it := C) (fun b ob hb e => hs'.extBut b ob hb e) (by rw [upd_ne hCD]; exact nC) hCL (.inr hCs) hCc hCp
/-- name = [elt for tg in iter if ..], where the name is stored while the block's names still stand -/
theorem ps_lc {i : Nat} {x : Str} {px : Pos} {spos : Pos} (hc : X.calm = true) (hN : X.N.Nodup) (hx : X.N[i]? = some x) (hl : X.env.kindOf x = some .local) {sc0 : Scope} {N0 : List Str} (S : CompScope sc0 N0 N' o fr scope) (hi : PI X tg iter wi) (ho : OwnG o g)
    (hg : ∀ (C : Addr) (s : Shared) (H : Hp) (fp : List Addr), PG (cxC X N' scope C s H fp) tg g)
    (ht : ∀ (C : Addr) (s : Shared) (H : Hp) (fp : List Addr), PTs (cxC X N' scope C s H fp) ifs tt)
    (he : ∀ (C : Addr) (s : Shared) (H : Hp) (fp : List Addr), PE (cxC X N' scope C s H fp) elt te)
    (hs : ∀ x, foldedSetIterable iter X.env x = pure x := by intro _; rfl) (hsc : X.env.scope = sc0 := by rfl) (hN0 : X.N = N0 := by rfl)
    (hsw : swapsWith (.ListComp elt [⟨tg, iter, ifs, 0⟩] scope pos) (some (.Name x px)) spos.line X.env = pure true := by rfl) :
    PS X (.Assign [.Name x px] (.ListComp elt [⟨tg, iter, ifs, 0⟩] scope pos) spos) (tAsg (tLc wi g tt te o fr) (gName i)) := by
  intro pins s σ H D I h
  rw [exec_Assign_Name_used _ _ _ _ hsw]
  refine wpAny_bind (wpAny_standAt (wpAny_bind ?_))
  show wpAny _ X.A (do let _ ← comprehension (.ListComp elt [⟨tg, iter, ifs, 0⟩] scope pos) scope X.env (firstIterPos [⟨tg, iter, ifs, 0⟩] pos) (newList []) false (eval iter X.env) (some (assign (.Name x px) X.env))) _ _ s
  refine wpAny_bind (wpAny_mono (lc_run (Q := fun _ s' => SP X pins D .next s') hc S hi ho hg ht he hs hsc hN0 I h (use := some (assign (.Name x px) X.env)) (fun _ _ z => z) fun C oC Dd m H' ys s' J q hn nC hCD hCL hCs hCc hCp => ?_) (fun _ s' hq => wpAny_pure (wpAny_pure hq)) fun _ _ e => e)
  show wpAny _ X.A (assign (.Name x px) X.env (.ref Dd)) _ _ _
  refine wpAny_assign_Name (store_ok J hN hx (.inl hl) (v := .ref Dd) rfl (fun s2 I2 => ?_) (.inr hl))
  have g1 := (I2.pin (C, oC) (by simp)).1
  have g1 : s2.heap.get? C = some oC := g1
  have n2 : s2.heap.Ns C m := by
    obtain ⟨oc, es, ep, e, r⟩ := hn
    have e0 := (J.pin (C, oC) (by simp)).1
    have e0 : s'.heap.get? C = some oC := e0
    rw [e] at e0
    cases e0
    exact ⟨_, es, ep, g1, r⟩
  refine ⟨m, n2, fun h' hs' => ⟨_, upd H' Dd (.lst ys), ?_, q⟩⟩
  exact I2.unpinned.turned (t' := s2.toks) (it := C) (fun b ob hb e => hs'.extBut b ob hb e) (by rw [upd_ne hCD]; exact nC) hCL (.inr hCs) hCc hCp
end
end L2

/-! ## more rules over the layer: range as a value, sum, set, enumerate, dict methods, deep == -/
namespace L2
open PySem PySem.Spec PyProof.Rows
section
variable {X : Cx}
theorem vals_two : ∀ {x y : V} {us : List Value}, Vals [x, y] us → ∃ u v, us = [u, v] ∧ RelV x u ∧ RelV y v
  | _, _, _, .cons r (.cons r' .nil) => ⟨_, _, rfl, r, r'⟩
theorem ints_of_vals : ∀ {ns : List Int} {us : List Value}, Vals (ns.map V.int) us → IntsAre us ns
  | [], _, .nil => .nil
  | n :: ns, _, .cons r t => by
    obtain ⟨tk, rfl⟩ := r
    exact .cons n tk (ints_of_vals t)
/-! ### range(..) as an object -/
/-! ### sum of ints -/
theorem call_sum_ints (hc : X.calm = true) : CallR X (.builtin "sum") (fun xs H Q => ∃ (p : Addr) (ns : List Int), xs = [.ref p] ∧ SqL X.K H p (ns.map V.int) ∧ Q (.int ns.sum) H) := by
  intro pins s σ H xs us Q I r h
  obtain ⟨p, ns, rfl, hq, q⟩ := h
  obtain ⟨u, rfl, ru⟩ := vals1 r
  obtain rfl : u = Value.ref p := ru
  obtain ⟨its, rv, pl, hz⟩ := I.list hq
  have hi := ints_of_vals rv
  have hall := hi.allInts
  obtain ⟨xs, ex⟩ := hall.items
  have hl := pl.isList
  rw [ex] at hl
  refine sum_intListG (I.ok.hd hc) hl fun h' tk t' hk => ?_
  have e1 : preSum (numAt xs) xs.size = ns.sum := by
    have e2 := hi.numsOf
    rw [show its = its.toArray.toList from rfl, ex, nums_intItems] at e2
    rw [preSum_eq, List.take_of_length_le (by simp), ← e2]
  exact ⟨.int ns.sum, H, I.kept hk, ⟨t', by rw [e1]⟩, q⟩
/-! ### set(list of ints), its length -/
def seen (ns : List Int) : List Int := firstMet (fun i => ns.getD i 0) ns.length
/-! ### isinstance against a built-in type -/
/-! ### for i, x in enumerate(list) -/
end
end L2

/-! ## a dict's setdefault and values; == of lists and tuples to any depth -/
namespace L2
open PySem PySem.Spec PyProof.Rows
section
variable {X : Cx}
end

/-! ### == to any depth -/
/-- the answer of x == y by the abstract heap, down to depth n -/
inductive EqD (K : PySem.W.Frag) (H : Hp) : Nat → V → V → Bool → Prop
  | flat {n : Nat} {x y : V} (fx : flatV x = true) (fy : flatV y = true) : EqD K H n x y (eqV x y)
  | lsts {n : Nat} {a b : Addr} {xs ys : List V} {e : Nat → Bool} (ha : SqL K H a xs) (hb : SqL K H b ys) (hl : xs.length = ys.length) (h : ∀ i x y, xs[i]? = some x → ys[i]? = some y → EqD K H n x y (e i)) : EqD K H (n + 1) (.ref a) (.ref b) ((List.range xs.length).all e)
  | lens {n : Nat} {a b : Addr} {xs ys : List V} (ha : SqL K H a xs) (hb : SqL K H b ys) (hl : xs.length ≠ ys.length) : EqD K H (n + 1) (.ref a) (.ref b) false
  | tups {n : Nat} {a b : Addr} {xs ys : List V} {e : Nat → Bool} (ha : SqT K H a xs) (hb : SqT K H b ys) (h : ∀ i x y, xs[i]? = some x → ys[i]? = some y → EqD K H n x y (e i)) :
      EqD K H (n + 1) (.ref a) (.ref b) ((List.range (min xs.length ys.length)).all e && xs.length == ys.length)
theorem eqV_self {x : V} (h : flatV x = true) : eqV x x = true := by
  cases x <;> first | rfl | (simp [eqV]; done) | exact absurd (show false = true from h) Bool.false_ne_true
section
variable {X : Cx} {pins : List (Addr × Obj)} {σ : St} {H : Hp} {s : Shared}
theorem Vals.at {xs : List V} {us : List Value} {j : Nat} (r : Vals xs us) (h : j < us.length) : ∃ x, xs[j]? = some x ∧ RelV x us[j] := by
  have hl := r.length
  have hx : xs[j]? = some (xs[j]'(by omega)) := List.getElem?_eq_getElem (by omega)
  obtain ⟨u, e, ru⟩ := r.get hx
  rw [List.getElem?_eq_getElem h] at e
  cases e
  exact ⟨_, hx, ru⟩
/-- a thing and itself -/
theorem EqD.self {n : Nat} {x y : V} {b : Bool} (q : EqD X.K H n x y b) (I : Inv X pins σ H s) : x = y → b = true := by
  induction q with
  | flat fx fy => intro e; subst e; exact eqV_self fx
  | @lsts n a b xs ys e ha hb hl h ih =>
    intro z
    cases z
    have e1 : xs = ys := I.list_inj ha hb
    subst e1
    rw [List.all_eq_true]
    intro i hi
    have hx : xs[i]? = some (xs[i]'(List.mem_range.mp hi)) := List.getElem?_eq_getElem _
    exact ih i _ _ hx hx rfl
  | @lens n a b xs ys ha hb hl =>
    intro z
    cases z
    exact absurd (congrArg List.length (I.list_inj ha hb)) hl
  | @tups n a b xs ys e ha hb h ih =>
    intro z
    cases z
    have e1 : xs = ys := I.tuple_inj ha hb
    subst e1
    rw [Nat.min_self, Bool.and_eq_true, List.all_eq_true]
    refine ⟨fun i hi => ?_, by simp⟩
    have hx : xs[i]? = some (xs[i]'(List.mem_range.mp hi)) := List.getElem?_eq_getElem _
    exact ih i _ _ hx hx rfl
theorem EqD.at {n : Nat} {x y : V} {b : Bool} (q : EqD X.K H n x y b) (I : Inv X pins σ H s) : ∀ {A : Around} {u v : Value}, A.units + n < cLine → RelV x u → RelV y v → SeqAt.EqAt A s u v b := by
  induction q with
  | flat fx fy => intro A u v _ ru rv; exact eqAt_V ru rv fx fy
  | @lsts n a b xs ys e ha hb hl h ih =>
    intro A u v hu ru rv
    obtain rfl : u = Value.ref a := ru
    obtain rfl : v = Value.ref b := rv
    by_cases hab : a = b
    · have z := EqD.self (EqD.lsts ha hb hl h) I (congrArg V.ref hab)
      rw [z, hab]
      exact SeqAt.EqAt.same _
    obtain ⟨us, rx, px, _⟩ := I.list ha
    obtain ⟨vs, ry, py, _⟩ := I.list hb
    have l1 := rx.length
    have l2 := ry.length
    have z := SeqAt.RcAt.lists (A := A) (s := s) (e := e) px.isList py.isList (by rw [List.size_toArray, List.size_toArray]; omega) (by omega) fun j h1 h2 => by
      obtain ⟨x, ex, rx'⟩ := rx.at (j := j) (by simpa using h1)
      obtain ⟨y, ey, ry'⟩ := ry.at (j := j) (by simpa using h2)
      exact ih j x y ex ey (A := A.in1) (by show A.units + 1 + n < cLine; omega) (by simpa using rx') (by simpa using ry')
    rw [List.size_toArray, ← l1] at z
    exact SeqAt.EqAt.of_refs hab z
  | @lens n a b xs ys ha hb hl =>
    intro A u v hu ru rv
    obtain rfl : u = Value.ref a := ru
    obtain rfl : v = Value.ref b := rv
    obtain ⟨us, rx, px, _⟩ := I.list ha
    obtain ⟨vs, ry, py, _⟩ := I.list hb
    have l1 := rx.length
    have l2 := ry.length
    have hab : a ≠ b := fun z => by
      subst z
      exact hl (congrArg List.length (I.list_inj ha hb))
    exact SeqAt.EqAt.of_refs hab (SeqAt.RcAt.lists_lengths px.isList py.isList (by rw [List.size_toArray, List.size_toArray]; simp; omega) (by omega))
  | @tups n a b xs ys e ha hb h ih =>
    intro A u v hu ru rv
    obtain rfl : u = Value.ref a := ru
    obtain rfl : v = Value.ref b := rv
    by_cases hab : a = b
    · have z := EqD.self (EqD.tups ha hb h) I (congrArg V.ref hab)
      rw [z, hab]
      exact SeqAt.EqAt.same _
    obtain ⟨us, rx, px, _⟩ := I.tuple ha
    obtain ⟨vs, ry, py, _⟩ := I.tuple hb
    have l1 := rx.length
    have l2 := ry.length
    have z := SeqAt.RcAt.tuples (A := A) (s := s) (e := e) (show s.heap.IsTuple a us.toArray from px) (show s.heap.IsTuple b vs.toArray from py) (by omega) fun j h1 h2 => by
      obtain ⟨x, ex, rx'⟩ := rx.at (j := j) (by simpa using h1)
      obtain ⟨y, ey, ry'⟩ := ry.at (j := j) (by simpa using h2)
      exact ih j x y ex ey (A := A.in1) (by show A.units + 1 + n < cLine; omega) (by simpa using rx') (by simpa using ry')
    rw [List.size_toArray, List.size_toArray, ← l1, ← l2] at z
    exact SeqAt.EqAt.of_refs hab z
end
section
variable {X : Cx}
/-- x == y, x != y of two lists or two tuples -/
def rEqD (K : PySem.W.Frag) (neg : Bool) : R2 := fun x y H Q => ∃ n b p q, x = .ref p ∧ y = .ref q ∧ n ≤ 6 ∧ EqD K H n x y b ∧ Q (.bl (if neg then !b else b)) H
theorem op_eqD (hu : X.A.units + 8 < cLine) : OpR X (compareOp .Eq) (rEqD X.K false) := by
  intro pins s σ H x y u v Q I ru rv h
  obtain ⟨n, b, p, q, rfl, rfl, hn, d, hq⟩ := h
  obtain rfl : u = Value.ref p := ru
  obtain rfl : v = Value.ref q := rv
  have fin : EP X pins σ Q (.bool b) s := ⟨.bl b, H, I, rfl, hq⟩
  cases d with
  | flat fx fy => exact absurd (show false = true from fx) Bool.false_ne_true
  | @lsts n _ _ xs ys e ha hb hl h =>
    obtain ⟨us, rx, px, _⟩ := I.list ha
    obtain ⟨vs, ry, py, _⟩ := I.list hb
    have l1 := rx.length
    have l2 := ry.length
    refine SeqAt.eq_listAt (e := e) px.isList py.isList (by rw [List.size_toArray, List.size_toArray]; omega) (by omega) (fun j h1 h2 => ?_) (by rw [List.size_toArray, ← l1]; exact fin)
    obtain ⟨x, ex, rx'⟩ := rx.at (j := j) (by simpa using h1)
    obtain ⟨y, ey, ry'⟩ := ry.at (j := j) (by simpa using h2)
    exact (h j x y ex ey).at I (A := X.A.in1) (by show X.A.units + 1 + n < cLine; omega) (by simpa using rx') (by simpa using ry')
  | @lens n _ _ xs ys ha hb hl =>
    obtain ⟨us, rx, px, _⟩ := I.list ha
    obtain ⟨vs, ry, py, _⟩ := I.list hb
    have l1 := rx.length
    have l2 := ry.length
    exact SeqAt.eq_list_lengthsAt px.isList py.isList (by rw [List.size_toArray, List.size_toArray]; simp; omega) (by omega) fin
  | @tups n _ _ xs ys e ha hb h =>
    obtain ⟨us, rx, px, _⟩ := I.tuple ha
    obtain ⟨vs, ry, py, _⟩ := I.tuple hb
    have l1 := rx.length
    have l2 := ry.length
    refine SeqAt.eq_tupleAt (e := e) (show s.heap.IsTuple p us.toArray from px) (show s.heap.IsTuple q vs.toArray from py) (by omega) (fun j h1 h2 => ?_) (by rw [List.size_toArray, List.size_toArray, ← l1, ← l2]; exact fin)
    obtain ⟨x, ex, rx'⟩ := rx.at (j := j) (by simpa using h1)
    obtain ⟨y, ey, ry'⟩ := ry.at (j := j) (by simpa using h2)
    exact (h j x y ex ey).at I (A := X.A.in1) (by show X.A.units + 1 + n < cLine; omega) (by simpa using rx') (by simpa using ry')
theorem op_neD (hu : X.A.units + 8 < cLine) : OpR X (compareOp .NotEq) (rEqD X.K true) := by
  intro pins s σ H x y u v Q I ru rv h
  obtain ⟨n, b, p, q, rfl, rfl, hn, d, hq⟩ := h
  obtain rfl : u = Value.ref p := ru
  obtain rfl : v = Value.ref q := rv
  have fin : EP X pins σ Q (.bool (!b)) s := ⟨.bl (!b), H, I, rfl, hq⟩
  cases d with
  | flat fx fy => exact absurd (show false = true from fx) Bool.false_ne_true
  | @lsts n _ _ xs ys e ha hb hl h =>
    obtain ⟨us, rx, px, _⟩ := I.list ha
    obtain ⟨vs, ry, py, _⟩ := I.list hb
    have l1 := rx.length
    have l2 := ry.length
    refine SeqAt.RcNeAt.lists (e := e) px.isList py.isList (by rw [List.size_toArray, List.size_toArray]; omega) (by omega) (fun j h1 h2 => ?_) _ _ _ _ (by rw [List.size_toArray, ← l1]; exact fin)
    obtain ⟨x, ex, rx'⟩ := rx.at (j := j) (by simpa using h1)
    obtain ⟨y, ey, ry'⟩ := ry.at (j := j) (by simpa using h2)
    exact (h j x y ex ey).at I (A := X.A.in1) (by show X.A.units + 1 + n < cLine; omega) (by simpa using rx') (by simpa using ry')
  | @lens n _ _ xs ys ha hb hl =>
    obtain ⟨us, rx, px, _⟩ := I.list ha
    obtain ⟨vs, ry, py, _⟩ := I.list hb
    have l1 := rx.length
    have l2 := ry.length
    exact SeqAt.RcNeAt.lists_lengths px.isList py.isList (by rw [List.size_toArray, List.size_toArray]; simp; omega) (by omega) _ _ _ _ fin
  | @tups n _ _ xs ys e ha hb h =>
    obtain ⟨us, rx, px, _⟩ := I.tuple ha
    obtain ⟨vs, ry, py, _⟩ := I.tuple hb
    have l1 := rx.length
    have l2 := ry.length
    refine SeqAt.RcNeAt.tuples (e := e) (show s.heap.IsTuple p us.toArray from px) (show s.heap.IsTuple q vs.toArray from py) (by omega) (fun j h1 h2 => ?_) _ _ _ _ (by rw [List.size_toArray, List.size_toArray, ← l1, ← l2]; exact fin)
    obtain ⟨x, ex, rx'⟩ := rx.at (j := j) (by simpa using h1)
    obtain ⟨y, ey, ry'⟩ := ry.at (j := j) (by simpa using h2)
    exact (h j x y ex ey).at I (A := X.A.in1) (by show X.A.units + 1 + n < cLine; omega) (by simpa using rx') (by simpa using ry')
end
end L2

/-! ## own words over the layer: heaps, pairs, webs, loops over lists and tuples -/
namespace My
open PySem L2
abbrev IL (ns : List Int) : List V := ns.map V.int
theorem il_length (ns : List Int) : (IL ns).length = ns.length := List.length_map ..
theorem il_snoc (a : List Int) (r : Int) : IL (a ++ [r]) = IL a ++ [.int r] := List.map_append ..
theorem il_take (a : List Int) (n : Nat) : IL (a.take n) = (IL a).take n := List.map_take ..
theorem il_drop (a : List Int) (n : Nat) : IL (a.drop n) = (IL a).drop n := List.map_drop ..
theorem il_set (a : List Int) (n : Nat) (z : Int) : IL (a.set n z) = (IL a).set n (.int z) := List.map_set ..
theorem il_at {ns : List Int} {i : Nat} {z : Int} (h : ns[i]? = some z) : (IL ns)[i]? = some (.int z) := by rw [List.getElem?_map, h]; rfl
theorem il_get {ns : List Int} {i : Nat} {x : V} (h : (IL ns)[i]? = some x) : ∃ z, x = .int z ∧ ns[i]? = some z := by
  rw [List.getElem?_map] at h
  cases e : ns[i]? with
  | none => rw [e] at h; cases h
  | some z => rw [e] at h; exact ⟨z, (Option.some.inj h).symm, rfl⟩
theorem same_upd {H H2 : Hp} {a : Addr} {o : HO} (hn : H a = none) (s : Same H H2) : Same H (upd H2 a o) := fun b u e => by rw [upd_ne (ne_of_none e hn)]; exact s b u e
theorem same_new {H H2 : Hp} {p : Addr} {o : HO} (s : Same H H2) (hp : H2 p = none) : Same H (upd H2 p o) := same_upd (s.free hp) s
theorem same_at {H : Hp} {p : Addr} {o : HO} (hp : H p = none) : Same H (upd H p o) := same_new (Same.refl H) hp
theorem sqT_same {K : PySem.W.Frag} {H H' : Hp} {a : Addr} {xs : List V} (e : Same H H') (h : SqT K H a xs) : SqT K H' a xs := by
  rcases h with (h | ⟨o, h⟩) | h
  · exact .inl (.inl (e _ _ h))
  · exact .inl (.inr ⟨o, e _ _ h⟩)
  · exact .inr h
theorem small60 {n : Nat} (h : n ≤ 1000000) : n ≤ sizeLine := Nat.le_trans h (by decide)
theorem small60' {n : Nat} (h : n ≤ 1000000) : n < sizeLine := Nat.lt_of_le_of_lt h (by decide)
theorem hu8 {A : Around} {k : Nat} (hr : Room k A) : A.units + 8 < cLine := Nat.lt_of_le_of_lt (Nat.add_le_add_left (by decide : 8 ≤ 64) _) hr.units
/-- a list's item by a reckoned index -/
theorem atI_of {α : Type} {xs : List α} {i : Int} {n : Nat} {x : α} (hi : i = (n : Int)) (h : xs[n]? = some x) : atI xs i = some x := by
  subst hi
  have hn : n < xs.length := (List.getElem?_eq_some_iff.mp h).1
  unfold atI ixN
  rw [if_pos (Int.natCast_nonneg n), if_pos (by omega)]
  simpa using h
/-! ### tests -/
theorem itd {c A B : Prop} [Decidable c] (hc : c) (h : A) : if decide c = true then A else B := by rw [if_pos (decide_eq_true hc)]; exact h
theorem itdn {c A B : Prop} [Decidable c] (hc : ¬ c) (h : B) : if decide c = true then A else B := by rw [if_neg (by simp [hc])]; exact h
theorem itn {c A B : Prop} [Decidable c] (hc : c) (h : B) : if (!decide c) = true then A else B := by rw [if_neg (by simp [hc])]; exact h
theorem itnn {c A B : Prop} [Decidable c] (hc : ¬ c) (h : A) : if (!decide c) = true then A else B := by rw [if_pos (by simp [hc])]; exact h
theorem itd2 {c A B : Prop} [Decidable c] (h1 : c → A) (h2 : ¬ c → B) : if decide c = true then A else B := by
  by_cases h : c
  · exact itd h (h1 h)
  · exact itdn h (h2 h)
theorem itn2 {c A B : Prop} [Decidable c] (h1 : c → B) (h2 : ¬ c → A) : if (!decide c) = true then A else B := by
  by_cases h : c
  · exact itn h (h1 h)
  · exact itnn h (h2 h)
theorem itb {b : Bool} {A B : Prop} (h1 : b = true → A) (h2 : b = false → B) : if b = true then A else B := by
  cases b with
  | true => exact iteT (h1 rfl)
  | false => exact iteF (h2 rfl)
/-! ### lists or tuples -/
/-- a list (false) or a tuple (true) -/
def SqK (k : Bool) (K : PySem.W.Frag) (H : Hp) (a : Addr) (xs : List V) : Prop := match k with
  | false => SqL K H a xs
  | true => SqT K H a xs
theorem SqK.same {k : Bool} {K : PySem.W.Frag} {H H' : Hp} {a : Addr} {xs : List V} (e : Same H H') (h : SqK k K H a xs) : SqK k K H' a xs := by
  cases k with
  | false => exact e.seq h
  | true => exact sqT_same e h
theorem SqK.or {k : Bool} {K : PySem.W.Frag} {H : Hp} {a : Addr} {xs : List V} (h : SqK k K H a xs) : SqL K H a xs ∨ SqT K H a xs := by
  cases k with
  | false => exact .inl h
  | true => exact .inr h
def iSeq (K : PySem.W.Frag) (tl : TE) : TI := fun σ H R => tl σ H fun x H1 => ∃ a, x = .ref a ∧ (((∃ xs, SqL K H1 a xs) ∧ R (Itl K a) H1) ∨ ((∃ xs, SqT K H1 a xs) ∧ R (Itt K a) H1))
theorem pi_seq {X : Cx} {tg : Expr} {l : Expr} {tl : TE} (hl : PE X l tl) : PI X tg l (iSeq X.K tl) := by
  intro pins s σ H R I h
  refine thn (hl pins s σ H _ I h) fun v s1 ⟨x, H1, I1, r1, q1⟩ => ?_
  obtain ⟨a, e, q⟩ := q1
  subst e
  cases r1
  rcases q with ⟨⟨xs, hq⟩, q⟩ | ⟨⟨xs, hq⟩, q⟩
  · obtain ⟨its, rv, p, hz⟩ := I1.list hq
    refine wpAny_pyIter_list p.isList ?_
    refine ⟨s1.heap.objs.size, [s1.heap.objs.size], _, _, H1, rfl, I1.kept (t' := s1.toks) fun b o e => Heap.get?_push_of_some _ e, turn_list a _, ⟨_, Heap.get?_push_size _ rfl, rfl, rfl⟩, fun b hb => ?_, q⟩
    have e : b = s1.heap.objs.size := by simpa using hb
    subst e
    exact I1.fpOk (Nat.le_refl _) (I1.hok.fresh (Nat.le_refl _))
  · obtain ⟨its, rv, p, hz⟩ := I1.tuple hq
    refine wpAny_pyIter_tuple (show s1.heap.IsTuple a its.toArray from p) ?_
    refine ⟨s1.heap.objs.size, [s1.heap.objs.size], _, _, H1, rfl, I1.kept (t' := s1.toks) fun b o e => Heap.get?_push_of_some _ e, turn_tuple a _, ⟨_, Heap.get?_push_size _ rfl, rfl, rfl⟩, fun b hb => ?_, q⟩
    have e : b = s1.heap.objs.size := by simpa using hb
    subst e
    exact I1.fpOk (Nat.le_refl _) (I1.hok.fresh (Nat.le_refl _))
/-- a loop over a list or a tuple that the body leaves as it is -/
theorem for_seq {K : PySem.W.Frag} {k : Bool} {a : Addr} {xs : List V} {g : TG} {tb : TS} {D : Ends} {σ : St} {H : Hp} (Pv : Nat → St → Hp → Prop) (h0 : Pv 0 σ H) (hl : ∀ i σ H, i ≤ xs.length → Pv i σ H → SqK k K H a xs)
    (hs : ∀ i x σ H, xs[i]? = some x → Pv i σ H → g x σ H fun σ2 H2 => tb { D with nx := Pv (i + 1), ct := Pv (i + 1), bk := D.nx } σ2 H2) (hd : ∀ σ H, Pv xs.length σ H → D.nx σ H) :
    (((∃ xs, SqL K H a xs) ∧ ∃ W : Nat → Nat → St → Hp → Prop, (∃ m, W 0 m σ H) ∧ ∀ i m σ H, W i m σ H →
      ((Itl K a).stop i H ∧ D.nx σ H) ∨ ((Itl K a).go i H ∧ ∃ N : St → Hp → Prop, (∀ σ' H', N σ' H' → ∃ m', m' < m ∧ W (i + 1) m' σ' H') ∧ ∀ x H', (Itl K a).yld i H x H' → g x σ H' fun σ2 H2 => tb { D with nx := N, ct := N, bk := D.nx } σ2 H2)) ∨
     ((∃ xs, SqT K H a xs) ∧ ∃ W : Nat → Nat → St → Hp → Prop, (∃ m, W 0 m σ H) ∧ ∀ i m σ H, W i m σ H →
      ((Itt K a).stop i H ∧ D.nx σ H) ∨ ((Itt K a).go i H ∧ ∃ N : St → Hp → Prop, (∀ σ' H', N σ' H' → ∃ m', m' < m ∧ W (i + 1) m' σ' H') ∧ ∀ x H', (Itt K a).yld i H x H' → g x σ H' fun σ2 H2 => tb { D with nx := N, ct := N, bk := D.nx } σ2 H2))) := by
  cases k with
  | false => exact .inl ⟨⟨xs, hl 0 σ H (Nat.zero_le _) h0⟩, for_list (K := K) (a := a) (xs := xs) Pv h0 hl hs hd⟩
  | true => exact .inr ⟨⟨xs, hl 0 σ H (Nat.zero_le _) h0⟩, for_tup (K := K) (a := a) (xs := xs) Pv h0 hl hs hd⟩
/-! ### pairs of ints -/
def PairV (H : Hp) (v : V) (p : Int × Int) : Prop := ∃ t, v = .ref t ∧ H t = some (.tup [.int p.1, .int p.2])
def PairsV (H : Hp) (xs : List V) (ps : List (Int × Int)) : Prop := xs.length = ps.length ∧ ∀ (i : Nat) (p : Int × Int), ps[i]? = some p → ∃ v, xs[i]? = some v ∧ PairV H v p
theorem PairV.same {H H' : Hp} {v : V} {p : Int × Int} (s : Same H H') (h : PairV H v p) : PairV H' v p := let ⟨t, e, q⟩ := h; ⟨t, e, s _ _ q⟩
theorem PairsV.same {H H' : Hp} {xs : List V} {ps : List (Int × Int)} (s : Same H H') (h : PairsV H xs ps) : PairsV H' xs ps := ⟨h.1, fun i p e => let ⟨v, e1, q⟩ := h.2 i p e; ⟨v, e1, q.same s⟩⟩
theorem PairsV.at {H : Hp} {xs : List V} {ps : List (Int × Int)} (h : PairsV H xs ps) {i : Nat} {v : V} (e : xs[i]? = some v) : ∃ p, ps[i]? = some p ∧ PairV H v p := by
  have hi : i < xs.length := (List.getElem?_eq_some_iff.mp e).1
  have hp : i < ps.length := by rw [← h.1]; exact hi
  obtain ⟨v', e1, q⟩ := h.2 i ps[i] (List.getElem?_eq_getElem hp)
  rw [e] at e1
  cases e1
  exact ⟨_, List.getElem?_eq_getElem hp, q⟩
theorem PairsV.nil {H : Hp} : PairsV H [] [] := ⟨rfl, fun i p e => by simp at e⟩
theorem PairsV.snoc {H : Hp} {xs : List V} {ps : List (Int × Int)} {v : V} {p : Int × Int} (h : PairsV H xs ps) (q : PairV H v p) : PairsV H (xs ++ [v]) (ps ++ [p]) := by
  refine ⟨by rw [List.length_append, List.length_append, h.1]; rfl, fun i p' e => ?_⟩
  by_cases hi : i < ps.length
  · rw [List.getElem?_append_left hi] at e
    rw [List.getElem?_append_left (by rw [h.1]; exact hi)]
    exact h.2 i p' e
  · have hl : i = ps.length := by
      have := (List.getElem?_eq_some_iff.mp e).1
      rw [List.length_append, List.length_singleton] at this
      omega
    subst hl
    rw [List.getElem?_append_right (Nat.le_refl _), Nat.sub_self] at e
    rw [List.getElem?_append_right (by rw [h.1]; exact Nat.le_refl _), h.1, Nat.sub_self]
    have e' : p = p' := Option.some.inj e
    subst e'
    exact ⟨v, rfl, q⟩
theorem PairsV.drop {H : Hp} {xs : List V} {ps : List (Int × Int)} (h : PairsV H xs ps) (n : Nat) : PairsV H (xs.drop n) (ps.drop n) := by
  refine ⟨by rw [List.length_drop, List.length_drop, h.1], fun i p e => ?_⟩
  rw [List.getElem?_drop] at e ⊢
  exact h.2 _ p e
theorem PairsV.take {H : Hp} {xs : List V} {ps : List (Int × Int)} (h : PairsV H xs ps) (n : Nat) : PairsV H (xs.take n) (ps.take n) := by
  refine ⟨by rw [List.length_take, List.length_take, h.1], fun i p e => ?_⟩
  by_cases hi : i < n
  · rw [List.getElem?_take_of_lt hi] at e ⊢
    exact h.2 _ p e
  · rw [List.getElem?_take_eq_none (by omega)] at e
    cases e
theorem PairsV.app {H : Hp} {xs ys : List V} {ps qs : List (Int × Int)} (h : PairsV H xs ps) (h2 : PairsV H ys qs) : PairsV H (xs ++ ys) (ps ++ qs) := by
  refine ⟨by rw [List.length_append, List.length_append, h.1, h2.1], fun i p e => ?_⟩
  by_cases hi : i < ps.length
  · rw [List.getElem?_append_left hi] at e
    rw [List.getElem?_append_left (by rw [h.1]; exact hi)]
    exact h.2 i p e
  · rw [List.getElem?_append_right (by omega)] at e
    rw [List.getElem?_append_right (by rw [h.1]; omega), h.1]
    exact h2.2 _ p e
/-! ### a Web -/
def wf (n : Int) (tl : Addr) : List (Str × V) := putF "ties" (.ref tl) (putF "places" (.int n) [])
/-- a Web of n places stands at w, its ties ps -/
def WebAt (C : Addr) (H : Hp) (w : Addr) (n : Int) (ps : List (Int × Int)) : Prop := ∃ dx tl xs, H w = some (.ins C dx (wf n tl)) ∧ H tl = some (.lst xs) ∧ PairsV H xs ps
/-- what a web keeps to -/
def GoodW (n : Int) (ps : List (Int × Int)) : Prop := 1 ≤ n ∧ n ≤ 14 ∧ ps.length ≤ 30 ∧ ∀ p ∈ ps, 0 ≤ p.1 ∧ p.1 < n ∧ 0 ≤ p.2 ∧ p.2 < n
/-! ### what the top has made -/
def FX (K : PySem.W.Frag) (mg : Str → Option Value) (x qual : Str) (st : Stmt) : Prop := ∃ (f : Addr) (fd : FuncData), mg x = some (.ref f) ∧ Fun K x qual st f fd
theorem fx_mk {K : PySem.W.Frag} {h : Heap} {mg : Str → Option Value} {x : Str} {st : Stmt} {f : Addr} {oc : Value} {od an : Option Addr} {osl : Array (Option Value)} {kV doc pm cdv ct : Value} (X : K.In h) (G : h.Ns mainGlobals mg)
    (a : PySem.W.nsIn K mainGlobals x = some (some (.ref f))) (l : K.lookup f = some ⟨oc, od, .func (PySem.W.fnOf x x (defArgs st) (defBody st) (defScope st) .none kV doc pm an cdv ct), osl⟩) (c : PySem.W.codeIn K cdv x = true) (k : PySem.W.keepIn K (.ref f) = true) : FX K mg x x st :=
  ⟨f, _, PySem.W.mg_of X G a, fun_mk l c k⟩
def CXF (K : PySem.W.Frag) (mg : Str → Option Value) (x qual : Str) (st : Stmt) (fs : List Str) : Prop := ∃ (C f : Addr) (fd : FuncData), mg x = some (.ref C) ∧ Fun K "__init__" qual st f fd ∧ Cls K C ∧ Mk K C f ∧ ∀ a ∈ fs, NoAttr K C a
theorem cx_mk {K : PySem.W.Frag} {h : Heap} {mg : Str → Option Value} {x qual : Str} {fs : List Str} {st : Stmt} {C f : Addr} {oc : Value} {od an : Option Addr} {osl : Array (Option Value)} {kV doc pm cdv ct : Value} (X : K.In h) (G : h.Ns mainGlobals mg)
    (aC : PySem.W.nsIn K mainGlobals x = some (some (.ref C))) (a : PySem.W.findIn K (.ref C) "__init__" = some (some (.ref f))) (i : PySem.W.isFn K (.ref f) = true)
    (l : K.lookup f = some ⟨oc, od, .func (PySem.W.fnOf "__init__" qual (defArgs st) (defBody st) (defScope st) .none kV doc pm an cdv ct), osl⟩) (c : PySem.W.codeIn K cdv qual = true) (k : PySem.W.keepIn K (.ref f) = true)
    (pg : PySem.W.plainGet K C Str.empty = true) (hd : PySem.W.hasDictIn K C = true) (po : PySem.W.plainOver K C = true) (sa : PySem.W.findIn K (.ref C) "__setattr__" = some (some (.builtin "object.__setattr__"))) (mk : PySem.W.makesIn K C = true) (kc : PySem.W.keepIn K (.ref C) = true)
    (na : ∀ a ∈ fs, PySem.W.findIn K (.ref C) a = some none) : CXF K mg x qual st fs :=
  ⟨C, f, _, PySem.W.mg_of X G aC, fun_mk l c k, ⟨pg, hd, po, sa⟩, ⟨mk, a, i, kc⟩, na⟩
theorem const_mk {K : PySem.W.Frag} {h : Heap} {mg : Str → Option Value} {x : Str} {z : Int} {v : Value} (X : K.In h) (G : h.Ns mainGlobals mg) (a : PySem.W.nsIn K mainGlobals x = some (some v)) (e : ∃ tk, v = .int z tk) : ∃ tk, mg x = some (.int z tk) := by
  obtain ⟨tk, rfl⟩ := e
  exact ⟨tk, PySem.W.mg_of X G a⟩
end My

/-! ## comprehensions: the forms one uses -/
namespace My
open PySem L2
theorem nmY {i : Nat} {x : V} {σ : St} {H : Hp} {A B : St → Hp → Prop} (h : A (σ.set i (some x)) H) : gName i x σ H fun σ2 H2 => tYes σ2 H2 fun b H3 => if b = true then A σ2 H3 else B σ2 H3 :=
  (show if true = true then A (σ.set i (some x)) H else B (σ.set i (some x)) H from iteT h)
theorem nm {i : Nat} {x : V} {σ : St} {H : Hp} {Q : St → Hp → Prop} (h : Q (σ.set i (some x)) H) : gName i x σ H Q := h
section
variable {K : PySem.W.Frag} {a : Addr} {xs : List V} {g : TG} {tt : TT} {te : TE} {o : Nat} {fr : List Nat} {σ : St} {H : Hp} {Q : VK}
/-- what a turn wants, by an invariant over turn, items so far, heap -/
abbrev LcTurn (Pv : Nat → List V → Hp → Prop) (g : TG) (tt : TT) (te : TE) (o : Nat) (fr : List Nat) (σ : St) (i : Nat) (x : V) (ys : List V) (H : Hp) : Prop :=
  ∀ S : Nat → List V → Hp → Prop, (∀ ys H, Pv (i + 1) ys H → S (i + 1) ys H) → g x (σC o fr σ) H fun σ2 H2 => tt σ2 H2 fun b H3 => if b = true then te σ2 H3 fun y H4 => S (i + 1) (ys ++ [y]) H4 else S (i + 1) ys H3
theorem lc_list (Pv : Nat → List V → Hp → Prop) (h0 : Pv 0 [] H) (hz : xs.length < sizeLine) (hl : ∀ i ys H, i ≤ xs.length → Pv i ys H → SqL K H a xs ∧ ys.length ≤ i)
    (hs : ∀ i x ys H, xs[i]? = some x → Pv i ys H → LcTurn Pv g tt te o fr σ i x ys H) (hd : ∀ ys H, Pv xs.length ys H → ∀ p, H p = none → Q (.ref p) (upd H p (.lst ys))) : LcR (Itl K a) g tt te o fr σ H Q := by
  refine ⟨fun i m ys H => m = xs.length - i ∧ i ≤ xs.length ∧ Pv i ys H, ⟨xs.length, by simp, Nat.zero_le _, h0⟩, ?_⟩
  rintro i m ys H ⟨rfl, hi, p⟩
  obtain ⟨q, hy⟩ := hl i ys H hi p
  by_cases hlt : i < xs.length
  · refine .inr ⟨⟨xs, xs[i], q, by simp [hlt]⟩, by omega, fun x H' ⟨e, y⟩ => ?_⟩
    subst e
    have hx := y xs q
    exact hs i x ys _ hx p (fun j ys H => ∃ m', m' < xs.length - i ∧ m' = xs.length - j ∧ j ≤ xs.length ∧ Pv j ys H) fun ys H p' => ⟨xs.length - (i + 1), by omega, rfl, hlt, p'⟩
  · have e : i = xs.length := by omega
    subst e
    exact .inl ⟨⟨xs, q, Nat.le_refl _⟩, by omega, hd ys H p⟩
theorem lc_tup (Pv : Nat → List V → Hp → Prop) (h0 : Pv 0 [] H) (hz : xs.length < sizeLine) (hl : ∀ i ys H, i ≤ xs.length → Pv i ys H → SqT K H a xs ∧ ys.length ≤ i)
    (hs : ∀ i x ys H, xs[i]? = some x → Pv i ys H → LcTurn Pv g tt te o fr σ i x ys H) (hd : ∀ ys H, Pv xs.length ys H → ∀ p, H p = none → Q (.ref p) (upd H p (.lst ys))) : LcR (Itt K a) g tt te o fr σ H Q := by
  refine ⟨fun i m ys H => m = xs.length - i ∧ i ≤ xs.length ∧ Pv i ys H, ⟨xs.length, by simp, Nat.zero_le _, h0⟩, ?_⟩
  rintro i m ys H ⟨rfl, hi, p⟩
  obtain ⟨q, hy⟩ := hl i ys H hi p
  by_cases hlt : i < xs.length
  · refine .inr ⟨⟨xs, xs[i], q, by simp [hlt]⟩, by omega, fun x H' ⟨e, y⟩ => ?_⟩
    subst e
    have hx := y xs q
    exact hs i x ys _ hx p (fun j ys H => ∃ m', m' < xs.length - i ∧ m' = xs.length - j ∧ j ≤ xs.length ∧ Pv j ys H) fun ys H p' => ⟨xs.length - (i + 1), by omega, rfl, hlt, p'⟩
  · have e : i = xs.length := by omega
    subst e
    exact .inl ⟨⟨xs, q, Nat.le_refl _⟩, by omega, hd ys H p⟩
theorem lc_seq {k : Bool} (Pv : Nat → List V → Hp → Prop) (h0 : Pv 0 [] H) (hz : xs.length < sizeLine) (hl : ∀ i ys H, i ≤ xs.length → Pv i ys H → SqK k K H a xs ∧ ys.length ≤ i)
    (hs : ∀ i x ys H, xs[i]? = some x → Pv i ys H → LcTurn Pv g tt te o fr σ i x ys H) (hd : ∀ ys H, Pv xs.length ys H → ∀ p, H p = none → Q (.ref p) (upd H p (.lst ys))) :
    ((∃ xs, SqL K H a xs) ∧ LcR (Itl K a) g tt te o fr σ H Q) ∨ ((∃ xs, SqT K H a xs) ∧ LcR (Itt K a) g tt te o fr σ H Q) := by
  cases k with
  | false => exact .inl ⟨⟨xs, (hl 0 [] H (Nat.zero_le _) h0).1⟩, lc_list Pv h0 hz hl hs hd⟩
  | true => exact .inr ⟨⟨xs, (hl 0 [] H (Nat.zero_le _) h0).1⟩, lc_tup Pv h0 hz hl hs hd⟩
theorem lc_range {lo : Int} {n : Nat} (Pv : Nat → List V → Hp → Prop) (h0 : Pv 0 [] H) (hz : n < sizeLine) (hl : ∀ i ys H, i ≤ n → Pv i ys H → ys.length ≤ i)
    (hs : ∀ i ys H, i < n → Pv i ys H → LcTurn Pv g tt te o fr σ i (.int (lo + i)) ys H) (hd : ∀ ys H, Pv n ys H → ∀ p, H p = none → Q (.ref p) (upd H p (.lst ys))) : LcR (Itr lo n) g tt te o fr σ H Q := by
  refine ⟨fun i m ys H => m = n - i ∧ i ≤ n ∧ Pv i ys H, ⟨n, by simp, Nat.zero_le _, h0⟩, ?_⟩
  rintro i m ys H ⟨rfl, hi, p⟩
  have hy := hl i ys H hi p
  by_cases hlt : i < n
  · refine .inr ⟨hlt, by omega, fun x H' ⟨e, y⟩ => ?_⟩
    subst e
    subst y
    exact hs i ys _ hlt p (fun j ys H => ∃ m', m' < n - i ∧ m' = n - j ∧ j ≤ n ∧ Pv j ys H) fun ys H p' => ⟨n - (i + 1), by omega, rfl, hlt, p'⟩
  · have e : i = n := by omega
    subst e
    exact .inl ⟨Nat.le_refl _, by omega, hd ys H p⟩
end
end My
namespace My
open PySem L2
theorem getD_of {α : Type} {l : List α} {i : Nat} {x d : α} (h : l[i]? = some x) : l.getD i d = x := by rw [List.getD_eq_getElem?_getD, h]; rfl
theorem nd_snoc {α : Type} {l : List α} {x : α} (h : l.Nodup) (hx : x ∉ l) : (l ++ [x]).Nodup := by
  rw [List.nodup_append]
  refine ⟨h, by simp, fun a ha b hb => ?_⟩
  rw [List.mem_singleton] at hb
  subst hb
  rintro rfl
  exact hx ha
end My
namespace My
open PySem L2
theorem cut_from {xs : List V} {i : Int} (h0 : 0 ≤ i) (h1 : i.toNat ≤ xs.length) : cutV xs (some i) none = xs.drop i.toNat := by
  have e : HT.sIx xs.length 0 (some i) = i.toNat := by
    show (if i < 0 then (i + (xs.length : Int)).toNat else min i.toNat xs.length) = i.toNat
    rw [if_neg (by omega)]
    omega
  unfold cutV
  rw [e, HT.sIx_none]
  exact List.take_of_length_le (by rw [List.length_drop]; exact Nat.le_refl _)
theorem cut_to {xs : List V} {i : Int} (h0 : 0 ≤ i) (h1 : i.toNat ≤ xs.length) : cutV xs none (some i) = xs.take i.toNat := by
  have e : HT.sIx xs.length xs.length (some i) = i.toNat := by
    show (if i < 0 then (i + (xs.length : Int)).toNat else min i.toNat xs.length) = i.toNat
    rw [if_neg (by omega)]
    omega
  unfold cutV
  rw [e, HT.sIx_none, List.drop_zero, Nat.sub_zero]
end My

/-! ## the rules that name the written part, with it named apart (for a comprehension's block) -/
namespace L2
open PySem PySem.Spec PyProof.Rows
section
variable {X : Cx} {a b o e : Expr} {es : List Expr} {ta tb te to : TE} {t : TA} {pos : Pos}
theorem ix_listK (K : PySem.W.Frag) (h : X.K = K := by rfl) : IxR X (rIxL K) := h ▸ ix_list
theorem ix_tupK (K : PySem.W.Frag) (h : X.K = K := by rfl) : IxR X (rIxT K) := h ▸ ix_tup
theorem sl_listK (K : PySem.W.Frag) (h : X.K = K := by rfl) : SlR X (rSlL K) := h ▸ sl_list
theorem op_eqDK (K : PySem.W.Frag) (hu : X.A.units + 8 < cLine) (h : X.K = K := by rfl) : OpR X (compareOp .Eq) (rEqD K false) := h ▸ op_eqD hu
theorem op_neDK (K : PySem.W.Frag) (hu : X.A.units + 8 < cLine) (h : X.K = K := by rfl) : OpR X (compareOp .NotEq) (rEqD K true) := h ▸ op_neD hu
theorem call_lenK (K : PySem.W.Frag) (h : X.K = K := by rfl) : CallR X (.builtin "len") (fun xs H Q => ∃ p ys, xs = [.ref p] ∧ (SqL K H p ys ∨ SqT K H p ys) ∧ Q (.int ys.length) H) := h ▸ call_len_seq
theorem call_sumK (K : PySem.W.Frag) (hc : X.calm = true) (h : X.K = K := by rfl) : CallR X (.builtin "sum") (fun xs H Q => ∃ (p : Addr) (ns : List Int), xs = [.ref p] ∧ SqL K H p (ns.map V.int) ∧ Q (.int ns.sum) H) := h ▸ call_sum_ints hc
theorem pi_listK (K : PySem.W.Frag) {tg : Expr} {l : Expr} {tl : TE} (hl : PE X l tl) (h : X.K = K := by rfl) : PI X tg l (iList K tl) := h ▸ pi_list hl
theorem pi_tupK (K : PySem.W.Frag) {tg : Expr} {l : Expr} {tl : TE} (hl : PE X l tl) (h : X.K = K := by rfl) : PI X tg l (iTup K tl) := h ▸ pi_tup hl
theorem pi_seqK (K : PySem.W.Frag) {tg : Expr} {l : Expr} {tl : TE} (hl : PE X l tl) (h : X.K = K := by rfl) : PI X tg l (My.iSeq K tl) := h ▸ My.pi_seq hl
theorem pg_tupK (K : PySem.W.Frag) {es : List Expr} {k : Nat} {t : TGs} {n : Nat} (hc : X.calm = true) (ht : PGs X es t)
    (hn : (assignEach es X.env).length = n := by rfl) (hst : (assignEach es X.env).findIdx? (·.1) = none := by rfl) (h : X.K = K := by rfl) : PG X (.Tuple es k pos) (gTup K n t) := h ▸ pg_tup hc ht hn hst
theorem pe_bmK (K : PySem.W.Frag) {name : Str} {apos cpos : Pos} {T id : String} {r : V → List V → Hp → VK → Prop} (pa : PlainAttrs T) (slot : Slot T name id) (hty : typeOf (.builtin id) = pure (.type "method_descriptor")) (hm : MtR X id r) (ho : PE X o to) (ha : PA X (e :: es) t)
    (hbase : attributeBase o name X.env (eval o X.env) = eval o X.env := by rfl)
    (hfew : ((backTo cpos (starEach (e :: es) X.env)).all (fun x => !x.1) && (backToKw cpos (keywordEach [] X.env)).all (fun x => x.1.isSome)
      && decide ((e :: es).length + ([] : List Keyword).length + (if ([] : List Keyword).isEmpty then 0 else 1) < 30)) = true := by rfl)
    (hline : (apos.endLine == cpos.line) = true := by rfl) (hs : starEach (e :: es) X.env = (false, eval e X.env) :: starEach es X.env := by rfl) (hplain : (backTo cpos (starEach es X.env)).any (·.1) = false := by rfl) (h : X.K = K := by rfl) :
    PE X (.Call (.Attribute o name apos) (e :: es) [] cpos) (tBM K T r to t) := h ▸ pe_bm pa slot hty hm ho ha hbase hfew hline hs hplain
theorem pe_bm0K (K : PySem.W.Frag) {name : Str} {apos cpos : Pos} {T id : String} {r : V → List V → Hp → VK → Prop} (pa : PlainAttrs T) (slot : Slot T name id) (hty : typeOf (.builtin id) = pure (.type "method_descriptor")) (hm : MtR X id r) (ho : PE X o to)
    (hbase : attributeBase o name X.env (eval o X.env) = eval o X.env := by rfl) (hline : (apos.endLine == cpos.line) = true := by rfl) (h : X.K = K := by rfl) : PE X (.Call (.Attribute o name apos) [] [] cpos) (tBM0 K T r to) := h ▸ pe_bm0 pa slot hty hm ho hbase hline
end
end L2

/-! ## marks: two ways to join, one partition -/
namespace My
/-- the mark at a place -/
abbrev mk (m : List Int) (i : Nat) : Int := m.getD i 0
/-- the program's step: the greater mark gives way -/
def pm (m : List Int) (a b : Nat) : List Int :=
  if min (mk m a) (mk m b) < max (mk m a) (mk m b) then m.map (fun k => if k = max (mk m a) (mk m b) then min (mk m a) (mk m b) else k) else m
/-- the other step: the second mark gives way -/
def lm (m : List Int) (a b : Nat) : List Int :=
  if mk m a ≠ mk m b then m.map (fun k => if k = mk m b then mk m a else k) else m
/-- the places fall alike -/
def SameP (m l : List Int) : Prop := m.length = l.length ∧ ∀ i j, i < m.length → j < m.length → (mk m i = mk m j ↔ mk l i = mk l j)
theorem mk_map (m : List Int) (f : Int → Int) {i : Nat} (h : i < m.length) : mk (m.map f) i = f (mk m i) := by
  simp [mk, List.getD_eq_getElem?_getD, List.getElem?_map, List.getElem?_eq_getElem h]
theorem pm_length (m : List Int) (a b : Nat) : (pm m a b).length = m.length := by unfold pm; split <;> simp
theorem lm_length (m : List Int) (a b : Nat) : (lm m a b).length = m.length := by unfold lm; split <;> simp
/-- two places are alike behind a step -/
def Mrg (m : List Int) (a b i j : Nat) : Prop := mk m i = mk m j ∨ ((mk m i = mk m a ∨ mk m i = mk m b) ∧ (mk m j = mk m a ∨ mk m j = mk m b))
theorem pm_iff {m : List Int} {a b i j : Nat} (hi : i < m.length) (hj : j < m.length) : mk (pm m a b) i = mk (pm m a b) j ↔ Mrg m a b i j := by
  unfold pm Mrg
  split
  · rename_i h
    rw [mk_map _ _ hi, mk_map _ _ hj]
    generalize mk m i = x at *
    generalize mk m j = y at *
    generalize mk m a = p at *
    generalize mk m b = q at *
    by_cases hpq : p < q
    · rw [Int.min_eq_left (by omega), Int.max_eq_right (by omega)]
      split <;> split <;> omega
    · rw [Int.min_eq_right (by omega), Int.max_eq_left (by omega)] at *
      split <;> split <;> omega
  · rename_i h
    generalize mk m i = x at *
    generalize mk m j = y at *
    generalize mk m a = p at *
    generalize mk m b = q at *
    omega
theorem lm_iff {m : List Int} {a b i j : Nat} (hi : i < m.length) (hj : j < m.length) : mk (lm m a b) i = mk (lm m a b) j ↔ Mrg m a b i j := by
  unfold lm Mrg
  split
  · rename_i h
    rw [mk_map _ _ hi, mk_map _ _ hj]
    generalize mk m i = x at *
    generalize mk m j = y at *
    generalize mk m a = p at *
    generalize mk m b = q at *
    split <;> split <;> omega
  · rename_i h
    generalize mk m i = x at *
    generalize mk m j = y at *
    generalize mk m a = p at *
    generalize mk m b = q at *
    omega
theorem SameP.step {m l : List Int} (s : SameP m l) {a b : Nat} (ha : a < m.length) (hb : b < m.length) : SameP (pm m a b) (lm l a b) := by
  obtain ⟨hl, h⟩ := s
  refine ⟨by rw [pm_length, lm_length, hl], fun i j hi hj => ?_⟩
  rw [pm_length] at hi hj
  rw [pm_iff hi hj, lm_iff (by omega) (by omega)]
  unfold Mrg
  rw [h i j hi hj, h i a hi ha, h i b hi hb, h j a hj ha, h j b hj hb]
/-- the marks behind a row of ties (their ends) -/
def pms (n : Nat) (es : List (Nat × Nat)) : List Int := es.foldl (fun m e => pm m e.1 e.2) ((List.range n).map fun (i : Nat) => (i : Int))
def lms (n : Nat) (es : List (Nat × Nat)) : List Int := es.foldl (fun m e => lm m e.1 e.2) ((List.range n).map fun (i : Nat) => (i : Int))
theorem lms_length (n : Nat) (es : List (Nat × Nat)) : (lms n es).length = n := by
  have : ∀ (es : List (Nat × Nat)) (m : List Int), (es.foldl (fun m e => lm m e.1 e.2) m).length = m.length := by
    intro es
    induction es with
    | nil => intro m; rfl
    | cons e es ih => intro m; rw [List.foldl_cons, ih, lm_length]
  unfold lms; rw [this]; simp
theorem lms_snoc (n : Nat) (es : List (Nat × Nat)) (e : Nat × Nat) : lms n (es ++ [e]) = lm (lms n es) e.1 e.2 := by unfold lms; rw [List.foldl_append]; rfl
end My

/-! ## places by their marks -/
namespace My
def gstep (g : List (Int × List Int)) (place k : Int) : List (Int × List Int) :=
  if k ∈ g.map (·.1) then g.map (fun kv => if kv.1 = k then (kv.1, kv.2 ++ [place]) else kv) else g ++ [(k, [place])]
def grpA (M : List Int) : Nat → List (Int × List Int)
  | 0 => []
  | i + 1 => gstep (grpA M i) (i : Int) (mk M i)
def grp (M : List Int) : List (Int × List Int) := grpA M M.length
theorem gstep_keys (g : List (Int × List Int)) (p k : Int) : (gstep g p k).map (·.1) = if k ∈ g.map (·.1) then g.map (·.1) else g.map (·.1) ++ [k] := by
  unfold gstep
  split
  · rw [List.map_map]
    refine List.map_congr_left fun kv _ => ?_
    show (if kv.1 = k then (kv.1, kv.2 ++ [p]) else kv).1 = kv.1
    split <;> rfl
  · simp
theorem gstep_nodup {g : List (Int × List Int)} {p k : Int} (h : (g.map (·.1)).Nodup) : ((gstep g p k).map (·.1)).Nodup := by
  rw [gstep_keys]
  split
  · exact h
  · rename_i hk
    rw [List.nodup_append]
    refine ⟨h, by simp, fun a ha b hb => ?_⟩
    rw [List.mem_singleton] at hb
    subst hb
    rintro rfl
    exact hk ha
theorem grpA_nodup (M : List Int) : ∀ i, ((grpA M i).map (·.1)).Nodup
  | 0 => by simp [grpA]
  | i + 1 => gstep_nodup (grpA_nodup M i)
/-- what stands in the groups -/
theorem grpA_mem (M : List Int) : ∀ i kv, kv ∈ grpA M i → ∀ z : Int, z ∈ kv.2 ↔ (0 ≤ z ∧ z < (i : Int) ∧ mk M z.toNat = kv.1)
  | 0, kv, h, z => by simp [grpA] at h
  | i + 1, kv, h, z => by
    unfold grpA gstep at h
    split at h
    · rename_i hk
      obtain ⟨kv0, h0, e⟩ := List.mem_map.mp h
      have ih := grpA_mem M i kv0 h0 z
      by_cases hc : kv0.1 = mk M i
      · rw [if_pos hc] at e
        subst e
        rw [List.mem_append, ih, List.mem_singleton]
        constructor
        · rintro (⟨a, b, c⟩ | rfl)
          · exact ⟨a, by omega, c⟩
          · exact ⟨by omega, by omega, by simpa using hc.symm⟩
        · rintro ⟨a, b, c⟩
          by_cases hz : z < (i : Int)
          · exact .inl ⟨a, hz, c⟩
          · exact .inr (by omega)
      · rw [if_neg hc] at e
        subst e
        rw [ih]
        constructor
        · rintro ⟨a, b, c⟩; exact ⟨a, by omega, c⟩
        · rintro ⟨a, b, c⟩
          refine ⟨a, ?_, c⟩
          by_cases hz : z < (i : Int)
          · exact hz
          · have e : z.toNat = i := by omega
            rw [e] at c
            exact absurd c.symm hc
    · rename_i hk
      rcases List.mem_append.mp h with h0 | h0
      · have ih := grpA_mem M i kv h0 z
        rw [ih]
        constructor
        · rintro ⟨a, b, c⟩; exact ⟨a, by omega, c⟩
        · rintro ⟨a, b, c⟩
          refine ⟨a, ?_, c⟩
          by_cases hz : z < (i : Int)
          · exact hz
          · have e : z.toNat = i := by omega
            rw [e] at c
            exact absurd (List.mem_map.mpr ⟨kv, h0, c.symm⟩) hk
      · rw [List.mem_singleton] at h0
        subst h0
        simp only [List.mem_singleton]
        constructor
        · rintro rfl; exact ⟨by omega, by omega, by simp⟩
        · rintro ⟨a, b, c⟩
          by_cases hz : z < (i : Int)
          · exfalso
            have key := grpA_key M i z.toNat (by omega)
            rw [c] at key
            exact hk key
          · omega
where
  grpA_key (M : List Int) : ∀ i j, j < i → mk M j ∈ (grpA M i).map (·.1)
    | 0, j, h => absurd h (Nat.not_lt_zero j)
    | i + 1, j, h => by
      show mk M j ∈ (gstep (grpA M i) (i : Int) (mk M i)).map (·.1)
      rw [gstep_keys]
      by_cases hj : j < i
      · have := grpA_key M i j hj
        split
        · exact this
        · exact List.mem_append_left _ this
      · have e : j = i := by omega
        subst e
        split
        · assumption
        · simp
theorem grpA_key {M : List Int} {i j : Nat} (h : j < i) : mk M j ∈ (grpA M i).map (·.1) := grpA_mem.grpA_key M i j h
theorem grpA_of_key (M : List Int) : ∀ i k, k ∈ (grpA M i).map (·.1) → ∃ j, j < i ∧ mk M j = k
  | 0, k, h => by simp [grpA] at h
  | i + 1, k, h => by
    have h : k ∈ (gstep (grpA M i) (i : Int) (mk M i)).map (·.1) := h
    rw [gstep_keys] at h
    have old : k ∈ (grpA M i).map (·.1) → ∃ j, j < i + 1 ∧ mk M j = k := fun q => by
      obtain ⟨j, hj, e⟩ := grpA_of_key M i k q
      exact ⟨j, by omega, e⟩
    split at h
    · exact old h
    · rcases List.mem_append.mp h with q | q
      · exact old q
      · rw [List.mem_singleton] at q
        exact ⟨i, by omega, q.symm⟩
/-- one group just where all places are alike -/
theorem grp_one {M : List Int} (hM : 1 ≤ M.length) : (grp M).length = 1 ↔ ∀ i j, i < M.length → j < M.length → mk M i = mk M j := by
  unfold grp
  constructor
  · intro h i j hi hj
    obtain ⟨kv, e⟩ := List.length_eq_one_iff.mp h
    have h1 := grpA_key (M := M) hi
    have h2 := grpA_key (M := M) hj
    rw [e] at h1 h2
    rw [List.map_singleton, List.mem_singleton] at h1 h2
    rw [h1, h2]
  · intro h
    have nd := grpA_nodup M M.length
    have h0 := grpA_key (M := M) (i := M.length) (j := 0) (by omega)
    generalize hg : (grpA M M.length) = g at *
    match g, hg with
    | [], _ => simp at h0
    | [kv], _ => rfl
    | a :: b :: r, hg =>
      exfalso
      obtain ⟨i, hi, e1⟩ := grpA_of_key M M.length a.1 (by rw [hg]; simp)
      obtain ⟨j, hj, e2⟩ := grpA_of_key M M.length b.1 (by rw [hg]; simp)
      have e3 := h i j hi hj
      have : a.1 = b.1 := by rw [← e1, ← e2, e3]
      simp [this] at nd
/-- one value in a list just where all are alike -/
theorem SameP.one {m l : List Int} (s : SameP m l) : (∀ i j, i < m.length → j < m.length → mk m i = mk m j) ↔ (∀ i j, i < l.length → j < l.length → mk l i = mk l j) := by
  obtain ⟨hl, h⟩ := s
  rw [← hl]
  constructor
  · intro q i j hi hj; exact (h i j hi hj).mp (q i j hi hj)
  · intro q i j hi hj; exact (h i j hi hj).mpr (q i j hi hj)
end My
namespace My
end My

/-! ## sets of ints, in, isinstance -/
namespace My
open PySem L2 PyProof.Rows
theorem kit_same {K : PySem.W.Frag} {t : Value} : PySem.W.kitOne K t t = some true := by
  unfold PySem.W.kitOne
  rw [if_pos (beq_self_eq_true t)]
theorem dec_int {a b : Int} : decide (V.int a = V.int b) = decide (a = b) := by
  by_cases h : a = b
  · subst h; simp
  · have h' : ¬ V.int a = V.int b := fun z => h (V.int.inj z)
    rw [decide_eq_false h, decide_eq_false h']
theorem dec_bl {a b : Bool} : decide (V.bl a = V.bl b) = decide (a = b) := by
  by_cases h : a = b
  · subst h; simp
  · have h' : ¬ V.bl a = V.bl b := fun z => h (V.bl.inj z)
    rw [decide_eq_false h, decide_eq_false h']
end My

/-! ## own words about sets of ties, marks and groups -/
namespace My
open PySem L2
/-! from is_set.txt -/
/-- ascending numbers of ties -/
def IsSet (m : Nat) (ns : List Int) : Prop := ∀ i z, ns[i]? = some z → 0 ≤ z ∧ z < (m : Int) ∧ ∀ y, i ≠ 0 → ns[i - 1]? = some y → y < z
/-! from piece_marks.txt -/
/-- the ends of ties -/
def endsOf (ps : List (Int × Int)) (ns : List Int) : List (Nat × Nat) := ns.map fun z => ((ps.getD z.toNat (0, 0)).1.toNat, (ps.getD z.toNat (0, 0)).2.toNat)
/-! from pieces_of.txt -/
/-- the groups' lists stand apart, and none of them stood ahead of the call -/
structure GrpAt (H0 H : Hp) (g : List (Int × List Int)) (as : List Addr) : Prop where
  len : as.length = g.length
  nd : as.Nodup
  at_ : ∀ (i : Nat) (kv : Int × List Int) (a : Addr), g[i]? = some kv → as[i]? = some a → H a = some (.lst (IL kv.2))
  new : ∀ a ∈ as, H0 a = none
theorem GrpAt.mem {H0 H : Hp} {g : List (Int × List Int)} {as : List Addr} (h : GrpAt H0 H g as) {a : Addr} (ha : a ∈ as) : ∃ l, H a = some (.lst l) := by
  obtain ⟨i, hi, e⟩ := List.getElem_of_mem ha
  have hg : i < g.length := by rw [← h.len]; exact hi
  exact ⟨_, h.at_ i g[i] a (List.getElem?_eq_getElem hg) (by rw [List.getElem?_eq_getElem hi, e])⟩
theorem IsSet.all {m : Nat} {ns : List Int} (h : IsSet m ns) : ∀ z ∈ ns, 0 ≤ z ∧ z < (m : Int) := fun z hz => by
  obtain ⟨i, hi, e⟩ := List.getElem_of_mem hz
  obtain ⟨a, b, _⟩ := h i z (by rw [List.getElem?_eq_getElem hi, e])
  exact ⟨a, b⟩
/-! from _law_some.txt -/
theorem IsSet.nil (m : Nat) : IsSet m [] := fun i z e => by simp at e
theorem IsSet.snoc {m : Nat} {ns : List Int} (h : IsSet m ns) : IsSet (m + 1) (ns ++ [(m : Int)]) := fun i z e => by
  by_cases hi : i < ns.length
  · rw [List.getElem?_append_left hi] at e
    obtain ⟨a, b, c⟩ := h i z e
    refine ⟨a, by omega, fun y h0 ey => ?_⟩
    rw [List.getElem?_append_left (by omega)] at ey
    exact c y h0 ey
  · have hl : i = ns.length := by
      have := (List.getElem?_eq_some_iff.mp e).1
      rw [List.length_append, List.length_singleton] at this
      omega
    subst hl
    rw [List.getElem?_append_right (Nat.le_refl _), Nat.sub_self] at e
    have e : (m : Int) = z := Option.some.inj e
    subst e
    refine ⟨by omega, by omega, fun y h0 ey => ?_⟩
    rw [List.getElem?_append_left (by omega)] at ey
    exact (h _ y ey).2.1
theorem IsSet.len {m : Nat} : ∀ {ns : List Int}, IsSet m ns → ns.length ≤ m := fun {ns} h => by
  have key : ∀ (i : Nat) (z : Int), ns[i]? = some z → (i : Int) ≤ z := by
    intro i
    induction i with
    | zero => intro z e; exact (h 0 z e).1
    | succ i ih =>
      intro z e
      have hi : i < ns.length := by have := (List.getElem?_eq_some_iff.mp e).1; omega
      have e2 : ns[i]? = some ns[i] := List.getElem?_eq_getElem hi
      have := ih _ e2
      have := (h (i + 1) z e).2.2 ns[i] (by omega) (by rw [Nat.add_sub_cancel]; exact e2)
      omega
  by_cases h0 : ns.length = 0
  · omega
  · have e : ns[ns.length - 1]? = some (ns[ns.length - 1]'(by omega)) := List.getElem?_eq_getElem _
    have a := key _ _ e
    have b := (h _ _ e).2.1
    omega
end My

/-! ## list.index, all and any over a list of bools, == of known data -/
namespace L2
open PySem PySem.Spec PyProof.Rows
section
variable {X : Cx}
theorem truth_bools {prog : Program} {w : World} {A : Around} {its : Array Value} {bs : List Bool} (h : ∀ (i : Nat) (v : Value), its[i]? = some v → ∃ b, bs[i]? = some b ∧ v = .bool b) : TruthOf prog w A (fun i v => its[i]? = some v) (fun i => bs.getD i false) := by
  intro i v s Q E hP hQ
  obtain ⟨b, eb, rfl⟩ := h i v hP
  have hQ : Q (bs.getD i false) s := hQ
  rw [List.getD_eq_getElem?_getD, eb] at hQ
  exact wpAny_truthy_bool hQ
theorem any_getD (bs : List Bool) : (List.range bs.length).any (fun i => bs.getD i false) = bs.any id := by
  rw [Bool.eq_iff_iff, List.any_eq_true, List.any_eq_true]
  constructor
  · rintro ⟨i, hi, e⟩
    have hi := List.mem_range.mp hi
    rw [List.getD_eq_getElem?_getD, List.getElem?_eq_getElem hi] at e
    exact ⟨_, List.getElem_mem hi, e⟩
  · rintro ⟨b, hb, e⟩
    obtain ⟨i, hi, ei⟩ := List.getElem_of_mem hb
    refine ⟨i, List.mem_range.mpr hi, ?_⟩
    rw [List.getD_eq_getElem?_getD, List.getElem?_eq_getElem hi, ei]
    exact e
theorem bools_at {bs : List Bool} {its : List Value} (r : Vals (bs.map V.bl) its) : ∀ (i : Nat) (v : Value), its.toArray[i]? = some v → ∃ b, bs[i]? = some b ∧ v = .bool b := fun i v e => by
  have e : its[i]? = some v := by simpa using e
  have hi : i < its.length := (List.getElem?_eq_some_iff.mp e).1
  obtain ⟨x, ex, rx⟩ := r.at hi
  rw [List.getElem?_map] at ex
  cases eb : bs[i]? with
  | none => rw [eb] at ex; cases ex
  | some b =>
    rw [eb] at ex
    have ex : V.bl b = x := Option.some.inj ex
    subst ex
    rw [List.getElem?_eq_getElem hi] at e
    have e : its[i] = v := Option.some.inj e
    rw [e] at rx
    exact ⟨b, rfl, rx⟩
theorem call_anyK (K : PySem.W.Frag) (hc : X.calm = true) (h : X.K = K := by rfl) : CallR X (.builtin "any") (fun xs H Q => ∃ (p : Addr) (bs : List Bool), xs = [.ref p] ∧ SqL K H p (bs.map V.bl) ∧ Q (.bl (bs.any id)) H) := by
  subst h
  intro pins s σ H xs us Q I r h
  obtain ⟨p, bs, rfl, hq, q⟩ := h
  obtain ⟨u, rfl, ru⟩ := vals1 r
  obtain rfl : u = Value.ref p := ru
  obtain ⟨its, rv, pl, hz⟩ := I.list hq
  have hl : its.toArray.size = bs.length := by rw [List.size_toArray, ← rv.length, List.length_map]
  have hne : p ≠ s.heap.objs.size := Nat.ne_of_lt (let ⟨_, _, e, _⟩ := pl; Heap.lt_size e)
  refine call_any_walk (wpAny_pyIter_list pl.isList ⟨s.heap.objs.size, _, _, _, _, _, _, rfl, Walks.list (A := X.A.in1) (I.ok.hd hc) s.heap.objs.size p hne its.toArray, ⟨⟨_, Heap.get?_push_size _ rfl, rfl, rfl⟩, pl.isList.push _⟩, truth_bools (bools_at rv), fun h' tk hk => ?_⟩)
  rw [hl, any_getD]
  refine ⟨.bl (bs.any id), H, I.kept fun b o e => hk b o ?_ (Heap.get?_push_of_some _ e), rfl, q⟩
  intro z
  rw [List.mem_singleton.mp z] at e
  exact absurd (Heap.lt_size e) (Nat.lt_irrefl _)
end
end L2
namespace My
open PySem L2
section
variable {K : PySem.W.Frag} {H : Hp} {α : Type} [DecidableEq α]
/-- the values bear the data, place by place -/
def Bears (R : V → α → Prop) (xs : List V) (l : List α) : Prop := xs.length = l.length ∧ ∀ (i : Nat) (a : α), l[i]? = some a → ∃ x, xs[i]? = some x ∧ R x a
theorem Bears.at {R : V → α → Prop} {xs : List V} {l : List α} (h : Bears R xs l) {i : Nat} {x : V} (e : xs[i]? = some x) : ∃ a, l[i]? = some a ∧ R x a := by
  have hi : i < xs.length := (List.getElem?_eq_some_iff.mp e).1
  have hl : i < l.length := by rw [← h.1]; exact hi
  obtain ⟨x', e1, q⟩ := h.2 i l[i] (List.getElem?_eq_getElem hl)
  rw [e] at e1
  cases e1
  exact ⟨_, List.getElem?_eq_getElem hl, q⟩
theorem all_dec {l m : List α} (h : l.length = m.length) : (List.range l.length).all (fun i => decide (l[i]? = m[i]?)) = decide (l = m) := by
  rw [Bool.eq_iff_iff, List.all_eq_true, decide_eq_true_iff]
  constructor
  · intro q
    refine List.ext_getElem? fun i => ?_
    by_cases hi : i < l.length
    · exact of_decide_eq_true (q i (List.mem_range.mpr hi))
    · rw [List.getElem?_eq_none (by omega), List.getElem?_eq_none (by omega)]
  · rintro rfl i _
    simp
theorem eqd_lists {R : V → α → Prop} {n : Nat} {p q : Addr} {xs ys : List V} {l m : List α} (hp : SqL K H p xs) (hq : SqL K H q ys) (h1 : Bears R xs l) (h2 : Bears R ys m) (hR : ∀ x y a b, R x a → R y b → EqD K H n x y (decide (a = b))) : EqD K H (n + 1) (.ref p) (.ref q) (decide (l = m)) := by
  by_cases hl : xs.length = ys.length
  · have e := all_dec (l := l) (m := m) (by rw [← h1.1, ← h2.1, hl])
    rw [← e, ← h1.1]
    refine EqD.lsts hp hq hl fun i x y ex ey => ?_
    obtain ⟨a, ea, ra⟩ := h1.at ex
    obtain ⟨b, eb, rb⟩ := h2.at ey
    rw [ea, eb, show decide (some a = some b) = decide (a = b) by simp]
    exact hR x y a b ra rb
  · have e : decide (l = m) = false := decide_eq_false fun z => hl (by rw [h1.1, h2.1, z])
    rw [e]
    exact EqD.lens hp hq hl
theorem eqd_bools {p q : Addr} {bs cs : List Bool} (hp : SqL K H p (bs.map V.bl)) (hq : SqL K H q (cs.map V.bl)) : EqD K H 1 (.ref p) (.ref q) (decide (bs = cs)) := by
  have be : ∀ bs : List Bool, Bears (fun x (b : Bool) => x = .bl b) (bs.map V.bl) bs := fun bs => ⟨List.length_map .., fun i b e => ⟨_, by rw [List.getElem?_map, e]; rfl, rfl⟩⟩
  refine eqd_lists hp hq (be bs) (be cs) fun x y a b hx hy => ?_
  subst hx hy
  have e : decide (a = b) = eqV (.bl a) (.bl b) := by
    show decide (a = b) = (a == b)
    rw [Bool.beq_eq_decide_eq]
  rw [e]
  exact EqD.flat rfl rfl
/-- a list of lists of ints -/
def ListV (H : Hp) (v : V) (l : List Int) : Prop := ∃ a, v = .ref a ∧ H a = some (.lst (IL l))
end
end My

/-! ## the groups by first places -/
namespace My
def fstB (M : List Int) (p : Nat) : Bool := (List.range p).all fun i => decide (mk M i ≠ mk M p)
def posA (M : List Int) (k : Int) (i : Nat) : List Int := ((List.range i).filter fun j => decide (mk M j = k)).map fun (j : Nat) => (j : Int)
def fstA (M : List Int) (i : Nat) : List Nat := (List.range i).filter (fstB M)
theorem fstB_iff {M : List Int} {p : Nat} : fstB M p = true ↔ ∀ i, i < p → mk M i ≠ mk M p := by
  unfold fstB
  rw [List.all_eq_true]
  constructor
  · intro h i hi; exact of_decide_eq_true (h i (List.mem_range.mpr hi))
  · intro h i hi; exact decide_eq_true (h i (List.mem_range.mp hi))
theorem posA_succ (M : List Int) (k : Int) (i : Nat) : posA M k (i + 1) = posA M k i ++ (if mk M i = k then [(i : Int)] else []) := by
  unfold posA
  rw [List.range_succ, List.filter_append, List.map_append]
  congr 1
  by_cases h : mk M i = k
  · rw [if_pos h, List.filter_cons, if_pos (by simpa using h)]; rfl
  · rw [if_neg h, List.filter_cons, if_neg (by simpa using h)]; rfl
theorem fstA_succ (M : List Int) (i : Nat) : fstA M (i + 1) = fstA M i ++ (if fstB M i = true then [i] else []) := by
  unfold fstA
  rw [List.range_succ, List.filter_append]
  congr 1
  by_cases h : fstB M i = true
  · rw [if_pos h, List.filter_cons, if_pos h]; rfl
  · rw [if_neg h, List.filter_cons, if_neg h]; rfl
theorem grpA_eq (M : List Int) : ∀ i, grpA M i = (fstA M i).map fun p => (mk M p, posA M (mk M p) i)
  | 0 => rfl
  | i + 1 => by
    have ih := grpA_eq M i
    show gstep (grpA M i) (i : Int) (mk M i) = _
    have hk : (mk M i ∈ (grpA M i).map (·.1)) ↔ fstB M i ≠ true := by
      constructor
      · intro h q
        obtain ⟨j, hj, e⟩ := grpA_of_key M i _ h
        exact fstB_iff.mp q j hj e
      · intro h
        by_cases q : ∃ j, j < i ∧ mk M j = mk M i
        · obtain ⟨j, hj, e⟩ := q
          rw [← e]
          exact grpA_key hj
        · exact absurd (fstB_iff.mpr fun j hj e => q ⟨j, hj, e⟩) h
    unfold gstep
    by_cases h : mk M i ∈ (grpA M i).map (·.1)
    · have hf := hk.mp h
      rw [if_pos h, fstA_succ, if_neg hf, List.append_nil, ih, List.map_map]
      refine List.map_congr_left fun p _ => ?_
      show (if mk M p = mk M i then (mk M p, posA M (mk M p) i ++ [(i : Int)]) else (mk M p, posA M (mk M p) i)) = (mk M p, posA M (mk M p) (i + 1))
      rw [posA_succ]
      by_cases e : mk M p = mk M i
      · rw [if_pos e, if_pos e.symm]
      · rw [if_neg e, if_neg (fun z => e z.symm), List.append_nil]
    · have hf : fstB M i = true := by
        cases q : fstB M i with
        | true => rfl
        | false => exact absurd (hk.mpr (by rw [q]; exact Bool.false_ne_true)) h
      rw [if_neg h, fstA_succ, if_pos hf, List.map_append, ih]
      congr 1
      · refine List.map_congr_left fun p hp => ?_
        have hpi : p < i := List.mem_range.mp (List.mem_filter.mp hp).1
        rw [posA_succ, if_neg (fun z => fstB_iff.mp hf p hpi z.symm), List.append_nil]
      · show [(mk M i, [(i : Int)])] = [(mk M i, posA M (mk M i) (i + 1))]
        rw [posA_succ, if_pos rfl]
        have e0 : posA M (mk M i) i = [] := by
          unfold posA
          rw [List.filter_eq_nil_iff.mpr fun j hj => by simpa using fstB_iff.mp hf j (List.mem_range.mp hj)]
          rfl
        rw [e0]
        rfl
end My

/-! ## more own words -/
namespace My
open PySem L2
theorem Bears.snoc {α : Type} [DecidableEq α] {R : V → α → Prop} {xs : List V} {l : List α} {x : V} {a : α} (h : Bears R xs l) (hx : R x a) : Bears R (xs ++ [x]) (l ++ [a]) := by
  refine ⟨by rw [List.length_append, List.length_append, h.1]; rfl, fun i b e => ?_⟩
  by_cases hi : i < l.length
  · rw [List.getElem?_append_left hi] at e
    rw [List.getElem?_append_left (by rw [h.1]; exact hi)]
    exact h.2 i b e
  · have hl : i = l.length := by
      have := (List.getElem?_eq_some_iff.mp e).1
      rw [List.length_append, List.length_singleton] at this
      omega
    subst hl
    rw [List.getElem?_append_right (Nat.le_refl _), Nat.sub_self] at e
    rw [List.getElem?_append_right (by rw [h.1]; exact Nat.le_refl _), h.1, Nat.sub_self]
    have e' : a = b := Option.some.inj e
    subst e'
    exact ⟨x, rfl, hx⟩
theorem Bears.imp {α : Type} [DecidableEq α] {R R' : V → α → Prop} {xs : List V} {l : List α} (h : Bears R xs l) (f : ∀ x a, R x a → R' x a) : Bears R' xs l := ⟨h.1, fun i a e => let ⟨x, e1, r⟩ := h.2 i a e; ⟨x, e1, f x a r⟩⟩
end My

/-! ## exceptions of own classes: raised, passing a def, caught by a try -/
namespace L2
open PySem PySem.Spec PyProof.Rows
theorem ObjOk.there {P : Program} {w : World} {H : Hp} {h : Heap} {a : Addr} {o : HO} (x : ObjOk P w H h a o) : ∃ u, h.get? a = some u := by
  cases o with
  | lst xs => obtain ⟨_, _, _, _, e⟩ := x; exact ⟨_, e⟩
  | tup xs => obtain ⟨_, _, _, o, e, _⟩ := x; exact ⟨_, e⟩
  | dK kvs => obtain ⟨_, _, _, _, o, _, _, e, _⟩ := x; exact ⟨_, e⟩
  | dT kvs => obtain ⟨_, _, _, _, o, _, _, e, _⟩ := x; exact ⟨_, e⟩
  | set S n => obtain ⟨o, _, _, _, e, _⟩ := x; exact ⟨_, e⟩
  | ins C dx fs => obtain ⟨_, _, _, e, _⟩ := x; exact ⟨_, e⟩
  | own y => exact x
  | xd fs => obtain ⟨_, ⟨_, _, _, e, _⟩, _⟩ := x; exact ⟨_, e⟩
  | rng lo hi => obtain ⟨_, _, _, e⟩ := x; exact ⟨_, e⟩
  | frz ob u => obtain ⟨e, _⟩ := x; exact ⟨_, e⟩
  | tbl ps => exact ⟨_, x⟩
  | met f y => exact ⟨_, x⟩
  | ext φ => obtain ⟨_, e, _⟩ := x; exact e
/-- an exception in flight at e, of the class C: it and its last entry are new and not tracked -/
structure Fly (h0 : Heap) (H : Hp) (e C : Addr) (h : Heap) : Prop where
  ex : ∃ oe vs T oT ts a0, h.get? e = some oe ∧ oe.cls = .ref C ∧ oe.data = .fields vs ∧ vs[0]? = some a0 ∧ vs[1]? = some (.ref T) ∧ T ≠ e ∧ h.get? T = some oT ∧ oT.data = .fields ts ∧ ts[3]? = some .none ∧ h0.get? T = none ∧ H T = none
  new : h0.get? e = none
  free : H e = none
/-- how it lies behind a call -/
def CXW (P : Program) (w : World) : CXT := fun outer H s E ev s' => ∃ (e C : Addr) (H' : Hp), ev = Value.ref e ∧ s'.os = s.os ∧ AllBare s'.gens ∧ Un (frs outer) [] H H' s.heap s'.heap ∧ HOk P w H' s'.heap ∧ Fly s.heap H' e C s'.heap ∧ E (.ref C) none H'
section
variable {X : Cx} {pins : List (Addr × Obj)} {σ : St} {H : Hp} {s : Shared} {e C : Addr}
/-- the ground that a step of an exception leaves as it is -/
abbrev grd (X : Cx) (h : Heap) (ns : List Addr) : Heap := PySem.W.hideAll h (frs X.stack ++ ns)
theorem grd_get {h : Heap} {ns : List Addr} {b : Addr} {o : Obj} (q : h.get? b = some o) (h1 : b ∉ frs X.stack) (h2 : b ∉ ns) : (grd X h ns).get? b = some o :=
  PySem.W.hideAll_get _ q fun z => (List.mem_append.mp z).elim h1 h2
theorem grd_of {h : Heap} {ns : List Addr} : (grd X h ns).StaysIn h := fun _ _ q => PySem.W.of_hideAll _ q
theorem Inv.was (I : Inv X pins σ H s) (hex : X.ex = []) {b : Addr} (h : s.heap.get? b = none) : X.s₀.heap.get? b = none := by
  cases q : X.s₀.heap.get? b with
  | none => rfl
  | some o =>
    obtain ⟨o', e⟩ := I.base.there b o q (by rw [hex]; simp)
    rw [h] at e; cases e
/-- what is kept where the ground stays -/
theorem hok_grd {P : Program} {w : World} {h' : Heap} {ns : List Addr} {h : Heap} (ok : HOk P w H h) (hf : ∀ b ∈ frs X.stack, H b = none) (hns : ∀ b ∈ ns, H b = none) (k : (grd X h ns).StaysIn h') : HOk P w H h' := fun a o q =>
  (ok a o q).stay (fun b u hb g => k b u (grd_get g (fun z => by
    have := hf b z
    rcases hb with rfl | hb
    · rw [q] at this; cases this
    · rw [hb] at this; cases this) fun z => by
    have := hns b z
    rcases hb with rfl | hb
    · rw [q] at this; cases this
    · rw [hb] at this; cases this)) (fun _ z => z) fun _ _ z => z
theorem frs_stack (hst : X.stack = X.env :: X.outer) (hfr : X.env.frame = some X.env.locals) : frs X.stack = X.env.locals :: frs X.outer := by
  rw [hst]
  unfold frs
  rw [List.filterMap_cons, hfr]
/-- behind the step by which it leaves the frame -/
theorem cx_left (hst : X.stack = X.env :: X.outer) (hfr : X.env.frame = some X.env.locals) (hex : X.ex = []) (I : Inv X pins σ H s) {ns : List Addr} (hns : ∀ b ∈ ns, X.s₀.heap.get? b = none ∧ H b = none) {h' : Heap} {a0 : Value} {E : XK} {s' : Shared}
    (hfl : Heap.FlyingW (grd X s.heap ns) X.outer e (.ref C) a0 h') (up : s.heap.UpToSlots h') (ne : X.s₀.heap.get? e = none) (fe : H e = none) (hE : E (.ref C) none H) (hs : s'.heap = h') (ho : s'.os = s.os) (hg : s'.gens = s.gens) :
    CXW X.prog X.w X.outer X.H₀ X.s₀ E (.ref e) s' := by
  subst hs
  have fst := frs_stack (X := X) hst hfr
  have noL : ∀ b o, X.s₀.heap.get? b = some o → b ≠ X.env.locals := fun b o q => Nat.ne_of_lt (Nat.lt_of_lt_of_le (Heap.lt_size q) I.ok.above)
  have nns : ∀ b o, X.s₀.heap.get? b = some o → b ∉ ns := fun b o q z => by rw [(hns b z).1] at q; cases q
  have nfs : ∀ b o, X.s₀.heap.get? b = some o → b ∉ frs X.outer → b ∉ frs X.stack := fun b o q n z => by
    rw [fst] at z
    rcases List.mem_cons.mp z with z | z
    · exact noL b o q z
    · exact n z
  have nex : ∀ b, b ∉ X.ex := fun b z => by rw [hex] at z; cases z
  have keep : ∀ b o u, X.s₀.heap.get? b = some o → b ∉ frs X.outer → s.heap.get? b = some u → s'.heap.get? b = some u := fun b o u q n g => hfl.1 b u (grd_get g (nfs b o q n) (nns b o q))
  have slot : ∀ b u, b ∈ frs X.outer → s.heap.get? b = some u → ∃ sl, s'.heap.get? b = some { u with slots := sl } := fun b u hb g => by
    obtain ⟨_, o', ho', hd⟩ := I.funs.mem hb
    rw [g] at ho'
    cases ho'
    exact up b u g hd
  refine ⟨e, C, H, rfl, ho.trans I.os, hg ▸ I.bare, ⟨fun b o q n hb _ => ?_, fun b o q n hb _ => ?_, fun b o q n _ => I.base.free b o q n (nex b), fun b o q _ => ?_, I.base.tups, I.base.frzs, I.base.tbls⟩, hok_grd I.hok I.stkFree (fun b hb => (hns b hb).2) hfl.1, ⟨?_, ne, fe⟩, hE⟩
  · exact keep b o o q hb (I.base.keep b o q n hb (nex b))
  · obtain ⟨sl, g⟩ := I.base.slot b o q n hb (nex b)
    obtain ⟨sl', g'⟩ := slot b _ hb g
    exact ⟨sl', g'⟩
  · obtain ⟨u, g⟩ := I.base.there b o q (nex b)
    by_cases hb : b ∈ frs X.outer
    · obtain ⟨sl, g'⟩ := slot b u hb g
      exact ⟨_, g'⟩
    · exact ⟨u, keep b o u q hb g⟩
  · obtain ⟨f1, f2, f3, oe, vs, T, oT, ts, he, ⟨hc, h0⟩, hd, h1, hnT, hTe, hT, hdT, h3⟩ := hfl
    refine ⟨oe, vs, T, oT, ts, a0, he, hc, hd, h0, h1, hTe, hT, hdT, h3, ?_, ?_⟩
    · cases q : X.s₀.heap.get? T with
      | none => rfl
      | some o =>
        obtain ⟨u, g⟩ := I.base.there T o q (nex T)
        by_cases hb : T ∈ frs X.outer
        · obtain ⟨_, o', ho', hd'⟩ := f3.mem hb
          rw [hT] at ho'
          cases ho'
          exact absurd hdT (hd' ts)
        · rw [grd_get g (nfs T o q hb) (nns T o q)] at hnT
          cases hnT
    · cases q : H T with
      | none => rfl
      | some ho =>
        obtain ⟨u, g⟩ := (I.hok T ho q).there
        rw [grd_get g (fun z => by rw [I.stkFree T z] at q; cases q) (fun z => by rw [(hns T z).2] at q; cases q)] at hnT
        cases hnT
theorem fly_base (hst : X.stack = X.env :: X.outer) (I : Inv X pins σ H s) {h0 : Heap} (F : Fly h0 H e C s.heap) : ∃ T a0, Heap.FlyingW (grd X s.heap [e, T]) X.stack e (.ref C) a0 s.heap ∧ h0.get? T = none ∧ H T = none := by
  obtain ⟨oe, vs, T, oT, ts, a0, he, hc, hd, h0', h1, hTe, hT, hdT, h3, nT, fT⟩ := F.ex
  refine ⟨T, a0, ⟨grd_of, PySem.W.hideAll_none _ (by simp), ?_, oe, vs, T, oT, ts, he, ⟨hc, h0'⟩, hd, h1, PySem.W.hideAll_none _ (by simp), hTe, hT, hdT, h3⟩, nT, fT⟩
  exact PySem.W.funFrames_hide I.stack fun env henv a hf => List.mem_append_left _ (List.mem_filterMap.mpr ⟨env, henv, hf⟩)
/-- it leaves the frame on its way -/
theorem leave_fly (hst : X.stack = X.env :: X.outer) (hfr : X.env.frame = some X.env.locals) (hex : X.ex = []) (I : Inv X pins σ H s) (F : Fly X.s₀.heap H e C s.heap) {E : XK} (hE : E (.ref C) none H) {E' : Value → Shared → Prop} :
    wpAny (model X.prog X.w) X.A (leaving X.env (.ref e)) (fun _ s'' => CXW X.prog X.w X.outer X.H₀ X.s₀ E (.ref e) s'') E' s := by
  obtain ⟨T, a0, fl, nT, fT⟩ := fly_base hst I F
  rw [hst] at fl
  refine wpAny_leaves_onW (by rw [I.ok.frames, hst]) hfr fl fun h' fl' up => ?_
  refine cx_left hst hfr hex I (fun b hb => ?_) fl' up F.new F.free hE rfl rfl rfl
  rcases List.mem_cons.mp hb with rfl | hb
  · exact ⟨F.new, F.free⟩
  · rw [List.mem_singleton.mp hb]; exact ⟨nT, fT⟩
/-- it is raised here and leaves the frame -/
theorem leave_made (hst : X.stack = X.env :: X.outer) (hfr : X.env.frame = some X.env.locals) (hex : X.ex = []) (I : Inv X pins σ H s) {h' : Heap} {vs : List Value} (hm : Heap.MadeExcOf s.heap h' e (.ref C) vs) {E : XK} (hE : E (.ref C) none H) {E' : Value → Shared → Prop} :
    wpAny (model X.prog X.w) X.A (leaving X.env (.ref e)) (fun _ s'' => CXW X.prog X.w X.outer X.H₀ X.s₀ E (.ref e) s'') E' { s with heap := h' } := by
  have ff : s.heap.FunFrames (grd X s.heap []) X.stack := PySem.W.funFrames_hide I.stack fun env henv a hf => List.mem_append_left _ (List.mem_filterMap.mpr ⟨env, henv, hf⟩)
  rw [hst] at ff
  refine wpAny_leaves_madeW (base := grd X s.heap []) (h := s.heap) (by rw [I.ok.frames, hst]) hfr grd_of ff hm fun h'' t fl _ _ up => ?_
  have fe : H e = none := by
    cases q : H e with
    | none => rfl
    | some ho =>
      obtain ⟨u, g⟩ := (I.hok e ho q).there
      rw [hm.new] at g
      cases g
  exact cx_left (s' := { s with heap := h'' }) hst hfr hex I (fun b hb => by cases hb) fl ((Heap.UpToSlots.of_keeps hm.keeps).trans up) (I.was hex hm.new) fe hE rfl rfl rfl
/-- the state behind a call that ended in an exception -/
theorem Inv.flown {E : XK} {ev : Value} {s' : Shared} (I : Inv X pins σ H s) (h : CXW X.prog X.w X.stack H s E ev s') : ∃ e C H', ev = Value.ref e ∧ Inv X pins σ H' s' ∧ Fly s.heap H' e C s'.heap ∧ E (.ref C) none H' := by
  obtain ⟨e, C, H', rfl, ho, hg, u, ok, F, hE⟩ := h
  exact ⟨e, C, H', rfl, I.call' (ch := []) ho u ok hg (fun _ z => nomatch z), F, hE⟩
theorem Fly.older {h0 h1 h : Heap} (F : Fly h0 H e C h) (k : ∀ b, h0.get? b = none → h1.get? b = none) : Fly h1 H e C h := by
  obtain ⟨oe, vs, T, oT, ts, a0, he, hc, hd, h0', h1', hTe, hT, hdT, h3, nT, fT⟩ := F.ex
  exact ⟨⟨oe, vs, T, oT, ts, a0, he, hc, hd, h0', h1', hTe, hT, hdT, h3, k _ nT, fT⟩, k _ F.new, F.free⟩
end
section
variable {P : Program} {w : World} {K : PySem.W.Frag} {mg : Str → Option Value} {base : Heap}
/-- a callee's exception passes a def -/
theorem pxs {N : List Str} {qual : Str} {scope : Scope} {f : Addr} {cd : Value} {A : Around} {outer : List Env} {s : Shared} {H : Hp} {E : XK} : Passes (CXW P w) (cxOf (CXW P w) P w K mg base N qual scope f cd A outer s H E) E := by
  intro pins σ H1 s1 ev s' I h
  obtain ⟨e, C, H', rfl, J, F, hE⟩ := I.flown h
  exact leave_fly rfl rfl rfl J (F.older fun b hb => I.was rfl hb) hE
/-- THE RULE for a def that may raise -/
theorem Fun.okX {x qual : Str} {st : Stmt} {f : Addr} {fd : FuncData} {N ps : List Str} {k : Nat} {sp : Sp} (F : Fun K x qual st f fd) (S : FnScope N ps (defScope st)) (len : ∀ vs H Q E, sp vs H Q E → vs.length = ps.length)
    (hbody : ∀ (cdv : Value) (A : Around) (outer : List Env) (s : Shared) (H : Hp) (vs : List V) (Q : VK) (E : XK), Room k (A.deeper (envOfC qual (defScope st) s.heap.objs.size f cdv)) → sp vs H Q E →
      ∃ t, PSs (cxOf (CXW P w) P w K mg base N qual (defScope st) f cdv A outer s H E) (defBody st) t ∧ t { nx := fun _ H' => Q .non H', rt := Q } (start N vs) H) : FnOk P w K mg base (CXW P w) (k + 1) f fd ps sp := by
  obtain ⟨oc, od, kV, doc, pm, an, cdv, ct, osl, rfl, lk, hcd⟩ := F.ex
  exact fn_of lk hcd S len fun A outer s H vs Q E hr hsp => hbody cdv A outer s H vs Q E hr hsp
end
/-- what of the text an own exception's class must have -/
structure XCls (K : PySem.W.Frag) (C : Addr) : Prop where
  ex : PySem.W.excIn K C [.type "ValueError", .type "Exception", .type "BaseException", .type "object"] "ValueError.__new__" = true
  ga : PySem.W.findIn K (.ref C) "__getattribute__" = some (some (.builtin "BaseException.__getattribute__"))
  gh : PySem.W.findIn K (.ref C) "__getattr__" = some none
  cl : PySem.W.findIn K (.ref C) "__class__" = some (some (.builtin "object.__class__"))
  ob : PySem.W.mroIn K C (.type "object") = some true
  bx : PySem.W.mroIn K C (.type "BaseException") = some true
theorem XCls.obj {K : PySem.W.Frag} {C : Addr} {h : Heap} (c : XCls K C) (X : K.In h) : ∃ bm N nm q bs hdct sn sub ab col dd k0 k1 k2 k3 k5 mN, h.get? C = some (excClassObj nm q C N bs bm hdct sn sub ab col dd k0 k1 k2 k3 k5 "ValueError.__new__") ∧ h.Ns N mN ∧ mN "__init__" = none ∧ OwnTail h [.type "ValueError", .type "Exception", .type "BaseException", .type "object"] bm := by
  have q := c.ex
  unfold PySem.W.excIn at q
  split at q
  · rename_i dd cd sl ho
    split at q
    · rename_i C' bm k0 k1 k2 k3 n k5 hm hs
      simp only [Bool.and_eq_true, beq_iff_eq, Bool.not_eq_true'] at q
      obtain ⟨⟨⟨⟨⟨rfl, rfl⟩, hdel⟩, ht⟩, hok⟩, hni⟩ := q
      obtain ⟨nm, bs, mro, ns, qn, hd, sn, sub, ab, col, del⟩ := cd
      dsimp only at hm hdel hok hni
      subst hm hdel
      have hsl : sl = #[k0, k1, k2, k3, some (.builtin "ValueError.__new__"), k5] := by
        obtain ⟨l⟩ := sl
        simp only at hs
        rw [hs]
      subst hsl
      exact ⟨bm, ns, nm, qn, bs, hd, sn, sub, ab, col, dd, k0, k1, k2, k3, k5, _, X _ _ ho, .of_isNs (PySem.W.isNs_of_in X hok), PySem.W.nsMap_none_of_in X hok hni, PySem.W.tail_of_in X ht⟩
    · cases q
  · cases q
/-- raise C(e, ..) -/
def tRaise (C : Addr) (E : XK) (t : TA) : TS := fun _ σ H => t σ H fun vs H1 => vs.length ≤ sizeLine ∧ E (.ref C) none H1
theorem ps_raise {P : Program} {w : World} {K : PySem.W.Frag} {mg : Str → Option Value} {base : Heap} {N : List Str} {qual : Str} {scope : Scope} {f : Addr} {cd : Value} {A : Around} {outer : List Env} {s0 : Shared} {H0 : Hp} {E : XK} {C : Addr} {x : Str} {np cpos pos : Pos} {e₀ : Expr} {rest : List Expr} {t : TA}
    (c : XCls K C) (hm : mg x = some (.ref C)) (ha : PA (cxOf (CXW P w) P w K mg base N qual scope f cd A outer s0 H0 E) (e₀ :: rest) t)
    (hg : Gl (cxOf (CXW P w) P w K mg base N qual scope f cd A outer s0 H0 E) x := by rfl) (hd : (x == ("__debug__" : Str)) = false := by decide)
    (he : starEach (e₀ :: rest) (cxOf (CXW P w) P w K mg base N qual scope f cd A outer s0 H0 E).env = (false, eval e₀ (cxOf (CXW P w) P w K mg base N qual scope f cd A outer s0 H0 E).env) :: starEach rest (cxOf (CXW P w) P w K mg base N qual scope f cd A outer s0 H0 E).env := by rfl)
    (hplain : (backTo cpos (starEach rest (cxOf (CXW P w) P w K mg base N qual scope f cd A outer s0 H0 E).env)).any (·.1) = false := by rfl) :
    PS (cxOf (CXW P w) P w K mg base N qual scope f cd A outer s0 H0 E) (.Raise (some (.Call (.Name x np) (e₀ :: rest) [] cpos)) none pos) (tRaise C E t) := by
  intro pins s σ H D I h
  obtain ⟨tl, NN, nm, q, bs, hdct, sn, sub, ab, col, dd, k0, k1, k2, k3, k5, mN, hC, hN, hni, T⟩ := c.obj I.ok.mod.kin
  refine wpAny_Raise_call_subT (C := C) (nm := nm) (q := q) (N := NN) (bs := bs) (bm := tl) (hdct := hdct) (sn := sn) (sub := sub) (ab := ab) (col := col) (dd := dd) (k0 := k0) (k1 := k1) (k2 := k2) (k3 := k3) (k5 := k5)
    PySem.F.excBase_ValueError (mN := mN) (T.hasType PySem.F.excBase_ValueError.hasBase) (I.ok.hd rfl) (by rw [he]; show (false || (backTo cpos (starEach rest _)).any (·.1)) = false; rw [hplain]; rfl) hni (ld_glob I hg hm ⟨rfl, ?_⟩ hd)
  have h := ha cpos pins s σ H _ I h
  rw [he] at h ⊢
  refine Calls.evalArgs_plain (wpAny_mono h (fun vs s₂ h₂ => ?_) fun _ _ y => y)
  obtain ⟨zs, H2, I2, rz, hz, hE⟩ := h₂
  refine ⟨rfl, by rw [← rz.length]; exact hz, I2.bk _ _ hC, hN.keeps I2.bk, T.keeps I2.bk, fun h' e hme => ?_⟩
  exact leave_made rfl rfl rfl I2 hme hE
end L2

/-! ## try, except C as e; isinstance of a caught exception -/
namespace L2
open PySem PySem.Spec PyProof.Rows
section
variable {X : Cx} {pins : List (Addr × Obj)} {σ : St} {H : Hp} {s : Shared} {e C : Addr}
/-- the state where the ground stays, some new records and slots of frames aside -/
theorem Inv.held (I : Inv X pins σ H s) {ns : List Addr} {h' : Heap} {tk : Nat} (hns : ∀ b ∈ ns, X.s₀.heap.get? b = none ∧ H b = none ∧ (∀ p ∈ X.pn ++ pins, p.1 ≠ b)) (k : (grd X s.heap ns).StaysIn h') (up : s.heap.UpToSlots h') : Inv X pins σ H { s with heap := h', toks := tk } := by
  have nns : ∀ b o, X.s₀.heap.get? b = some o → b ∉ ns := fun b o q z => by rw [(hns b z).1] at q; cases q
  have noL : ∀ b o, X.s₀.heap.get? b = some o → b ≠ X.env.locals := fun b o q => Nat.ne_of_lt (Nat.lt_of_lt_of_le (Heap.lt_size q) I.ok.above)
  have nfs : ∀ b, b ≠ X.env.locals → b ∉ X.fs → b ∉ frs X.stack := fun b h1 h2 z => (List.mem_cons.mp (I.stkSub b z)).elim h1 h2
  have slot : ∀ b u, b ∈ X.fs → s.heap.get? b = some u → ∃ sl, h'.get? b = some { u with slots := sl } := fun b u hb g => by
    obtain ⟨_, o', ho', hd⟩ := I.funs.mem hb
    rw [g] at ho'
    cases ho'
    exact up b u g hd
  have cellK : ∀ c v, s.heap.IsCell c v → h'.IsCell c v := fun c v ⟨o, ho, hd⟩ => by
    obtain ⟨sl, g⟩ := up c o ho fun vs q => by rw [hd] at q; cases q
    exact ⟨_, g, hd⟩
  refine ⟨I.ok, I.os, I.bare, ⟨fun b o q n hb hx => ?_, fun b o q n hb hx => ?_, I.base.free, fun b o q hx => ?_, I.base.tups, I.base.frzs, I.base.tbls⟩, ?_, fun x c q => ?_, I.free, I.freeC, fun p hp => ?_, hok_grd I.hok I.stkFree (fun b hb => (hns b hb).2.1) k, I.len⟩
  · exact k b o (grd_get (I.base.keep b o q n hb hx) (nfs b (noL b o q) hb) (nns b o q))
  · obtain ⟨sl, g⟩ := I.base.slot b o q n hb hx
    obtain ⟨sl', g'⟩ := slot b _ hb g
    exact ⟨sl', g'⟩
  · obtain ⟨u, g⟩ := I.base.there b o q hx
    by_cases hb : b ∈ X.fs
    · obtain ⟨sl, g'⟩ := slot b u hb g
      exact ⟨_, g'⟩
    · exact ⟨u, k b u (grd_get g (nfs b (noL b o q) hb) (nns b o q))⟩
  · obtain ⟨m, hn, hl⟩ := I.loc
    refine ⟨m, up.ns hn, fun i x v e1 e2 e3 => ?_⟩
    obtain ⟨u, r, l⟩ := hl i x v e1 e2 e3
    refine ⟨u, r, ?_⟩
    rcases l with l | ⟨kk, c, q, z⟩
    · exact .inl l
    · exact .inr ⟨kk, c, q, cellK c _ z⟩
  · obtain ⟨v, z⟩ := I.cell x c q
    exact ⟨v, cellK c v z⟩
  · obtain ⟨q, n, ne, nf, d⟩ := I.pin p hp
    exact ⟨k p.1 p.2 (grd_get q (nfs p.1 ne nf) fun z => (hns p.1 z).2.2 p hp rfl), n, ne, nf, d⟩
/-- a name of the def is gone -/
theorem Inv.gone (I : Inv X pins σ H s) (hN : X.N.Nodup) {i : Nat} {n : Str} {h' : Heap} {tk : Nat} {m : Str → Option Value} {v : Option Value} (hi : X.N[i]? = some n) (hn : s.heap.Ns X.env.locals m)
    (hn' : h'.Ns X.env.locals (fun x => if x = n then v else m x)) (hs : Heap.SameBut X.env.locals s.heap h') : Inv X pins (σ.set i none) H { s with heap := h', toks := tk } := by
  obtain ⟨m0, hn0, hl⟩ := id I.loc
  have em : m0 = m := by
    funext x
    obtain ⟨o, es, ep, ho, hd, _, hf⟩ := hn0
    obtain ⟨o', es', ep', ho', hd', _, hf'⟩ := hn
    rw [ho] at ho'
    cases ho'
    rw [hd] at hd'
    cases hd'
    rw [← hf, ← hf']
  subst em
  have cne := I.cne
  have hiσ : i < σ.length := by rw [I.len]; exact (List.getElem?_eq_some_iff.mp hi).1
  obtain ⟨oL, _, _, hoL, _⟩ := id hn
  refine ⟨I.ok, I.os, I.bare, ⟨fun b o q n hb hx => ?_, fun b o q n hb hx => ?_, I.base.free, fun b o q hx => ?_, I.base.tups, I.base.frzs, I.base.tbls⟩, ⟨_, hn', fun j y v' e1 e2 e3 => ?_⟩, fun y c q => ?_, I.free, I.freeC, fun p hp => ?_, fun b ob q => ?_, by simpa using I.len⟩
  · exact (hs.2 b (Nat.ne_of_lt (Nat.lt_of_lt_of_le (Heap.lt_size q) I.ok.above))).trans (I.base.keep b o q n hb hx)
  · obtain ⟨sl, e1⟩ := I.base.slot b o q n hb hx
    exact ⟨sl, (hs.2 b (Nat.ne_of_lt (Nat.lt_of_lt_of_le (Heap.lt_size q) I.ok.above))).trans e1⟩
  · obtain ⟨o', e1⟩ := I.base.there b o q hx
    exact ⟨o', (hs.2 b (Nat.ne_of_lt (Nat.lt_of_lt_of_le (Heap.lt_size q) I.ok.above))).trans e1⟩
  · by_cases hj : j = i
    · subst hj
      rw [List.getElem?_set_self hiσ] at e2
      cases e2
    · rw [List.getElem?_set_ne (Ne.symm hj)] at e2
      obtain ⟨u', r', q⟩ := hl j y v' e1 e2 e3
      refine ⟨u', r', ?_⟩
      rcases q with ⟨k, e⟩ | ⟨k, c, e, z⟩
      · refine .inl ⟨k, ?_⟩
        have : y ≠ n := fun e => hj (nodup_ix hN e1 (e ▸ hi))
        simp [this, e]
      · exact .inr ⟨k, c, e, z.sameBut hs (cne y c e)⟩
  · obtain ⟨w', z⟩ := I.cell y c q
    exact ⟨w', z.sameBut hs (cne y c q)⟩
  · obtain ⟨q, n, ne, nf, d⟩ := I.pin p hp
    exact ⟨(hs.2 p.1 ne).trans q, n, ne, nf, d⟩
  · refine (I.hok b ob q).stay (fun c w' hc q' => (hs.2 c ?_).trans q') (fun _ q => q) fun _ _ q => q
    rintro rfl
    rcases hc with z | hc
    · subst z
      rw [I.free] at q; cases q
    · rw [I.free] at hc; cases hc
end
/-! ### the contexts within a try -/
/-- within its body: what is wanted of an exception may hang on the names' values -/
abbrev tryCx (X : Cx) (pins : List (Addr × Obj)) (R : St → XK) : Cx := { X with pn := X.pn ++ pins, xe := fun ev s' => ∃ (σ : St) (H1 : Hp) (s1 : Shared), Inv X pins σ H1 s1 ∧ CXW X.prog X.w X.stack H1 s1 (R σ) ev s' }
/-- within an except suite: the exception stands there -/
abbrev hanCx (X : Cx) (pins : List (Addr × Obj)) (e : Addr) (oe : Obj) : Cx := { X with A := X.A.mark (some (.ref e)), calm := false, pn := X.pn ++ pins ++ [(e, oe)], xe := fun _ _ => False }
section
variable {X : Cx} {pins pins' : List (Addr × Obj)} {σ : St} {H : Hp} {s : Shared} {R : St → XK} {e C : Addr} {oe : Obj}
theorem Inv.inTry (I : Inv X pins σ H s) : Inv (tryCx X pins R) [] σ H s :=
  ⟨⟨I.ok.mod, I.ok.kind, I.ok.glob, I.ok.blt, I.ok.above, I.ok.inj, I.ok.has, I.ok.cab, I.ok.hd, I.ok.frames, I.ok.stk, I.ok.exf, I.ok.bs, I.ok.bsz, I.ok.noex, I.ok.exfs, I.ok.funs, I.ok.frf⟩, I.os, I.bare, I.base, I.loc, I.cell, I.free, I.freeC, fun p hp => I.pin p (by simpa using hp), I.hok, I.len⟩
theorem Inv.outTry (I : Inv (tryCx X pins R) pins' σ H s) : Inv X pins σ H s :=
  ⟨⟨I.ok.mod, I.ok.kind, I.ok.glob, I.ok.blt, I.ok.above, I.ok.inj, I.ok.has, I.ok.cab, I.ok.hd, I.ok.frames, I.ok.stk, I.ok.exf, I.ok.bs, I.ok.bsz, I.ok.noex, I.ok.exfs, I.ok.funs, I.ok.frf⟩, I.os, I.bare, I.base, I.loc, I.cell, I.free, I.freeC, fun p hp => I.pin p (List.mem_append_left _ hp), I.hok, I.len⟩
theorem SP.outTry {D : Ends} {f : Flow} (h : SP (tryCx X pins R) [] D f s) : SP X pins D f s := by
  cases f with
  | next => obtain ⟨σ', H', I, q⟩ := h; exact ⟨σ', H', I.outTry, q⟩
  | brk => obtain ⟨σ', H', I, q⟩ := h; exact ⟨σ', H', I.outTry, q⟩
  | cont => obtain ⟨σ', H', I, q⟩ := h; exact ⟨σ', H', I.outTry, q⟩
  | ret u => obtain ⟨v, σ', H', I, r, q⟩ := h; exact ⟨v, σ', H', I.outTry, r, q⟩
theorem Inv.inHan (I : Inv X pins σ H s) (h1 : s.heap.get? e = some oe) (h2 : H e = none) (h3 : e ≠ X.env.locals) (h4 : e ∉ X.fs) (h5 : ∀ v, oe.data ≠ .cell v) : Inv (hanCx X pins e oe) [] σ H s :=
  ⟨⟨I.ok.mod, I.ok.kind, I.ok.glob, I.ok.blt, I.ok.above, I.ok.inj, I.ok.has, I.ok.cab, (fun z => (nomatch z)), I.ok.frames, I.ok.stk, I.ok.exf, I.ok.bs, I.ok.bsz, I.ok.noex, I.ok.exfs, I.ok.funs, I.ok.frf⟩, I.os, I.bare, I.base, I.loc, I.cell, I.free, I.freeC, fun p hp => by
    rw [List.append_nil] at hp
    rcases List.mem_append.mp hp with z | z
    · exact I.pin p z
    · rw [List.mem_singleton.mp z]; exact ⟨h1, h2, h3, h4, h5⟩, I.hok, I.len⟩
theorem Inv.outHan (hd : X.calm = true → X.A.handled = none) (fr : X.A.frames = some X.stack) (I : Inv (hanCx X pins e oe) pins' σ H s) : Inv X pins σ H s :=
  ⟨⟨I.ok.mod, I.ok.kind, I.ok.glob, I.ok.blt, I.ok.above, I.ok.inj, I.ok.has, I.ok.cab, hd, fr, I.ok.stk, I.ok.exf, I.ok.bs, I.ok.bsz, I.ok.noex, I.ok.exfs, I.ok.funs, I.ok.frf⟩, I.os, I.bare, I.base, I.loc, I.cell, I.free, I.freeC, fun p hp => I.pin p (List.mem_append_left _ (List.mem_append_left _ hp)), I.hok, I.len⟩
end
/-! ### calls that may raise, by what is wanted at these names' values -/
def PassesX (CX : CXT) (X : Cx) (R : St → XK) : Prop := ∀ (pins : List (Addr × Obj)) (σ : St) (H : Hp) (s : Shared) (e : Value) (s' : Shared), Inv X pins σ H s → CX X.stack H s (R σ) e s' → X.xe e s'
theorem pxT {X : Cx} {pins : List (Addr × Obj)} {P : Program} {w : World} {R : St → XK} (hP : P = X.prog := by rfl) (hw : w = X.w := by rfl) : PassesX (CXW P w) (tryCx X pins R) R := by
  subst hP hw
  exact fun _ σ H s _ _ I h => ⟨σ, H, s, I.outTry, h⟩
def tCallX (sp : Sp) (dvs : List V) (R : St → XK) (t : TA) : TE := fun σ H Q => t σ H fun vs H1 => sp (vs ++ dvs) H1 Q (R σ)
section
variable {X : Cx} {CX : CXT} {k : Nat} {f C : Addr} {fd : FuncData} {ps : List Str} {sp : Sp} {dvs : List V} {ds : List Value} {R : St → XK} {x m : Str} {p pos apos : Pos} {e o : Expr} {es : List Expr} {ta : TE} {t : TA}
theorem run_fnX {pins : List (Addr × Obj)} {σ : St} {H : Hp} {s : Shared} {Q : VK} {us : List Value} {vs : List V} (F : FnOk X.prog X.w X.K X.mg X.base CX k f fd ps sp) (hr : Room k X.A) (hb : Binds X.K fd ps ds) (hd : Vals dvs ds) (hx : PassesX CX X R)
    (I : Inv X pins σ H s) (r : Vals vs us) (h : sp (vs ++ dvs) H Q (R σ)) : wpAny (model X.prog X.w) X.A (call (.ref f) us) (EP X pins σ Q) X.xe s := by
  have r2 : Vals (vs ++ dvs) (us ++ ds) := r.append hd
  have hl : (us ++ ds).length = ps.length := by rw [← r2.length]; exact F.len _ _ _ _ h
  refine wpAny_call (codeAny_mono (F.run X.A X.stack s H ⟨us, []⟩ (us ++ ds) (vs ++ dvs) Q (R σ) hr I.env0 (hb s us I.kIn hl) r2 h) fun r s' hq => ?_)
  cases r with
  | error e => exact hx pins σ H s e s' I hq
  | ok fl =>
    cases fl with
    | ret u => exact I.after hq
    | next => exact False.elim hq
    | brk => exact False.elim hq
    | cont => exact False.elim hq
theorem pe_callX (F : FnOk X.prog X.w X.K X.mg X.base CX k f fd ps sp) (hr : Room k X.A) (hg : Gl X x) (hm : X.mg x = some (.ref f)) (hk : PySem.W.keepIn X.K (.ref f) = true) (hb : Binds X.K fd ps ds) (hd : Vals dvs ds) (hx : PassesX CX X R)
    (ha : PA X (e :: es) t) (hdb : (x == ("__debug__" : Str)) = false := by decide) (he : starEach (e :: es) X.env = (false, eval e X.env) :: starEach es X.env := by rfl) (hpl : (backTo pos (starEach es X.env)).any (·.1) = false := by rfl) :
    PE X (.Call (.Name x p) (e :: es) [] pos) (tCallX sp dvs R t) := by
  intro pins s σ H Q I h
  refine wpAny_Call_Name_kw (ld_glob I hg hm ?_ hdb)
  refine PySem.W.callWith_K (h₀ := X.base) I.ok.mod.kin hk (thn (ha pos pins s σ H _ I h) fun us s1 ⟨vs, H1, I1, r, q⟩ => ⟨I1.kIn, ?_⟩) he hpl
  exact run_fnX F hr hb hd hx I1 r q
end
/-! ### the statement -/
def Ends.less (D : Ends) (i : Nat) : Ends := { nx := fun σ H => D.nx (σ.set i none) H, rt := D.rt, bk := fun σ H => D.bk (σ.set i none) H, ct := fun σ H => D.ct (σ.set i none) H }
/-- try: .. except W as n (n in the i-th slot): tb the body's reading, th the suite's, by the exception's address and class -/
def tTry (K : PySem.W.Frag) (W : Addr) (i : Nat) (tb : (St → XK) → TS) (th : Addr → Addr → TS) : TS := fun D σ H =>
  tb (fun σ' c _ H' => ∃ C, c = Value.ref C ∧ PySem.W.exmOne K (.ref C) (.ref W) = some true ∧ ∀ e : Addr, H' e = none → th e C (D.less i) (σ'.set i (some (.ref e))) H') D σ H
theorem ps_try {X : Cx} {W : Addr} {i : Nat} {x n : Str} {np hpos pos : Pos} {body : List Stmt} {b₀ : Stmt} {suite : List Stmt} {tb : (St → XK) → TS} {th : Addr → Addr → TS}
    (hst : X.stack = X.env :: X.outer) (hfr : X.env.frame = some X.env.locals) (hex : X.ex = []) (hN : X.N.Nodup) (hi : X.N[i]? = some n) (hl : X.env.kindOf n = some .local) (hm : X.mg x = some (.ref W)) (hg : Gl X x)
    (hb : ∀ (R : St → XK) (pins : List (Addr × Obj)), PSs (tryCx X pins R) body (tb R)) (hs : ∀ (e C : Addr) (oe : Obj) (pins : List (Addr × Obj)), oe.cls = .ref C → PSs (hanCx X pins e oe) (b₀ :: suite) (th e C)) (hdb : (x == ("__debug__" : Str)) = false := by decide) :
    PS X (.Try body [.ExceptHandler (some (.Name x np)) (some n) (b₀ :: suite) hpos] [] [] pos) (tTry X.K W i tb th) := by
  intro pins s σ H D I h
  refine wpAny_Try_except (wpAny_mono (hb _ pins [] s σ H D I.inTry h) (fun f s1 q => ?_) (fun ev s1 q => ?_))
  · have q := SP.outTry q
    cases f with
    | next => exact wpAny_execs_nil q
    | brk => exact q
    | cont => exact q
    | ret u => exact q
  · obtain ⟨σ1, H1, s0, I0, hcx⟩ := q
    obtain ⟨e, C, H', rfl, J, F, C', eC, hmt, hR⟩ := I0.flown hcx
    cases eC
    have hR := hR e F.free
    obtain ⟨T, a0, fl, nT, fT⟩ := fly_base hst J F
    have hns : ∀ b ∈ [e, T], X.s₀.heap.get? b = none ∧ H' b = none ∧ (∀ p ∈ X.pn ++ pins, p.1 ≠ b) := fun b hb => by
      have key : ∀ b, s0.heap.get? b = none → H' b = none → X.s₀.heap.get? b = none ∧ H' b = none ∧ (∀ p ∈ X.pn ++ pins, p.1 ≠ b) := fun b n0 f0 => ⟨I0.was hex n0, f0, fun p hp z => by
        have := (I0.pin p hp).1
        rw [z, n0] at this
        cases this⟩
      rcases List.mem_cons.mp hb with rfl | hb
      · exact key _ F.new F.free
      · rw [List.mem_singleton.mp hb]; exact key _ nT fT
    rw [hst] at fl
    refine wpAny_looks_onW (by rw [J.ok.frames, hst]) hfr fl fun h₄ held₄ up₄ => ?_
    refine wpAny_landsW held₄ fun h₅ fl₅ up₅' => ?_
    have up₅ := up₄.trans up₅'
    have J₅ : Inv X pins σ1 H' { s1 with heap := h₅ } := J.held (tk := s1.toks) hns fl₅.1 up₅
    obtain ⟨ob, hob, hobc⟩ := fl₅.there
    refine wpAny_handleBy_cons (codeAny_handlers_test (Calls.Name_function_global J₅.ok.kind hg (Calls.loadGlobal_global (by rw [J₅.ok.glob]; exact J₅.mod.glob.keeps J₅.bk) hm ?_) hdb)) (by intro q; cases q)
    have LT : PySem.W.Looks (model X.prog X.w) h₅ (typeOf (.ref e)) (.ref C) := by
      rw [← hobc]
      exact (PySem.W.Looks.ld hob).andThen .now
    refine (PySem.W.exm_one J₅.kIn LT hmt).here ?_
    refine codeAny_handlers_suite_as ?_
    refine lands_againW fl₅ fun h₆ fl₆ up₆ => ?_
    have J₆ : Inv X pins σ1 H' { s1 with heap := h₆ } := J.held (tk := s1.toks) hns fl₆.1 (up₅.trans up₆)
    obtain ⟨oe, ws, hoe, hoec, hoed, hoe0⟩ := fl₆.first
    have neL : e ≠ X.env.locals := fun z => by
      obtain ⟨m, ⟨o', es, ep, ho', hd', _⟩, _⟩ := J₆.loc
      rw [← z] at ho'
      have hoe' : h₆.get? e = some oe := hoe
      have ho'' : h₆.get? e = some o' := ho'
      rw [hoe'] at ho''
      cases ho''
      rw [hoed] at hd'
      cases hd'
    have nfs : e ∉ X.fs := fun z => by
      obtain ⟨_, o', ho', hd⟩ := J₆.funs.mem z
      have hoe' : h₆.get? e = some oe := hoe
      have ho'' : h₆.get? e = some o' := ho'
      rw [hoe'] at ho''
      cases ho''
      exact hd ws hoed
    refine store_ok2 J₆ hN hi (.inl hl) (v := .ref e) rfl (fun s7 J₇ hsb => ?_) (.inr hl)
    obtain ⟨a, hsame, ha⟩ := hsb
    have hea : e ≠ a := by
      rcases ha with rfl | ha
      · exact neL
      · intro z
        obtain ⟨v, o', ho', hd'⟩ := J₆.cell _ _ ha
        rw [← z] at ho'
        have hoe' : h₆.get? e = some oe := hoe
        have ho'' : h₆.get? e = some o' := ho'
        rw [hoe'] at ho''
        cases ho''
        rw [hoed] at hd'
        cases hd'
    have hoe7 : s7.heap.get? e = some oe := (hsame.2 e hea).trans hoe
    have JH := J₇.inHan (oe := oe) hoe7 F.free neL nfs (fun v z => by rw [hoed] at z; cases z)
    refine wpAny_mono (hs e C oe pins hoec [] s7 _ H' (D.less i) JH hR) (fun f s8 q => ?_) fun _ _ z => False.elim z
    have hp : (X.env.scope.kind == .class || (X.env.scope.kind == .module && X.env.locals != X.env.globals)) = false := by rw [J.ok.kind]; rfl
    have fin : ∀ {σ8 : St} {H8 : Hp}, Inv (hanCx X pins e oe) [] σ8 H8 s8 → ∀ {Q : Flow → Shared → Prop}, (∀ s9, Inv X pins (σ8.set i none) H8 s9 → Q f s9) → wpAny (model X.prog X.w) X.A (do bindName X.env n .none; unbindBehindTheSuite X.env n hpos) (fun _ s9 => Q f s9) X.xe s8 := fun {σ8 H8} J8 {Q} k => by
      have J9 := J8.outHan I.ok.hd I.ok.frames
      obtain ⟨m, hn, _⟩ := id J9.loc
      exact wpAny_nameGoes_keeps hl hn hp fun h' v hn' hsm => k _ (J9.gone hN hi hn hn' hsm)
    cases f with
    | next => obtain ⟨σ8, H8, J8, q⟩ := q; exact fin J8 fun s9 J9 => ⟨_, H8, J9, q⟩
    | brk => obtain ⟨σ8, H8, J8, q⟩ := q; exact fin J8 fun s9 J9 => ⟨_, H8, J9, q⟩
    | cont => obtain ⟨σ8, H8, J8, q⟩ := q; exact fin J8 fun s9 J9 => ⟨_, H8, J9, q⟩
    | ret u => obtain ⟨v, σ8, H8, J8, r, q⟩ := q; exact fin J8 fun s9 J9 => ⟨v, _, H8, J9, r, q⟩
end L2

/-! ## isinstance of a caught exception -/
namespace L2
open PySem PySem.Spec PyProof.Rows PySem.W PySem.Calls Builtin Builtin.ObjectAttr Builtin.Getset_descriptor
section
variable {prog : Program} {w : World} {A : Around} {E : Value → Shared → Prop} {K : PySem.W.Frag} {x C : Addr} {ox : Obj}
theorem xc_get {R : Result → Shared → Prop} {s : Shared} {tp : Value} (X : K.In s.heap) (hx : s.heap.get? x = some ox) (hc : ox.cls = .ref C) (hm : mroIn K C (.type "object") = some true)
    (h : R (.ok (.ret (.ref C))) s) : codeAny (model prog w) A (.call (.builtin "getset_descriptor.__get__") ⟨[.builtin "object.__class__", .ref x, tp], []⟩) R s := by
  obtain ⟨hh, g, dr, t, os⟩ := s
  have L0 : Looks (model prog w) hh (typeOf (.ref x)) (.ref C) := by
    rw [← hc]
    exact (Looks.ld hx).andThen .now
  have L1 := looks_mroIn (M := model prog w) X hm
  refine codeAny_call_builtin KF.slot_gs.plain KF.entry_gs (KF.slot_gs.check _ _ _ _ _ _ _ _ KF.type_class (KF.args_gs _ _ _) ?_)
  unfold Builtin.«getset_descriptor.__get__» descrGet
  rw [dga_obj]
  refine wpAny_bind (wpAny_pure ?_)
  unfold descrGetter descrCheckInstance descrNameAndClass isInstance
  simp only [KF.owner_class]
  repeat lk
  refine ⟨Code.quiet_builtin _ (by decide +kernel), codeAny_builtin KF.entry_class ?_⟩
  unfold Builtin.«object.__class__» shownTypeOf
  repeat lk
  exact h
theorem xc_entry {tk : Tok} {Q : Fin → Shared → Prop} {s : Shared} (X : K.In s.heap) (hx : s.heap.get? x = some ox) (hc : ox.cls = .ref C) (c : XCls K C) (hq : Q (.done (.ret (.ref C))) s) :
    wpAny (model prog w) A (Builtin.«object.__getattribute__» ⟨[.ref x, .str "__class__" tk], []⟩) Q E s := by
  obtain ⟨hh, g, dr, t, os⟩ := s
  have L0 : Looks (model prog w) hh (typeOf (.ref x)) (.ref C) := by
    rw [← hc]
    exact (Looks.ld hx).andThen .now
  have L1 := looks_findIn (M := model prog w) X c.cl
  have hT5 : (⟨hh, g, dr, t, os⟩ : Shared).TypeIs (.builtin "object.__class__") "getset_descriptor" := F.typeOf_object_class
  have f5 := F.typeOf_object_class
  have f6 := F.slot_gs_get.lookup
  have f7 := F.slot_gs_set.lookup
  repeat (any_goals (first | assumption | (with_reducible refine L0.at ?_) | (with_reducible refine L1.at ?_) | wp_step))
  refine xc_get (s := ⟨hh, g, dr, t, os⟩) X hx hc c.ob ?_
  exact wpAny_pure hq
theorem xc_check {M : Model} {nameV : Value} {Q : Unit → Shared → Prop} {s : Shared} (X : K.In s.heap) (hx : s.heap.get? x = some ox) (hc : ox.cls = .ref C) (c : XCls K C) (hq : Q () s) :
    wpAny M A (checkBuiltinCall "BaseException.__getattribute__" ⟨[.ref x, nameV], []⟩) Q E s := by
  obtain ⟨hh, g, dr, t, os⟩ := s
  have hk : builtinKind "BaseException.__getattribute__" = some .slot := by decide +kernel
  have hsplit : splitId "BaseException.__getattribute__" = some ("BaseException", "__getattribute__") := by decide +kernel
  have ha := PySem.F.args_bexc_ga (.ref x) nameV
  have L0 : Looks M hh (typeOf (.ref x)) (.ref C) := by
    rw [← hc]
    exact (Looks.ld hx).andThen .now
  have L1 := looks_mroIn (M := M) X c.bx
  simp only [checkBuiltinCall, hk, hsplit]
  refine wpAny_bind ?_
  refine wpAny_bind (L0.at (L1.at ?_))
  repeat (any_goals (first | assumption | wp_step))
theorem xc_call {tk : Tok} {R : Result → Shared → Prop} {s : Shared} (X : K.In s.heap) (hx : s.heap.get? x = some ox) (hc : ox.cls = .ref C) (c : XCls K C) (hq : R (.ok (.ret (.ref C))) s) :
    codeAny (model prog w) A (.call (.builtin "BaseException.__getattribute__") ⟨[.ref x, .str "__class__" tk], []⟩) R s :=
  codeAny_call_builtin PySem.F.attr_ValueError.ga.plain PySem.F.entry_bexc_ga (xc_check X hx hc c (xc_entry X hx hc c hq))
theorem xc_by {tk : Tok} {Q : Value → Shared → Prop} {s : Shared} (X : K.In s.heap) (hx : s.heap.get? x = some ox) (hc : ox.cls = .ref C) (c : XCls K C) (hq : Q (.ref C) s) :
    wpAny (model prog w) A (getAttrBy (.ref x) (.str "__class__" tk) false) Q E s := by
  obtain ⟨hh, g, dr, t, os⟩ := s
  have f3 := PySem.F.attr_ValueError.ga.bind (.ref x)
  have hx2 : (Value.builtin "BaseException.__getattribute__" == Value.builtin "object.__getattribute__") = false := by decide +kernel
  have hx1 : (onTheHeap (Value.ref C) && Value.builtin "BaseException.__getattribute__" == Value.builtin "object.__getattribute__") = false := by rw [hx2]; rfl
  have L0 : Looks (model prog w) hh (typeOf (.ref x)) (.ref C) := by
    rw [← hc]
    exact (Looks.ld hx).andThen .now
  have L1 := looks_findIn (M := model prog w) X c.ga
  have L2 := looks_findIn (M := model prog w) X c.gh
  repeat (any_goals (first | assumption | (with_reducible refine L0.at ?_) | (with_reducible refine L1.at ?_) | (with_reducible refine L2.at ?_) | wp_step))
  refine xc_call (s := ⟨hh, g, dr, t, os⟩) X hx hc c ?_
  repeat (any_goals (first | assumption | wp_step))
theorem xc_attr {Q : Option Value → Shared → Prop} {s : Shared} (X : K.In s.heap) (hx : s.heap.get? x = some ox) (hc : ox.cls = .ref C) (c : XCls K C) (hq : Q (some (.ref C)) { s with toks := s.toks + 1 }) :
    wpAny (model prog w) A (getAttr? (.ref x) "__class__") Q E s := by
  obtain ⟨hh, g, dr, t, os⟩ := s
  unfold getAttr? getAttrBy?
  repeat (any_goals (first | assumption | with_reducible refine xc_by (s := ⟨hh, g, dr, _, os⟩) X hx hc c ?_ | wp_step))
theorem kitx_exc (c : XCls K C) (hcl : (clsIn K C).isSome = true) (hc : ox.cls = .ref C) : KitX K (.ref x) (.ref C) (fun h => h.get? x = some ox) where
  ty := fun _ _ _ hx => by
    rw [← hc]
    exact (Looks.ld hx).andThen .now
  it := fun _ _ X _ => by
    unfold clsIn at hcl
    split at hcl
    · rename_i c' d' cd' sl' ho
      intro A' Q' E' s' k q
      unfold isType loadHead
      exact wpAny_bind (wpAny_loadPart (k _ _ (X _ _ ho)) (wpAny_pure q))
    · cases hcl
  ne := fun h tp dd its n sl X htp => by
    refine Bool.eq_false_iff.mpr fun q => ?_
    have e : C = tp := Value.ref.inj (beq_iff_eq.mp q)
    subst e
    unfold clsIn at hcl
    split at hcl
    · rename_i c' d' cd' sl' ho
      have := X _ _ ho
      rw [htp] at this
      cases this
    · cases hcl
  ca := fun {_ _ _ _ _ s} X hx hq => xc_attr X hx hc c hq
end
theorem XCls.isSome {K : PySem.W.Frag} {C : Addr} (c : XCls K C) : (clsIn K C).isSome = true := by
  have q := c.ex
  unfold excIn at q
  unfold clsIn
  split at q
  · rename_i dd cd sl ho
    rw [ho]
    rfl
  · cases q
section
variable {X : Cx}
/-- isinstance(e, D) of a pinned exception, by what is known of its class -/
theorem call_isiX (K : PySem.W.Frag) {e C : Addr} {oe : Obj} (hp : (e, oe) ∈ X.pn) (hc : oe.cls = .ref C) (h : X.K = K := by rfl) : CallR X (.builtin "isinstance") (fun xs H Q => ∃ (d : V) (u : Value) (b : Bool), xs = [.ref e, d] ∧ (∀ z, RelV d z → z = u) ∧ XCls K C ∧ kitOne K (.ref C) u = some b ∧ Q (.bl b) H) := by
  subst h
  intro pins s σ H xs us Q I r h
  obtain ⟨d, u, b, rfl, hd, c, hk, q⟩ := h
  obtain ⟨u1, v, rfl, ru, rv⟩ := vals_two r
  obtain rfl : u1 = Value.ref e := ru
  obtain rfl := hd v rv
  have hx := (I.pin (e, oe) (List.mem_append_left _ hp)).1
  exact kia_one (kitx_exc c c.isSome hc) I.kIn hx hk (fun z => nomatch z) fun tk => ⟨.bl b, H, I.tok tk, rfl, q⟩
end
end L2

/-! ## f-texts of ints -/
namespace L2
open PySem PySem.Spec PyProof.Rows
theorem log_small {a : Int} (h1 : -(10 ^ 70) < a) (h2 : a < 10 ^ 70) : a.natAbs.log2 < 1920 := by
  have h : a.natAbs < 10 ^ 70 := by omega
  by_cases h0 : a.natAbs = 0
  · rw [h0]; decide
  · exact (Nat.log2_lt h0).mpr (Nat.lt_trans h (by decide))
/-- the parts of an f-text, from the left; n stand ahead -/
def PJ (X : Cx) (es : List Expr) (t : St → Hp → (Hp → Prop) → Prop) : Prop := ∀ (n : Nat) (pins : List (Addr × Obj)) (s : Shared) (σ : St) (H : Hp) (acc : Str) (Q : Hp → Prop), acc.length ≤ 4000 * n → n + es.length ≤ 100 → Inv X pins σ H s → t σ H Q →
  wpAny (model X.prog X.w) X.A (joinParts acc (evalEach es X.env)) (fun v s' => ∃ x tk H', v = Value.str x tk ∧ Inv X pins σ H' s' ∧ Q H') X.xe s
section
variable {X : Cx} {es : List Expr} {e : Expr} {te : TE} {t : St → Hp → (Hp → Prop) → Prop} {pos : Pos}
theorem line4 : 4000 * 100 ≤ sizeLine := by decide
theorem pj_nil : PJ X [] (fun _ H Q => Q H) := fun n pins s σ H acc Q ha hn I h => by
  refine joinParts_nil ⟨acc, _, H, rfl, I.tok _, h⟩ (Nat.le_trans ha (Nat.le_trans (Nat.mul_le_mul_left _ ?_) line4))
  simpa using hn
theorem pj_str {x : Str} {j : Nat} {p : Pos} (hr : PJ X es t) (hz : x.length ≤ 4000 := by decide +kernel) : PJ X (.Constant (.str x) j p :: es) t := fun n pins s σ H acc Q ha hn I h => by
  have hl : (acc ++ x).length = acc.length + x.length := strLen_append ..
  rw [List.length_cons] at hn
  have hb : (acc ++ x).length ≤ 4000 * (n + 1) := by rw [hl]; omega
  refine joinParts_cons (Calls.Constant_str ⟨Nat.le_trans hb (Nat.le_trans (Nat.mul_le_mul_left _ (by omega)) line4), ?_⟩)
  exact hr (n + 1) pins _ σ H _ Q hb (by omega) (I.tok _) h
def jInt (te : TE) (t : St → Hp → (Hp → Prop) → Prop) : St → Hp → (Hp → Prop) → Prop := fun σ H Q => te σ H fun v H1 => ∃ a : Int, v = .int a ∧ -(10 ^ 70) < a ∧ a < 10 ^ 70 ∧ t σ H1 Q
theorem pj_int {p : Pos} (he : PE X e te) (hr : PJ X es t) : PJ X (.FormattedValue e (-1) none p :: es) (jInt te t) := fun n pins s σ H acc Q ha hn I h => by
  rw [List.length_cons] at hn
  refine joinParts_cons (FormattedValue_plain (thn (he pins s σ H _ I h) fun u s1 ⟨v, H1, I1, r, a, ev, a1, a2, q⟩ => ?_))
  subst ev
  obtain ⟨tk, rfl⟩ := r
  have hlog := log_small a1 a2
  have hlen : (Str.ofString (toString a)).length ≤ 4000 := by
    have z := int_text_length_le (k := 1920) (by decide) hlog
    rw [PySem.ofString_length]
    omega
  refine formatField_int_small hlog ?_
  have hl : (acc ++ Str.ofString (toString a)).length = acc.length + (Str.ofString (toString a)).length := strLen_append ..
  have hb : (acc ++ Str.ofString (toString a)).length ≤ 4000 * (n + 1) := by rw [hl]; omega
  refine ⟨Nat.le_trans hb (Nat.le_trans (Nat.mul_le_mul_left _ (by omega)) line4), ?_⟩
  exact hr (n + 1) pins _ σ H1 _ Q hb (by omega) (I1.tok _) q
def tJoin (t : St → Hp → (Hp → Prop) → Prop) : TE := fun σ H Q => t σ H fun H' => ∀ x : Str, Q (.str x) H'
theorem pe_fstr {v₁ v₂ : Expr} {rest : List Expr} (h : PJ X (v₁ :: v₂ :: rest) t) (hn : (v₁ :: v₂ :: rest).length ≤ 100 := by decide) : PE X (.JoinedStr (v₁ :: v₂ :: rest) pos) (tJoin t) := fun pins s σ H Q I hq =>
  JoinedStr_many (thn (h 0 pins s σ H Str.empty _ (by decide) (by simpa using hn) I hq) fun u s1 ⟨x, tk, H1, eu, I1, q⟩ => by
    subst eu
    exact ⟨.str x, H1, I1, ⟨tk, rfl⟩, q x⟩)
end
end L2

namespace L2
open PySem PySem.Spec PyProof.Rows
end L2

/-! ## lists of ints: slices, sums of lists -/
namespace My
open PySem L2
end My

/-! ## what the laws share: the web made, the number of turns -/
namespace My
open PySem L2
theorem xI {α : Type} {p : α → Prop} {w : α} (h : p w) : ∃ x, p x := ⟨w, h⟩
/-- max(1, min(len(script), k)) as the reading gives it -/
theorem turns_ok (n k : Nat) (hn : n ≤ 63) (hk : k ≤ 63) : -(2 ^ 62) ≤ (if (if (k : Int) < (n : Int) then (k : Int) else (n : Int)) > 1 then (if (k : Int) < (n : Int) then (k : Int) else (n : Int)) else 1) ∧
    (if (if (k : Int) < (n : Int) then (k : Int) else (n : Int)) > 1 then (if (k : Int) < (n : Int) then (k : Int) else (n : Int)) else 1) < 2 ^ 62 := by
  split <;> split <;> omega
theorem turns_lo {ns : List Int} {k : Nat} (hn : ns.length ≤ 63) (hk : k ≤ 63) : -(2 ^ 62) ≤ (if (if (k : Int) < ((IL ns).length : Int) then (k : Int) else ((IL ns).length : Int)) > 1 then (if (k : Int) < ((IL ns).length : Int) then (k : Int) else ((IL ns).length : Int)) else 1) := by
  rw [il_length]; exact (turns_ok _ _ hn hk).1
theorem turns_hi {ns : List Int} {k : Nat} (hn : ns.length ≤ 63) (hk : k ≤ 63) : (if (if (k : Int) < ((IL ns).length : Int) then (k : Int) else ((IL ns).length : Int)) > 1 then (if (k : Int) < ((IL ns).length : Int) then (k : Int) else ((IL ns).length : Int)) else 1) < 2 ^ 62 := by
  rw [il_length]; exact (turns_ok _ _ hn hk).2
end My

/-! ## sorted(ints), reversed(list), list(reversed(list)) -/
namespace L2
open PySem PySem.Spec PyProof.Rows
section
variable {X : Cx}
end
/-! ### reversed(list) -/
section
variable {X : Cx}
section
variable {prog : Program} {w : World} {A : Around} {E : Value → Shared → Prop} {s : Shared} {it a : Addr} {items : Array Value}
end
end
section
variable {X : Cx} {p p2 pos pos2 : Pos} {e : Expr} {t : TA}
end
end L2

/-! ## sets of ties: ascending lists -/
namespace My
open PySem L2
theorem isSet_iff {m : Nat} {ns : List Int} : IsSet m ns ↔ (∀ z ∈ ns, 0 ≤ z ∧ z < (m : Int)) ∧ ns.Pairwise (· < ·) := by
  constructor
  · intro h
    refine ⟨h.all, ?_⟩
    rw [List.pairwise_iff_getElem]
    intro i j hi hj hij
    induction j with
    | zero => exact absurd hij (Nat.not_lt_zero i)
    | succ j ih =>
      have hj' : j < ns.length := by omega
      have key := (h (j + 1) ns[j + 1] (List.getElem?_eq_getElem hj)).2.2 ns[j] (by omega) (by rw [Nat.add_sub_cancel]; exact List.getElem?_eq_getElem hj')
      by_cases e : i = j
      · subst e; exact key
      · have := ih hj' (by omega)
        omega
  · rintro ⟨ha, hp⟩ i z hz
    obtain ⟨hi, ei⟩ := List.getElem?_eq_some_iff.mp hz
    have hm := ha z (List.mem_of_getElem? hz)
    refine ⟨hm.1, hm.2, fun y h0 hy => ?_⟩
    obtain ⟨hi', ei'⟩ := List.getElem?_eq_some_iff.mp hy
    have := List.pairwise_iff_getElem.mp hp (i - 1) i hi' hi (by omega)
    rw [ei, ei'] at this
    exact this
theorem lt_nodup {ns : List Int} (h : ns.Pairwise (· < ·)) : ns.Nodup := h.imp fun hab e => by omega
theorem IsSet.nodup {m : Nat} {ns : List Int} (h : IsSet m ns) : ns.Nodup := lt_nodup (isSet_iff.mp h).2
end My

/-! ## joined places: the closure of the ties; how many pieces there are -/
namespace My
theorem snoc_ind {α : Type} {P : List α → Prop} (h0 : P []) (h1 : ∀ l x, P l → P (l ++ [x])) : ∀ l, P l := by
  intro l
  rw [← List.reverse_reverse l]
  induction l.reverse with
  | nil => exact h0
  | cons x r ih =>
    rw [List.reverse_cons]
    exact h1 _ _ ih
/-- two places are joined over ties -/
inductive Conn (es : List (Nat × Nat)) : Nat → Nat → Prop
  | refl (i : Nat) : Conn es i i
  | edge {a b : Nat} (h : (a, b) ∈ es) : Conn es a b
  | symm {i j : Nat} : Conn es i j → Conn es j i
  | trans {i j k : Nat} : Conn es i j → Conn es j k → Conn es i k
theorem Conn.mono {es fs : List (Nat × Nat)} (h : ∀ e ∈ es, e ∈ fs) {i j : Nat} (c : Conn es i j) : Conn fs i j := by
  induction c with
  | refl i => exact .refl i
  | edge q => exact .edge (h _ q)
  | symm _ ih => exact .symm ih
  | trans _ _ i1 i2 => exact .trans i1 i2
theorem mk_range {n i : Nat} (h : i < n) : mk ((List.range n).map fun (i : Nat) => (i : Int)) i = (i : Int) := by
  rw [mk_map' h]
where
  mk_map' {n i : Nat} (h : i < n) : mk ((List.range n).map fun (i : Nat) => (i : Int)) i = (i : Int) := by
    simp [mk, List.getD_eq_getElem?_getD, List.getElem?_map, List.getElem?_range h]
def InN (n : Nat) (es : List (Nat × Nat)) : Prop := ∀ e ∈ es, e.1 < n ∧ e.2 < n
theorem InN.snoc {n : Nat} {es : List (Nat × Nat)} {e : Nat × Nat} (h : InN n (es ++ [e])) : InN n es ∧ e.1 < n ∧ e.2 < n := ⟨fun x hx => h x (List.mem_append_left _ hx), h e (by simp)⟩
theorem lms_edge {n : Nat} : ∀ es : List (Nat × Nat), InN n es → ∀ e ∈ es, mk (lms n es) e.1 = mk (lms n es) e.2 := by
  refine snoc_ind (fun _ e h => by cases h) fun es x ih hn e he => ?_
  obtain ⟨h1, h2, h3⟩ := hn.snoc
  have hl := lms_length n es
  have hx := hn e he
  rw [lms_snoc]
  refine (lm_iff (by omega) (by omega)).mpr ?_
  rcases List.mem_append.mp he with q | q
  · exact .inl (ih h1 e q)
  · rw [List.mem_singleton.mp q]
    exact .inr ⟨.inl rfl, .inr rfl⟩
theorem lms_conn {n : Nat} : ∀ es : List (Nat × Nat), InN n es → ∀ i j, i < n → j < n → mk (lms n es) i = mk (lms n es) j → Conn es i j := by
  refine snoc_ind (fun _ i j hi hj h => ?_) fun es x ih hn i j hi hj h => ?_
  · have h : mk ((List.range n).map fun (i : Nat) => (i : Int)) i = mk ((List.range n).map fun (i : Nat) => (i : Int)) j := h
    rw [mk_range hi, mk_range hj] at h
    have : i = j := by omega
    subst this
    exact .refl i
  · obtain ⟨h1, h2, h3⟩ := hn.snoc
    have hl := lms_length n es
    have up : ∀ {i j : Nat}, Conn es i j → Conn (es ++ [x]) i j := fun c => c.mono fun e he => List.mem_append_left _ he
    have ex : Conn (es ++ [x]) x.1 x.2 := .edge (by simp)
    rw [lms_snoc] at h
    rcases (lm_iff (by omega) (by omega)).mp h with q | ⟨q1, q2⟩
    · exact up (ih h1 i j hi hj q)
    · have ci : Conn (es ++ [x]) i x.1 := by
        rcases q1 with q | q
        · exact up (ih h1 i _ hi h2 q)
        · exact (up (ih h1 i _ hi h3 q)).trans ex.symm
      have cj : Conn (es ++ [x]) j x.1 := by
        rcases q2 with q | q
        · exact up (ih h1 j _ hj h2 q)
        · exact (up (ih h1 j _ hj h3 q)).trans ex.symm
      exact ci.trans cj.symm
theorem conn_lms {n : Nat} {es : List (Nat × Nat)} (hn : InN n es) {i j : Nat} (c : Conn es i j) : i = j ∨ (i < n ∧ j < n ∧ mk (lms n es) i = mk (lms n es) j) := by
  induction c with
  | refl i => exact .inl rfl
  | edge q => exact .inr ⟨(hn _ q).1, (hn _ q).2, lms_edge es hn _ q⟩
  | symm _ ih =>
    rcases ih with e | ⟨a, b, c⟩
    · exact .inl e.symm
    · exact .inr ⟨b, a, c.symm⟩
  | trans _ _ i1 i2 =>
    rcases i1 with e | ⟨a, b, c⟩
    · rw [e]; exact i2
    · rcases i2 with e | ⟨a', b', c'⟩
      · rw [← e]; exact .inr ⟨a, b, c⟩
      · exact .inr ⟨a, b', c.trans c'⟩
theorem lms_iff {n : Nat} {es : List (Nat × Nat)} (hn : InN n es) {i j : Nat} (hi : i < n) (hj : j < n) : mk (lms n es) i = mk (lms n es) j ↔ Conn es i j := by
  constructor
  · exact lms_conn es hn i j hi hj
  · intro c
    rcases conn_lms hn c with e | ⟨_, _, e⟩
    · rw [e]
    · exact e
/-! ### how many pieces -/
def cnt (M : List Int) : Nat := (fstA M M.length).length
theorem fst_ex (M : List Int) {i : Nat} : ∃ p, p ≤ i ∧ mk M p = mk M i ∧ fstB M p = true := by
  induction i using Nat.strongRecOn with
  | ind i ih =>
    by_cases h : fstB M i = true
    · exact ⟨i, Nat.le_refl _, rfl, h⟩
    · have : ∃ j, j < i ∧ mk M j = mk M i := by
        by_cases q : ∃ j, j < i ∧ mk M j = mk M i
        · exact q
        · exact absurd (fstB_iff.mpr fun j hj e => q ⟨j, hj, e⟩) h
      obtain ⟨j, hj, e⟩ := this
      obtain ⟨p, h1, h2, h3⟩ := ih j hj
      exact ⟨p, by omega, h2.trans e, h3⟩
theorem count_less {p q : Nat → Bool} {x n : Nat} (hx : x < n) (hpx : p x = true) (h : ∀ y, y < n → q y = (p y && !decide (y = x))) : ((List.range n).filter q).length + 1 = ((List.range n).filter p).length := by
  induction n with
  | zero => exact absurd hx (Nat.not_lt_zero x)
  | succ n ih =>
    rw [List.range_succ, List.filter_append, List.filter_append, List.length_append, List.length_append]
    by_cases e : x = n
    · subst e
      have e1 : (List.range x).filter q = (List.range x).filter p := List.filter_congr fun y hy => by
        have hy := List.mem_range.mp hy
        rw [h y (by omega), show decide (y = x) = false from decide_eq_false (by omega)]
        simp
      have e2 : q x = false := by rw [h x (by omega)]; simp
      rw [e1]
      simp [List.filter_cons, e2, hpx]
    · have hq : q n = p n := by rw [h n (by omega), show decide (n = x) = false from decide_eq_false (fun z => e z.symm)]; simp
      have := ih (by omega) fun y hy => h y (by omega)
      simp only [List.filter_cons, List.filter_nil, hq]
      omega
theorem fst_uniq {M : List Int} {p q : Nat} (hp : fstB M p = true) (hq : fstB M q = true) (e : mk M p = mk M q) : p = q := by
  rcases Nat.lt_trichotomy p q with h | h | h
  · exact absurd e (fstB_iff.mp hq p h)
  · exact h
  · exact absurd e.symm (fstB_iff.mp hp q h)
theorem cnt_step {m : List Int} {a b : Nat} (ha : a < m.length) (hb : b < m.length) (hne : mk m a ≠ mk m b) : cnt (lm m a b) + 1 = cnt m := by
  obtain ⟨A, hA1, hA2, hA3⟩ := fst_ex m (i := a)
  obtain ⟨B, hB1, hB2, hB3⟩ := fst_ex m (i := b)
  have hAB : A ≠ B := fun e => hne (by rw [← hA2, ← hB2, e])
  unfold cnt fstA
  rw [lm_length]
  refine count_less (x := max A B) (by omega) ?_ fun y hy => ?_
  · rcases Nat.le_total A B with h | h
    · rw [Nat.max_eq_right h]; exact hB3
    · rw [Nat.max_eq_left h]; exact hA3
  · rw [Bool.eq_iff_iff, Bool.and_eq_true, fstB_iff, fstB_iff]
    have key : ∀ i, i < y → (mk (lm m a b) i = mk (lm m a b) y ↔ Mrg m a b i y) := fun i hi => lm_iff (by omega) hy
    have nmax : (!decide (y = max A B)) = true ↔ y ≠ max A B := by simp
    rw [nmax]
    constructor
    · intro q
      refine ⟨fun i hi e => q i hi ((key i hi).mpr (.inl e)), fun e => ?_⟩
      -- the other one is ahead
      rcases Nat.lt_or_gt_of_ne hAB with h | h
      · have ey : y = B := by omega
        subst ey
        exact q A h ((key A h).mpr (.inr ⟨.inl hA2, .inr hB2⟩))
      · have ey : y = A := by omega
        subst ey
        exact q B h ((key B h).mpr (.inr ⟨.inr hB2, .inl hA2⟩))
    · rintro ⟨q1, q2⟩ i hi e
      rcases (key i hi).mp e with e | ⟨e1, e2⟩
      · exact q1 i hi e
      · have fy : fstB m y = true := fstB_iff.mpr q1
        rcases e2 with e2 | e2
        · have ey : y = A := fst_uniq fy hA3 (e2.trans hA2.symm)
          rcases e1 with e1 | e1
          · exact q1 i hi (e1.trans e2.symm)
          · obtain ⟨p, p1, p2, p3⟩ := fst_ex m (i := i)
            have : p = B := fst_uniq p3 hB3 (by rw [p2, e1, hB2])
            omega
        · have ey : y = B := fst_uniq fy hB3 (e2.trans hB2.symm)
          rcases e1 with e1 | e1
          · obtain ⟨p, p1, p2, p3⟩ := fst_ex m (i := i)
            have : p = A := fst_uniq p3 hA3 (by rw [p2, e1, hA2])
            omega
          · exact q1 i hi (e1.trans e2.symm)
theorem cnt_range (n : Nat) : cnt ((List.range n).map fun (i : Nat) => (i : Int)) = n := by
  unfold cnt fstA
  rw [List.length_map, List.length_range]
  have e : (List.range n).filter (fstB ((List.range n).map fun (i : Nat) => (i : Int))) = List.range n := by
    refine List.filter_eq_self.mpr fun p hp => fstB_iff.mpr fun i hi e => ?_
    have hp := List.mem_range.mp hp
    rw [mk_range (by omega), mk_range hp] at e
    omega
  rw [e, List.length_range]
theorem cnt_one {M : List Int} (hM : 1 ≤ M.length) : cnt M = 1 ↔ ∀ i j, i < M.length → j < M.length → mk M i = mk M j := by
  have e : cnt M = (grp M).length := by
    unfold cnt grp
    rw [grpA_eq, List.length_map]
  rw [e]
  exact grp_one hM
end My

/-! ## trees -/
namespace My
open PySem L2
def IsTree (n : Int) (ps : List (Int × Int)) (ns : List Int) : Prop := IsSet ps.length ns ∧ (ns.length : Int) = n - 1 ∧ ∀ i j, i < n.toNat → j < n.toNat → Conn (endsOf ps ns) i j
theorem ends_in {n : Int} {ps : List (Int × Int)} {ns : List Int} (g : GoodW n ps) (h : ∀ z ∈ ns, 0 ≤ z ∧ z < (ps.length : Int)) : InN n.toNat (endsOf ps ns) := fun e he => by
  obtain ⟨z, hz, rfl⟩ := List.mem_map.mp he
  obtain ⟨z0, z1⟩ := h z hz
  have hp : ps[z.toNat]? = some (ps[z.toNat]'(by omega)) := List.getElem?_eq_getElem _
  rw [getD_of hp]
  obtain ⟨b1, b2, b3, b4⟩ := g.2.2.2 _ (List.mem_of_getElem? hp)
  exact ⟨by omega, by omega⟩
theorem ends_sub {ps : List (Int × Int)} {ns ms : List Int} (h : ∀ z ∈ ns, z ∈ ms) : ∀ e ∈ endsOf ps ns, e ∈ endsOf ps ms := fun e he => by
  obtain ⟨z, hz, rfl⟩ := List.mem_map.mp he
  exact List.mem_map.mpr ⟨z, h z hz, rfl⟩
/-- all places have one mark -/
theorem one_conn {n : Nat} {es : List (Nat × Nat)} (h : InN n es) : (∀ i j, i < (lms n es).length → j < (lms n es).length → mk (lms n es) i = mk (lms n es) j) ↔ ∀ i j, i < n → j < n → Conn es i j := by
  rw [lms_length]
  constructor
  · intro q i j hi hj; exact (lms_iff h hi hj).mp (q i j hi hj)
  · intro q i j hi hj; exact (lms_iff h hi hj).mpr (q i j hi hj)
theorem conn_perm {ps : List (Int × Int)} {ns ms : List Int} (h : ∀ z, z ∈ ns ↔ z ∈ ms) {i j : Nat} : Conn (endsOf ps ns) i j ↔ Conn (endsOf ps ms) i j :=
  ⟨fun c => c.mono (ends_sub fun z hz => (h z).mp hz), fun c => c.mono (ends_sub fun z hz => (h z).mpr hz)⟩
end My

/-! ## comprehensions over enumerate; cuts -/
namespace My
open PySem L2
section
variable {K : PySem.W.Frag} {a : Addr} {xs : List V} {g : TG} {tt : TT} {te : TE} {o : Nat} {fr : List Nat} {σ : St} {H : Hp} {Q : VK}
end
/-- the numbers of the ties whose ends have unlike marks -/
def unlike (M : List Int) (ps : List (Int × Int)) (i : Nat) : List Int := ((List.range i).filter fun k => decide (mk M (ps.getD k (0, 0)).1.toNat ≠ mk M (ps.getD k (0, 0)).2.toNat)).map fun (k : Nat) => (k : Int)
/-- the ties other than one -/
def wo (ns : List Int) (z : Int) : List Int := ns.filter fun y => decide (y ≠ z)
theorem wo_mem {ns : List Int} {z y : Int} : y ∈ wo ns z ↔ y ∈ ns ∧ y ≠ z := by unfold wo; rw [List.mem_filter]; simp
end My

/-! ## rings -/
namespace My
open PySem L2
/-- the ties of a tree whose cut has the tie -/
def ringA (n : Int) (ps : List (Int × Int)) (ns : List Int) (z : Int) (l : List Int) : List Int := l.filter fun y => decide (z ∈ unlike (lms n.toNat (endsOf ps (wo ns y))) ps ps.length)
theorem unlike_mem {M : List Int} {ps : List (Int × Int)} {z : Int} (h0 : 0 ≤ z) (h1 : z < (ps.length : Int)) : z ∈ unlike M ps ps.length ↔ mk M (ps.getD z.toNat (0, 0)).1.toNat ≠ mk M (ps.getD z.toNat (0, 0)).2.toNat := by
  unfold unlike
  rw [List.mem_map]
  constructor
  · rintro ⟨k, hk, rfl⟩
    have := of_decide_eq_true (List.mem_filter.mp hk).2
    rw [Int.toNat_natCast]
    exact this
  · intro h
    exact ⟨z.toNat, List.mem_filter.mpr ⟨List.mem_range.mpr (by omega), decide_eq_true h⟩, by omega⟩
end My

/-! ## sorted(tuple of ints) -/
namespace L2
open PySem PySem.Spec PyProof.Rows
section
variable {prog : Program} {w : World} {A : Around} {E : Value → Shared → Prop} {s : Shared}
end
section
variable {X : Cx}
end
end L2

/-! ## t + u, either may be empty -/
namespace L2
open PySem PySem.Spec PyProof.Rows
section
variable {X : Cx}
end
end L2

/-! ## exchanges -/
namespace My
open PySem L2
theorem lm_id {m : List Int} {a b : Nat} (h : mk m a = mk m b) : lm m a b = m := by unfold lm; rw [if_neg (fun z => z h)]
theorem cnt_less {m : List Int} {a b : Nat} (ha : a < m.length) (hb : b < m.length) : cnt m ≤ cnt (lm m a b) + 1 := by
  by_cases e : mk m a = mk m b
  · rw [lm_id e]; omega
  · have := cnt_step ha hb e; omega
theorem cnt_lms {n : Nat} : ∀ es : List (Nat × Nat), InN n es → n ≤ cnt (lms n es) + es.length := by
  refine snoc_ind (fun _ => ?_) fun es x ih hn => ?_
  · have : cnt (lms n []) = n := cnt_range n
    omega
  · obtain ⟨h1, h2, h3⟩ := hn.snoc
    have hl := lms_length n es
    have := cnt_less (m := lms n es) (a := x.1) (b := x.2) (by omega) (by omega)
    have := ih h1
    rw [lms_snoc, List.length_append, List.length_cons, List.length_nil]
    omega
theorem cnt_pos {M : List Int} (h : 1 ≤ M.length) : 1 ≤ cnt M := by
  unfold cnt fstA
  refine List.length_pos_of_mem (a := 0) (List.mem_filter.mpr ⟨List.mem_range.mpr (by omega), fstB_iff.mpr fun i hi => absurd hi (Nat.not_lt_zero i)⟩)
theorem cnt_conn {n : Nat} {es : List (Nat × Nat)} (hn : 1 ≤ n) (h : InN n es) : cnt (lms n es) = 1 ↔ ∀ i j, i < n → j < n → Conn es i j := by
  rw [cnt_one (by rw [lms_length]; exact hn)]
  exact one_conn h
/-- an item once in a row -/
theorem wo_length {ts : List Int} {o : Int} (hn : ts.Nodup) (ho : o ∈ ts) : (wo ts o).length + 1 = ts.length := by
  induction ts with
  | nil => cases ho
  | cons x r ih =>
    obtain ⟨h1, h2⟩ := List.nodup_cons.mp hn
    unfold wo
    rw [List.filter_cons]
    by_cases e : x = o
    · subst e
      rw [if_neg (by simp)]
      have : r.filter (fun y => decide (y ≠ x)) = r := List.filter_eq_self.mpr fun y hy => decide_eq_true fun e => h1 (e ▸ hy)
      rw [this]; rfl
    · rw [if_pos (decide_eq_true e)]
      have := ih h2 ((List.mem_cons.mp ho).resolve_left fun z => e z.symm)
      unfold wo at this
      rw [List.length_cons, List.length_cons]
      omega
/-- the ends of a tie -/
def endOf (ps : List (Int × Int)) (z : Int) : Nat × Nat := ((ps.getD z.toNat (0, 0)).1.toNat, (ps.getD z.toNat (0, 0)).2.toNat)
theorem ends_snoc (ps : List (Int × Int)) (ns : List Int) (z : Int) : endsOf ps (ns ++ [z]) = endsOf ps ns ++ [endOf ps z] := by unfold endsOf endOf; rw [List.map_append]; rfl
theorem end_in {n : Int} {ps : List (Int × Int)} {z : Int} (g : GoodW n ps) (z0 : 0 ≤ z) (z1 : z < (ps.length : Int)) : (endOf ps z).1 < n.toNat ∧ (endOf ps z).2 < n.toNat := by
  have := ends_in (ns := [z]) g (fun y hy => by rw [List.mem_singleton.mp hy]; exact ⟨z0, z1⟩)
  exact this (endOf ps z) (by unfold endsOf endOf; simp)
theorem wo_all {n : Int} {ps : List (Int × Int)} {ts : List Int} {o : Int} (hT : IsTree n ps ts) : ∀ y ∈ wo ts o, 0 ≤ y ∧ y < (ps.length : Int) := fun y hy => hT.1.all y (wo_mem.mp hy).1
/-- a tree with one tie for another is joined where the other one's ends are in two pieces without the one -/
theorem exch {n : Int} {ps : List (Int × Int)} {ts : List Int} {o z : Int} (g : GoodW n ps) (hT : IsTree n ps ts) (ho : o ∈ ts) (z0 : 0 ≤ z) (z1 : z < (ps.length : Int)) :
    (∀ i j, i < n.toNat → j < n.toNat → Conn (endsOf ps (wo ts o ++ [z])) i j) ↔ ¬ Conn (endsOf ps (wo ts o)) (endOf ps z).1 (endOf ps z).2 := by
  have hn : 1 ≤ n.toNat := by have := g.1; omega
  have hw := wo_length hT.1.nodup ho
  have hl : (ts.length : Int) = n - 1 := hT.2.1
  have i0 : InN n.toNat (endsOf ps (wo ts o)) := ends_in g (wo_all hT)
  have hz := end_in g z0 z1
  have ob := hT.1.all o ho
  have hoe := end_in g ob.1 ob.2
  have i1 : InN n.toNat (endsOf ps (wo ts o) ++ [endOf ps z]) := fun e he => (List.mem_append.mp he).elim (i0 e) fun q => by rw [List.mem_singleton.mp q]; exact hz
  have i2 : InN n.toNat (endsOf ps (wo ts o) ++ [endOf ps o]) := fun e he => (List.mem_append.mp he).elim (i0 e) fun q => by rw [List.mem_singleton.mp q]; exact hoe
  have hL := lms_length n.toNat (endsOf ps (wo ts o))
  have le : (endsOf ps (wo ts o)).length = (wo ts o).length := by unfold endsOf; rw [List.length_map]
  rw [ends_snoc]
  constructor
  · intro hc c
    have h1 : cnt (lms n.toNat (endsOf ps (wo ts o) ++ [endOf ps z])) = 1 := (cnt_conn hn i1).mpr hc
    rw [lms_snoc, lm_id ((lms_iff i0 hz.1 hz.2).mpr c)] at h1
    have := cnt_lms _ i0
    omega
  · intro hc
    have h2 : cnt (lms n.toNat (endsOf ps (wo ts o) ++ [endOf ps o])) = 1 := by
      refine (cnt_conn hn i2).mpr fun i j hi hj => ?_
      rw [← ends_snoc]
      refine (conn_perm fun y => ?_).mp (hT.2.2 i j hi hj)
      rw [List.mem_append, wo_mem, List.mem_singleton]
      constructor
      · intro hy
        by_cases e : y = o
        · exact .inr e
        · exact .inl ⟨hy, e⟩
      · rintro (q | q)
        · exact q.1
        · rw [q]; exact ho
    rw [lms_snoc] at h2
    have h3 := cnt_less (m := lms n.toNat (endsOf ps (wo ts o))) (a := (endOf ps o).1) (b := (endOf ps o).2) (by omega) (by omega)
    have h4 := cnt_step (m := lms n.toNat (endsOf ps (wo ts o))) (a := (endOf ps z).1) (b := (endOf ps z).2) (by omega) (by omega) (fun e => hc ((lms_iff i0 hz.1 hz.2).mp e))
    have h5 := cnt_pos (M := lm (lms n.toNat (endsOf ps (wo ts o))) (endOf ps z).1 (endOf ps z).2) (by rw [lm_length]; omega)
    refine (cnt_conn hn i1).mp ?_
    rw [lms_snoc]
    omega
/-- the cut of a tie of a tree -/
def cutT (n : Int) (ps : List (Int × Int)) (ts : List Int) (o : Int) : List Int := unlike (lms n.toNat (endsOf ps (wo ts o))) ps ps.length
theorem unlike_bnd {M : List Int} {ps : List (Int × Int)} {i : Nat} {z : Int} (h : z ∈ unlike M ps i) : 0 ≤ z ∧ z < (i : Int) := by
  unfold unlike at h
  obtain ⟨k, hk, rfl⟩ := List.mem_map.mp h
  have := List.mem_range.mp (List.mem_filter.mp hk).1
  omega
theorem cutT_mem {n : Int} {ps : List (Int × Int)} {ts : List Int} {o z : Int} (g : GoodW n ps) (hT : IsTree n ps ts) (z0 : 0 ≤ z) (z1 : z < (ps.length : Int)) : z ∈ cutT n ps ts o ↔ ¬ Conn (endsOf ps (wo ts o)) (endOf ps z).1 (endOf ps z).2 := by
  have hz := end_in g z0 z1
  unfold cutT
  rw [unlike_mem z0 z1]
  exact not_congr (lms_iff (ends_in g (wo_all hT)) hz.1 hz.2)
def exg (n : Int) (ps : List (Int × Int)) (ts : List Int) (o z : Int) : Prop := o ∈ ts ∧ z ≠ o ∧ z ∈ cutT n ps ts o
instance (n : Int) (ps : List (Int × Int)) (ts : List Int) (o z : Int) : Decidable (exg n ps ts o z) := by unfold exg; infer_instance
theorem exg_iff {n : Int} {ps : List (Int × Int)} {ts : List Int} {o z : Int} (g : GoodW n ps) (hT : IsTree n ps ts) :
    exg n ps ts o z ↔ o ∈ ts ∧ z ∉ ts ∧ 0 ≤ z ∧ z < (ps.length : Int) ∧ ∀ i j, i < n.toNat → j < n.toNat → Conn (endsOf ps (wo ts o ++ [z])) i j := by
  constructor
  · rintro ⟨h1, h2, h3⟩
    obtain ⟨z0, z1⟩ := unlike_bnd h3
    have hc := (cutT_mem g hT z0 z1).mp h3
    refine ⟨h1, fun hz => hc ?_, z0, z1, (exch g hT h1 z0 z1).mpr hc⟩
    refine .edge ?_
    exact List.mem_map.mpr ⟨z, wo_mem.mpr ⟨hz, h2⟩, rfl⟩
  · rintro ⟨h1, h2, z0, z1, hc⟩
    exact ⟨h1, fun e => h2 (e ▸ h1), (cutT_mem g hT z0 z1).mpr ((exch g hT h1 z0 z1).mp hc)⟩
/-! ### the list of exchanges -/
end My

/-! ## lists of pairs, a list changed -/
namespace My
open PySem L2
theorem PairsV.mut {H : Hp} {l : Addr} {ys zs xs : List V} {ps : List (Int × Int)} (hP : PairsV H xs ps) (hl : H l = some (.lst ys)) : PairsV (upd H l (.lst zs)) xs ps := by
  refine ⟨hP.1, fun j p e => ?_⟩
  obtain ⟨v, e1, tt, e2, e3⟩ := hP.2 j p e
  exact ⟨v, e1, tt, e2, by rw [upd_ne (ne_of e3 hl (fun z => nomatch z))]; exact e3⟩
end My

/-! ## list(reversed(tuple)) -/
namespace L2
open PySem PySem.Spec PyProof.Rows
/-! ### the iterator of reversed(tuple) -/
def IsRv (h : Heap) (r l : Addr) (i : Int) : Prop := ∃ o, h.get? r = some o ∧ o.cls = .type "reversed" ∧ o.data = .fields #[.ref l, rawInt i]
theorem IsRv.keep {h h' : Heap} {r l : Addr} {i : Int} (x : IsRv h r l i) (e : ∀ o, h.get? r = some o → h'.get? r = some o) : IsRv h' r l i := let ⟨o, a, b⟩ := x; ⟨o, e _ a, b⟩
section
variable {prog : Program} {w : World} {A : Around} {E : Value → Shared → Prop} {s : Shared}
end
section
variable {prog : Program} {w : World} {A : Around} {E : Value → Shared → Prop} {s : Shared} {it a : Addr} {items : Array Value}
end
section
variable {X : Cx} {p p2 pos pos2 : Pos} {e : Expr} {t : TA}
end
end L2

/-! ## t[lo:hi], also the whole -/
namespace L2
open PySem PySem.Spec PyProof.Rows
section
variable {prog : Program} {w : World} {A : Around} {E : Value → Shared → Prop} {s : Shared}
end
section
variable {X : Cx}
end
end L2

/-! ## tuples of ints: slices -/
namespace My
open PySem L2
end My

/-! ## x in a list of objects, by what they hold -/
namespace L2
open PySem PySem.Spec PyProof.Rows
section
variable {X : Cx}
end
end L2
namespace My
open PySem L2
end My

/-! ## rings and cuts of a tree, and behind an exchange -/
namespace My
open PySem L2
/-- of the tree's own ties only the one that is left out is in the cut -/
theorem cut_own {n : Int} {ps : List (Int × Int)} {ts : List Int} {o y : Int} (g : GoodW n ps) (hT : IsTree n ps ts) (ho : o ∈ ts) (hy : y ∈ ts) : y ∈ cutT n ps ts o ↔ y = o := by
  have yb := hT.1.all y hy
  rw [cutT_mem g hT yb.1 yb.2]
  constructor
  · intro h
    by_cases e : y = o
    · exact e
    · exact absurd (.edge (List.mem_map.mpr ⟨y, wo_mem.mpr ⟨hy, e⟩, rfl⟩)) h
  · rintro rfl
    refine (exch g hT hy yb.1 yb.2).mp fun i j hi hj => (conn_perm fun z => ?_).mp (hT.2.2 i j hi hj)
    rw [List.mem_append, wo_mem, List.mem_singleton]
    constructor
    · intro hz
      by_cases e : z = y
      · exact .inr e
      · exact .inl ⟨hz, e⟩
    · rintro (q | q)
      · exact q.1
      · rw [q]; exact hy
/-- the tree behind an exchange -/
theorem exg_tree {n : Int} {ps : List (Int × Int)} {ts ms : List Int} {o z : Int} (g : GoodW n ps) (hT : IsTree n ps ts) (hx : exg n ps ts o z) (hpm : ms.Perm (wo ts o ++ [z])) (hpw : ms.Pairwise (· ≤ ·)) : IsTree n ps ms := by
  obtain ⟨ho, hz, z0, z1, hc⟩ := (exg_iff g hT).mp hx
  have nd : (wo ts o ++ [z]).Nodup := nd_snoc (hT.1.nodup.sublist List.filter_sublist) fun h => hz (wo_mem.mp h).1
  have ndm : ms.Nodup := hpm.nodup_iff.mpr nd
  have hl := wo_length hT.1.nodup ho
  have hl2 := hpm.length_eq
  rw [List.length_append, List.length_singleton] at hl2
  refine ⟨isSet_iff.mpr ⟨fun y hy => ?_, (List.pairwise_and_iff.mpr ⟨hpw, ndm⟩).imp fun {x y} h => by have := h.1; have := h.2; omega⟩, by rw [hl2, hl]; exact hT.2.1, fun i j hi hj => (conn_perm fun y => hpm.mem_iff).mpr (hc i j hi hj)⟩
  rcases List.mem_append.mp (hpm.mem_iff.mp hy) with h | h
  · exact hT.1.all y (wo_mem.mp h).1
  · rw [List.mem_singleton.mp h]; exact ⟨z0, z1⟩
section
variable {n : Int} {ps : List (Int × Int)} {ts ms : List Int} {o z : Int} (g : GoodW n ps) (hT : IsTree n ps ts) (hx : exg n ps ts o z) (hpm : ms.Perm (wo ts o ++ [z])) (hpw : ms.Pairwise (· ≤ ·))
include g hT hx hpm hpw
end
end My

/-! ## the least tree: each tie that closes no ring -/
namespace My
open PySem L2
def grd (n : Nat) (ps : List (Int × Int)) : Nat → List Int
  | 0 => []
  | k + 1 => if mk (lms n (endsOf ps (grd n ps k))) (endOf ps (k : Int)).1 = mk (lms n (endsOf ps (grd n ps k))) (endOf ps (k : Int)).2 then grd n ps k else grd n ps k ++ [(k : Int)]
/-! ### order of rows -/
end My

/-! ## min(list of tuples of ints) -/
namespace My
open PySem L2
end My
namespace L2
open PySem PySem.Spec PyProof.Rows
section
variable {prog : Program} {w : World} {A : Around} {I S : Addr} {fp wr : List Addr} {n : Nat} {P : Nat → Value → Prop} {St : Nat → Heap → Prop} {R : Result → Shared → Prop}
/-- the items are tuples of ints, apart from what the loop writes -/
def TupsAt (S : Addr) (wr : List Addr) (P : Nat → Value → Prop) (L : Nat → List Int) (h : Heap) : Prop := ∀ i v, P i v → ∃ a vs, v = .ref a ∧ a ≠ S ∧ a ∉ wr ∧ IsTup h a vs ∧ IntsAre vs.toList (L i)
theorem TupsAt.keep {L : Nat → List Int} {h h' : Heap} (x : TupsAt S wr P L h) (k : ∀ b o, b ≠ S → b ∉ wr → h.get? b = some o → h'.get? b = some o) : TupsAt S wr P L h' := fun i v p => by
  obtain ⟨a, vs, e, n1, n2, ⟨o, ho, z⟩, hi⟩ := x i v p
  exact ⟨a, vs, e, n1, n2, ⟨o, k a o n1 n2 ho, z⟩, hi⟩
end
section
variable {X : Cx}
end
end L2

/-! ## lists of tuples of ints; all ascending rows of a length -/
namespace My
open PySem L2
def TupV (H : Hp) (v : V) (l : List Int) : Prop := ∃ a, v = .ref a ∧ H a = some (.tup (IL l))
def TupsV (H : Hp) (xs : List V) (L : List (List Int)) : Prop := xs.length = L.length ∧ ∀ (i : Nat) (l : List Int), L[i]? = some l → ∃ v, xs[i]? = some v ∧ TupV H v l
theorem TupsV.at {H : Hp} {xs : List V} {L : List (List Int)} (h : TupsV H xs L) {i : Nat} {v : V} (e : xs[i]? = some v) : ∃ l, L[i]? = some l ∧ TupV H v l := by
  have hi : i < xs.length := (List.getElem?_eq_some_iff.mp e).1
  have hp : i < L.length := by rw [← h.1]; exact hi
  obtain ⟨v', e1, q⟩ := h.2 i L[i] (List.getElem?_eq_getElem hp)
  rw [e] at e1
  cases e1
  exact ⟨_, List.getElem?_eq_getElem hp, q⟩
theorem TupsV.nil {H : Hp} : TupsV H [] [] := ⟨rfl, fun i p e => by simp at e⟩
theorem TupsV.app {H : Hp} {xs ys : List V} {L M : List (List Int)} (h : TupsV H xs L) (h2 : TupsV H ys M) : TupsV H (xs ++ ys) (L ++ M) := by
  refine ⟨by rw [List.length_append, List.length_append, h.1, h2.1], fun i l e => ?_⟩
  by_cases hi : i < L.length
  · rw [List.getElem?_append_left hi] at e
    obtain ⟨v, e1, q⟩ := h.2 i l e
    exact ⟨v, by rw [List.getElem?_append_left (by rw [h.1]; exact hi)]; exact e1, q⟩
  · rw [List.getElem?_append_right (by omega)] at e
    obtain ⟨v, e1, q⟩ := h2.2 _ l e
    exact ⟨v, by rw [List.getElem?_append_right (by rw [h.1]; omega), h.1]; exact e1, q⟩
theorem TupsV.one {H : Hp} {v : V} {l : List Int} (q : TupV H v l) : TupsV H [v] [l] := ⟨rfl, fun i m e => by
  cases i with
  | zero => have e : l = m := by simpa using e
            exact ⟨v, rfl, e ▸ q⟩
  | succ i => simp at e⟩
theorem TupsV.snoc {H : Hp} {xs : List V} {L : List (List Int)} {v : V} {l : List Int} (h : TupsV H xs L) (q : TupV H v l) : TupsV H (xs ++ [v]) (L ++ [l]) := h.app (.one q)
theorem TupsV.mut {H : Hp} {d : Addr} {ys zs xs : List V} {L : List (List Int)} (hP : TupsV H xs L) (hl : H d = some (.lst ys)) : TupsV (upd H d (.lst zs)) xs L := by
  refine ⟨hP.1, fun j p e => ?_⟩
  obtain ⟨v, e1, tt, e2, e3⟩ := hP.2 j p e
  exact ⟨v, e1, tt, e2, by rw [upd_ne (ne_of e3 hl (fun z => nomatch z))]; exact e3⟩
/-! ### rows -/
def nxt (s : List Int) : Int := match s.getLast? with | none => 0 | some x => x + 1
def ext1 (m : Int) (s : List Int) : List (List Int) := (List.range (m - nxt s).toNat).map fun (i : Nat) => s ++ [nxt s + (i : Int)]
def cmb (m : Int) : Nat → List (List Int)
  | 0 => [[]]
  | k + 1 => (cmb m k).flatMap (ext1 m)
end My

/-! ## every tree is reached by exchanges -/
namespace My
open PySem L2
theorem asc_sub : ∀ {w t : List Int}, t.Pairwise (· < ·) → w.Pairwise (· < ·) → (∀ z ∈ t, z ∈ w) → t.Sublist w
  | [], [], _, _, _ => List.Sublist.slnil
  | [], x :: t, _, _, h => absurd (h x List.mem_cons_self) (by simp)
  | y :: w, [], _, _, _ => List.nil_sublist _
  | y :: w, x :: t, ht, hw, h => by
    obtain ⟨h1, h2⟩ := List.pairwise_cons.mp ht
    obtain ⟨h3, h4⟩ := List.pairwise_cons.mp hw
    by_cases e : x = y
    · subst e
      refine List.Sublist.cons₂ _ (asc_sub h2 h4 fun z hz => ?_)
      rcases List.mem_cons.mp (h z (List.mem_cons_of_mem _ hz)) with q | q
      · have := h1 z hz; omega
      · exact q
    · have hx : x ∈ w := (List.mem_cons.mp (h x List.mem_cons_self)).resolve_left e
      refine List.Sublist.cons _ (asc_sub ht h4 fun z hz => ?_)
      rcases List.mem_cons.mp (h z hz) with q | q
      · have := h3 x hx
        rcases List.mem_cons.mp hz with q2 | q2
        · rw [q2]; exact hx
        · have := h1 z q2; omega
      · exact q
/-- a tree crosses each cut of another -/
theorem cross {n : Int} {ps : List (Int × Int)} {T W : List Int} {o : Int} (g : GoodW n ps) (hT : IsTree n ps T) (hW : IsTree n ps W) (ho : o ∈ T) : ∃ z ∈ W, z ∈ cutT n ps T o := by
  refine Classical.byContradiction fun hno => ?_
  have all : ∀ i j, Conn (endsOf ps W) i j → Conn (endsOf ps (wo T o)) i j := fun i j c => by
    induction c with
    | refl i => exact .refl i
    | symm _ ih => exact .symm ih
    | trans _ _ i1 i2 => exact .trans i1 i2
    | @edge a b h =>
      obtain ⟨z, hz, e⟩ := List.mem_map.mp h
      obtain ⟨z0, z1⟩ := hW.1.all z hz
      have c : Conn (endsOf ps (wo T o)) (endOf ps z).1 (endOf ps z).2 := Classical.byContradiction fun hc => hno ⟨z, hz, (cutT_mem g hT z0 z1).mpr hc⟩
      have ea : a = (endOf ps z).1 := (congrArg Prod.fst e).symm
      have eb : b = (endOf ps z).2 := (congrArg Prod.snd e).symm
      rw [ea, eb]
      exact c
  have ob := hT.1.all o ho
  have he := end_in g ob.1 ob.2
  exact (cutT_mem g hT ob.1 ob.2).mp ((cut_own g hT ho ho).mpr rfl) (all _ _ (hW.2.2 _ _ he.1 he.2))
theorem reach {n : Int} {ps : List (Int × Int)} {W : List Int} (g : GoodW n ps) (hW : IsTree n ps W) (R : List Int → Prop)
    (close : ∀ T o z ms, R T → IsTree n ps T → exg n ps T o z → ms.Perm (wo T o ++ [z]) → ms.Pairwise (· ≤ ·) → R ms) : ∀ (k : Nat) (T : List Int), R T → IsTree n ps T → (T.filter fun y => decide (y ∉ W)).length = k → R W
  | 0, T, hR, hT, h => by
    have hsub : ∀ z ∈ T, z ∈ W := fun z hz => Classical.byContradiction fun hn => by
      have : z ∈ T.filter fun y => decide (y ∉ W) := List.mem_filter.mpr ⟨hz, decide_eq_true hn⟩
      rw [List.length_eq_zero_iff.mp h] at this
      cases this
    have := (asc_sub (isSet_iff.mp hT.1).2 (isSet_iff.mp hW.1).2 hsub).eq_of_length (by have := hT.2.1; have := hW.2.1; omega)
    exact this ▸ hR
  | k + 1, T, hR, hT, h => by
    obtain ⟨o, hof⟩ : ∃ o, o ∈ T.filter fun y => decide (y ∉ W) := List.exists_mem_of_length_pos (by omega)
    have ho := (List.mem_filter.mp hof).1
    have hoW : o ∉ W := of_decide_eq_true (List.mem_filter.mp hof).2
    obtain ⟨z, hzW, hzc⟩ := cross g hT hW ho
    have hzo : z ≠ o := fun e => hoW (e ▸ hzW)
    have hx : exg n ps T o z := ⟨ho, hzo, hzc⟩
    have hpm : ((wo T o ++ [z]).mergeSort fun a b => decide (a ≤ b)).Perm (wo T o ++ [z]) := List.mergeSort_perm ..
    have hpw : ((wo T o ++ [z]).mergeSort fun a b => decide (a ≤ b)).Pairwise (· ≤ ·) := by
      have := List.pairwise_mergeSort (le := fun (a b : Int) => decide (a ≤ b)) (fun a b c h1 h2 => by simp only [decide_eq_true_eq] at *; omega) (fun a b => by simp only [Bool.or_eq_true, decide_eq_true_eq]; omega) (wo T o ++ [z])
      exact this.imp fun h => by simpa using h
    refine reach g hW R close k _ (close T o z _ hR hT hx hpm hpw) (exg_tree g hT hx hpm hpw) ?_
    rw [(hpm.filter _).length_eq, List.filter_append]
    have e1 : [z].filter (fun y => decide (y ∉ W)) = [] := by rw [List.filter_cons, if_neg (by simpa using hzW)]; rfl
    rw [e1, List.append_nil]
    have e2 : (wo T o).filter (fun y => decide (y ∉ W)) = wo (T.filter fun y => decide (y ∉ W)) o := by
      unfold wo
      rw [List.filter_filter, List.filter_filter]
      refine List.filter_congr fun y _ => Bool.and_comm ..
    rw [e2]
    have := wo_length (hT.1.nodup.sublist List.filter_sublist) hof
    omega
end My

/-! ## marks merged, ties grown -/
namespace My
open PySem L2
end My
namespace My
open PySem L2
theorem cut_upto {xs : List V} {i : Int} (h0 : 0 ≤ i) : cutV xs none (some i) = xs.take i.toNat := by
  have e : HT.sIx xs.length xs.length (some i) = min i.toNat xs.length := by
    show (if i < 0 then (i + (xs.length : Int)).toNat else min i.toNat xs.length) = _
    rw [if_neg (by omega)]
  unfold cutV
  rw [e, HT.sIx_none, List.drop_zero, Nat.sub_zero]
  by_cases h : i.toNat ≤ xs.length
  · rw [Nat.min_eq_left h]
  · rw [Nat.min_eq_right (by omega), List.take_of_length_le (Nat.le_refl _), List.take_of_length_le (by omega)]
/-- all numbers of ties -/
def rgL (m : Nat) : List Int := (List.range m).map fun (i : Nat) => (i : Int)
/-- all places are one piece over all ties -/
def Joined (n : Int) (ps : List (Int × Int)) : Prop := ∀ i j, i < n.toNat → j < n.toNat → Conn (endsOf ps (rgL ps.length)) i j
end My

/-! ## tuple(range) -/
namespace L2
open PySem PySem.Spec PyProof.Rows
section
variable {prog : Program} {w : World} {A : Around} {E : Value → Shared → Prop} {s : Shared}
end
section
variable {X : Cx}
end
end L2

/-! ## ties grown in an order: each that closes no ring -/
namespace My
open PySem L2
def gst (n : Nat) (ps : List (Int × Int)) (G : List Int) (z : Int) : List Int := if mk (lms n (endsOf ps G)) (endOf ps z).1 = mk (lms n (endsOf ps G)) (endOf ps z).2 then G else G ++ [z]
def grw (n : Nat) (ps : List (Int × Int)) (zs : List Int) : List Int := zs.foldl (gst n ps) []
end My
namespace My
open PySem L2
end My

/-! ## lists sorted, however long -/
namespace PyProof.Rows
open PySem
abbrev dK : Keyed := (Value.none, Value.none)
section
variable {M : Model} {A : Around} {E : Value → Shared → Prop} {s : Shared} {O : KeyOrd} {key : Keyed → O.α} {kd : SortKind} {S : Keyed → Prop}
end
end PyProof.Rows
namespace PyProof.Rows
open PySem
section
variable {M : Model} {A : Around} {E : Value → Shared → Prop} {s : Shared} {O : KeyOrd} {key : Keyed → O.α} {kd : SortKind} {S : Keyed → Prop}
def RK (O : KeyOrd) (key : Keyed → O.α) (x y : Keyed) : Prop := O.kle (key x) (key y)
structure MI (O : KeyOrd) (key : Keyed → O.α) (la lb : List Keyed) (out : Array Keyed) (ia ib : Nat) : Prop where
  so : out.toList.Pairwise (RK O key)
  oa : ∀ x ∈ out.toList, ∀ y ∈ la.drop ia, RK O key x y
  ob : ∀ x ∈ out.toList, ∀ y ∈ lb.drop ib, RK O key x y
  pm : (out.toList ++ la.drop ia ++ lb.drop ib).Perm (la ++ lb)
abbrev LoS := Option (Array Keyed) × Array Keyed × Nat × Nat × Nat × Nat × Nat
section
variable {a b out : Array Keyed} {ia ib : Nat} {st : SortSt} {R : ForInStep LoS → SortSt → Prop}
end
section
variable {a b : Array Keyed} {st : SortSt}
end
end
end PyProof.Rows
namespace PyProof.Rows
open PySem
section
variable {M : Model} {A : Around} {E : Value → Shared → Prop} {s : Shared} {O : KeyOrd} {key : Keyed → O.α} {kd : SortKind} {S : Keyed → Prop}
structure MH (O : KeyOrd) (key : Keyed → O.α) (la lb : List Keyed) (out : Array Keyed) (na nb : Nat) : Prop where
  so : out.toList.Pairwise fun x y => RK O key y x
  oa : ∀ x ∈ la.take na, ∀ y ∈ out.toList, RK O key x y
  ob : ∀ x ∈ lb.take nb, ∀ y ∈ out.toList, RK O key x y
  pm : (la.take na ++ lb.take nb ++ out.toList).Perm (la ++ lb)
abbrev HiS := Option (Array Keyed) × Nat × Nat × Array Keyed × Nat × Nat × Nat
section
variable {a b out : Array Keyed} {na nb : Nat} {st : SortSt} {R : ForInStep HiS → SortSt → Prop}
end
section
variable {a b : Array Keyed} {st : SortSt}
end
end
end PyProof.Rows
namespace PyProof.Rows
open PySem
section
variable {M : Model} {A : Around} {E : Value → Shared → Prop} {s : Shared} {O : KeyOrd} {key : Keyed → O.α} {kd : SortKind} {S : Keyed → Prop}
end
end PyProof.Rows
namespace PyProof.Rows
open PySem
section
variable {M : Model} {A : Around} {E : Value → Shared → Prop} {s : Shared} {O : KeyOrd} {key : Keyed → O.α} {kd : SortKind} {S : Keyed → Prop}
/-- as it was, but for the order of what stands from lo on -/
def Stp (lo : Nat) (st st' : SortSt) : Prop := kindOf st' = kindOf st ∧ failedOf st' = failedOf st ∧ pendingOf st' = pendingOf st ∧ (arrOf st').Perm (arrOf st) ∧ ∀ i, i < lo → (arrOf st')[i]? = (arrOf st)[i]?
theorem Stp.refl (lo : Nat) (st : SortSt) : Stp lo st st := ⟨rfl, rfl, rfl, Array.Perm.refl _, fun _ _ => rfl⟩
theorem Stp.trans {lo : Nat} {a b c : SortSt} (h : Stp lo a b) (k : Stp lo b c) : Stp lo a c := ⟨k.1.trans h.1, k.2.1.trans h.2.1, k.2.2.1.trans h.2.2.1, k.2.2.2.1.trans h.2.2.2.1, fun i hi => (k.2.2.2.2 i hi).trans (h.2.2.2.2 i hi)⟩
theorem Stp.size {lo : Nat} {a b : SortSt} (h : Stp lo a b) : (arrOf b).size = (arrOf a).size := h.2.2.2.1.size_eq
theorem Stp.all {lo : Nat} {a b : SortSt} (h : Stp lo a b) (hS : ∀ x ∈ (arrOf a).toList, S x) : ∀ x ∈ (arrOf b).toList, S x := fun x hx => hS x ((Array.perm_iff_toList_perm.mp h.2.2.2.1).mem_iff.mp hx)
end
end PyProof.Rows
namespace PyProof.Rows
open PySem
section
variable {M : Model} {A : Around} {E : Value → Shared → Prop} {s : Shared} {O : KeyOrd} {key : Keyed → O.α} {kd : SortKind} {S : Keyed → Prop}
/-- where the runs lie -/
def offs : List (List Keyed) → Nat → List (Nat × Nat)
  | [], _ => []
  | g :: gs, o => (o, g.length) :: offs gs (o + g.length)
structure PI (O : KeyOrd) (key : Keyed → O.α) (kd : SortKind) (a₀ : Array Keyed) (st : SortSt) (segs : List (List Keyed)) (rest : List Keyed) : Prop where
  kind : kindOf st = kd
  fail : failedOf st = none
  perm : (arrOf st).Perm a₀
  arr : (arrOf st).toList = segs.flatten ++ rest
  srt : ∀ g ∈ segs, 1 ≤ g.length ∧ g.Pairwise (RK O key)
  pend : (pendingOf st).toList.map (fun p => (p.1, p.2.1)) = offs segs 0
theorem PI.size {a₀ : Array Keyed} {st : SortSt} {segs : List (List Keyed)} {rest : List Keyed} (h : PI O key kd a₀ st segs rest) : a₀.size = segs.flatten.length + rest.length := by
  rw [← h.perm.size_eq, ← Array.length_toList, h.arr, List.length_append]
end
end PyProof.Rows

/-! ## sorted(list of tuples of ints), however long -/
namespace L2
open PySem PySem.Spec PyProof.Rows
section
variable {prog : Program} {w : World} {A : Around} {E : Value → Shared → Prop} {s : Shared}
def sameBut (a : Addr) (h h' : Heap) : Prop := ∀ b o, b ≠ a → h.get? b = some o → h'.get? b = some o
/-! ### tuples of ints as keys -/
end
end L2
namespace L2
open PySem PySem.Spec PyProof.Rows My
section
variable {X : Cx}
end
end L2

/-! ## a tuple in a list of tuples, and not in it -/
namespace L2
open PySem PySem.Spec PyProof.Rows
section
variable {X : Cx}
end
end L2
namespace My
open PySem L2
/-! ### rows in order -/
end My

/-! ## a tie beside a tree has a ring -/
namespace My
open PySem L2
end My

/-! ## greater numbers -/
namespace L2
open PySem PySem.Spec PyProof.Rows
section
variable {X : Cx}
end
end L2

/-! ## sorted(list of lists of ints) -/
namespace L2
open PySem PySem.Spec PyProof.Rows
open PySem.SeqAt
open PySem.AutoSeq1 (wpAny_loadPart')
open PySem.MeetsSeq PySem.MeetsSeq2 PySem.MeetsSeq3
end L2
namespace L2
open PySem PySem.Spec PyProof.Rows My
section
variable {prog : Program} {w : World} {A : Around} {E : Value → Shared → Prop} {s : Shared}
end
section
variable {X : Cx}
end
end L2

/-! ## greater factors -/
namespace L2
open PySem PySem.Spec PyProof.Rows
section
variable {X : Cx}
end
end L2

/-! ## all rows of ties that are not longer than a tree -/
namespace My
open PySem L2
end My

/-! ## min(list of ints) -/
namespace L2
open PySem PySem.Spec PyProof.Rows
section
variable {X : Cx}
end
end L2

/-! ## ways from tree to tree -/
namespace My
open PySem L2
/-- the steps of a way: by the ties of the other tree, in their order -/
inductive WP (n : Int) (ps : List (Int × Int)) (W : List Int) (T0 : List Int) : List Int → List (Int × Int) → List Int → Prop
  | nil : WP n ps W T0 [] [] T0
  | skip {l : List Int} {ws : List (Int × Int)} {T : List Int} {z : Int} : WP n ps W T0 l ws T → z ∈ T → WP n ps W T0 (l ++ [z]) ws T
  | step {l : List Int} {ws : List (Int × Int)} {T T' : List Int} {z o : Int} : WP n ps W T0 l ws T → z ∉ T → o ∈ ringA n ps T z T → o ∉ W → (∀ y ∈ ringA n ps T z T, y ∉ W → o ≤ y) → T'.Perm (wo T o ++ [z]) → T'.Pairwise (· ≤ ·) → WP n ps W T0 (l ++ [z]) (ws ++ [(o, z)]) T'
/-- what a way does, from its beginning on -/
def Leads (n : Int) (ps : List (Int × Int)) : List Int → List (Int × Int) → List Int → Prop
  | T, [], U => T = U
  | T, (o, z) :: ws, U => o ∈ T ∧ z ∉ T ∧ ∃ T', T'.Perm (wo T o ++ [z]) ∧ T'.Pairwise (· ≤ ·) ∧ IsTree n ps T' ∧ Leads n ps T' ws U
theorem Leads.snoc {n : Int} {ps : List (Int × Int)} {U V : List Int} {o z : Int} : ∀ {ws : List (Int × Int)} {T : List Int}, Leads n ps T ws U → o ∈ U → z ∉ U → V.Perm (wo U o ++ [z]) → V.Pairwise (· ≤ ·) → IsTree n ps V → Leads n ps T (ws ++ [(o, z)]) V
  | [], T, h, h1, h2, h3, h4, h5 => by
    have h : T = U := h
    subst h
    exact ⟨h1, h2, V, h3, h4, h5, rfl⟩
  | (o', z') :: ws, T, ⟨a1, a2, T', a3, a4, a5, a6⟩, h1, h2, h3, h4, h5 => ⟨a1, a2, T', a3, a4, a5, Leads.snoc a6 h1 h2 h3 h4 h5⟩
end My

/-! ## pieces joined -/
namespace My
open PySem L2
end My

/-! ## webs numbered anew -/
namespace My
open PySem L2
end My

/-! ## min and max of a tuple of ints -/
namespace L2
open PySem PySem.Spec PyProof.Rows
section
variable {prog : Program} {w : World} {A : Around} {E : Value → Shared → Prop} {s : Shared} {l : Addr} {xs : Array (Int × Tok)}
end
section
variable {X : Cx}
end
end L2

/-! ## one tie left out, two places drawn together -/
namespace My
open PySem L2
theorem cut_from2 {xs : List V} {i : Int} (h0 : 0 ≤ i) : cutV xs (some i) none = xs.drop i.toNat := by
  have e : HT.sIx xs.length 0 (some i) = min i.toNat xs.length := by
    show (if i < 0 then (i + (xs.length : Int)).toNat else min i.toNat xs.length) = _
    rw [if_neg (by omega)]
  unfold cutV
  rw [e, HT.sIx_none, List.take_of_length_le (by rw [List.length_drop]; exact Nat.le_refl _)]
  by_cases h : i.toNat ≤ xs.length
  · rw [Nat.min_eq_left h]
  · rw [Nat.min_eq_right (by omega), List.drop_eq_nil_of_le (Nat.le_refl _), List.drop_eq_nil_of_le (by omega)]
end My

/-! ## an item of a list or of a tuple; two tests with one end -/
namespace L2
open PySem PySem.Spec PyProof.Rows
section
variable {X : Cx}
end
theorem nx_mk {N a b : St → Hp → Prop} {r : VK} {σ : St} {H : Hp} (h : N σ H) : Ends.nx { nx := N, rt := r, bk := a, ct := b } σ H := h
end L2

/-! ## lists of a known length -/
namespace My
theorem len1 {α : Type} {l : List α} (h : l.length = 1) : ∃ a, l = [a] := by
  cases l with
  | nil => cases h
  | cons a l => cases l with
    | nil => exact ⟨a, rfl⟩
    | cons b l => simp at h
theorem len2 {α : Type} {l : List α} (h : l.length = 2) : ∃ a b, l = [a, b] := by
  cases l with
  | nil => cases h
  | cons a l =>
    obtain ⟨b, rfl⟩ := len1 (Nat.succ.inj h)
    exact ⟨a, b, rfl⟩
theorem len3 {α : Type} {l : List α} (h : l.length = 3) : ∃ a b c, l = [a, b, c] := by
  cases l with
  | nil => cases h
  | cons a l =>
    obtain ⟨b, c, rfl⟩ := len2 (Nat.succ.inj h)
    exact ⟨a, b, c, rfl⟩
theorem len4 {α : Type} {l : List α} (h : l.length = 4) : ∃ a b c d, l = [a, b, c, d] := by
  cases l with
  | nil => cases h
  | cons a l =>
    obtain ⟨b, c, d, rfl⟩ := len3 (Nat.succ.inj h)
    exact ⟨a, b, c, d, rfl⟩
end My

/-! ## the script's numbers have a weight; products within it -/
namespace L2
open PySem PySem.Spec PyProof.Rows
section
variable {X : Cx}
end
end L2
namespace Att
open PySem PySem.W PySem.Calls PyProof.Rows
end Att
namespace L2
open PySem PySem.Spec PyProof.Rows
end L2

/-! ## two webs put together; a pair many times -/
namespace My
open PySem L2
end My

/-! ## tuple(list or tuple), told once -/
namespace L2
open PySem PySem.Spec PyProof.Rows
section
variable {X : Cx}
end
end L2
namespace My
open PySem L2
end My

/-! ## tuple(reversed(tuple)) -/
namespace L2
open PySem PySem.Spec PyProof.Rows
section
variable {prog : Program} {w : World} {A : Around} {E : Value → Shared → Prop} {s : Shared} {it a : Addr} {items : Array Value}
end
section
variable {X : Cx} {p p2 pos pos2 : Pos} {e : Expr} {t : TA}
end
end L2

/-! ## t + u and t[lo:hi] of own tuples, told once -/
namespace L2
open PySem PySem.Spec PyProof.Rows
section
variable {X : Cx}
end
end L2

/-! ## partners between two trees -/
namespace My
open PySem L2
end My

/-! ## trees within joined ties, trees with a tie -/
namespace My
open PySem L2
end My

/-! ## tuple(..) of an own tuple or a list: an own tuple -/
namespace L2
open PySem PySem.Spec PyProof.Rows
section
variable {X : Cx}
end
end L2
namespace My
open PySem L2
/-- a walk of good steps from a tree -/
inductive Wk (n : Int) (ps : List (Int × Int)) (T0 : List Int) : List (Int × Int) → List Int → Prop
  | nil : Wk n ps T0 [] T0
  | step {ws : List (Int × Int)} {T T' : List Int} {o z : Int} : Wk n ps T0 ws T → exg n ps T o z → T'.Perm (wo T o ++ [z]) → T'.Pairwise (· ≤ ·) → Wk n ps T0 (ws ++ [(o, z)]) T'
end My

/-! ## the tree farthest from a tree -/
namespace My
open PySem L2
end My

/-! ## forests, listed in order -/
namespace My
open PySem L2
/-- no ring among them -/
def Fr (n : Nat) (ps : List (Int × Int)) (l : List Int) : Bool := decide (grw n ps l = l)
theorem Fr.nil (n : Nat) (ps : List (Int × Int)) : Fr n ps [] = true := decide_eq_true rfl
/-- the forests of so many ties -/
def frs (n : Nat) (ps : List (Int × Int)) (k : Nat) : List (List Int) := (cmb (ps.length : Int) k).filter (Fr n ps)
end My

/-! ## a tree that no exchange makes shorter is a shortest one -/
namespace My
open PySem L2
end My

/-! ## the gains of a tree, found tie by tie -/
namespace My
open PySem L2
end My

/-! ## the least and the greatest tree with some ties and without others -/
namespace My
open PySem L2
end My

/-! ## for x in reversed(a list or a tuple) -/
namespace L2
open PySem PySem.Spec PyProof.Rows
section
variable {X : Cx}
end
end L2
namespace My
open PySem L2
end My

/-! ## the tree behind and the tree ahead -/
namespace My
open PySem L2
/-! ### what a call may answer: nothing, or a tree -/
end My

/-! ## a + b of two lists, wherever they lie -/
namespace L2
open PySem PySem.Spec PyProof.Rows
section
variable {X : Cx}
end
end L2

/-! ## trees counted by parting -/
namespace My
open PySem L2
/-- there are c trees -/
def TC (n : Int) (ps : List (Int × Int)) (c : Nat) : Prop := ∃ L : List (List Int), L.Nodup ∧ (∀ l, l ∈ L ↔ IsTree n ps l) ∧ L.length = c
end My

/-! ## loops in front -/
namespace My
open PySem L2
end My

/-! ## list.insert -/
namespace L2
open PySem PySem.Spec PyProof.Rows
section
variable {X : Cx}
end
end L2

/-! ## forests, tie after tie -/
namespace My
open PySem L2
def PhM (n : Nat) (ps : List (Int × Int)) (d : Addr) (H : Hp) (x : V) (l : List Int) : Prop := ∃ t p h, x = .ref t ∧ H t = some (.tup [.ref p, .ref h]) ∧ H p = some (.tup (IL l)) ∧ H h = some (.lst (IL (lms n (endsOf ps l)))) ∧ h ≠ d
theorem PhM.mut {n : Nat} {ps : List (Int × Int)} {H : Hp} {d : Addr} {ys zs : List V} {x : V} {l : List Int} (h : PhM n ps d H x l) (hd : H d = some (.lst ys)) : PhM n ps d (upd H d (.lst zs)) x l := by
  obtain ⟨t, p, q, e, h1, h2, h3, h4⟩ := h
  exact ⟨t, p, q, e, by rw [upd_ne (ne_of h1 hd (fun z => nomatch z))]; exact h1, by rw [upd_ne (ne_of h2 hd (fun z => nomatch z))]; exact h2, by rw [upd_ne h4]; exact h3, h4⟩
theorem Bears.app {α : Type} [DecidableEq α] {R : V → α → Prop} {xs ys : List V} {l m : List α} (h : Bears R xs l) (h2 : Bears R ys m) : Bears R (xs ++ ys) (l ++ m) := by
  refine ⟨by rw [List.length_append, List.length_append, h.1, h2.1], fun i a e => ?_⟩
  have hl := h.1
  by_cases c : i < l.length
  · rw [List.getElem?_append_left c] at e
    obtain ⟨x, e1, r⟩ := h.2 i a e
    exact ⟨x, by rw [List.getElem?_append_left (by omega)]; exact e1, r⟩
  · rw [List.getElem?_append_right (by omega)] at e
    obtain ⟨x, e1, r⟩ := h2.2 _ a e
    exact ⟨x, by rw [List.getElem?_append_right (by omega), hl]; exact e1, r⟩
theorem PairsV.set {H : Hp} {xs : List V} {ps : List (Int × Int)} {v : V} {p : Int × Int} (h : PairsV H xs ps) (i : Nat) (q : PairV H v p) : PairsV H (xs.set i v) (ps.set i p) := by
  refine ⟨by rw [List.length_set, List.length_set]; exact h.1, fun j x e => ?_⟩
  have hl := h.1
  by_cases c : i = j
  · subst c
    rw [List.getElem?_set] at e
    rw [if_pos rfl] at e
    by_cases hlt : i < ps.length
    · rw [if_pos hlt] at e
      obtain rfl := Option.some.inj e
      exact ⟨v, by rw [List.getElem?_set, if_pos rfl, if_pos (by omega)], q⟩
    · rw [if_neg hlt] at e
      cases e
  · rw [List.getElem?_set, if_neg c] at e
    obtain ⟨w, e1, r⟩ := h.2 j x e
    exact ⟨w, by rw [List.getElem?_set, if_neg c]; exact e1, r⟩
end My

/-! ## for x, y in zip(list, list) -/
namespace L2
open PySem PySem.Spec PyProof.Rows
section
variable {X : Cx}
end
end L2
namespace My
open PySem L2
section
variable {K : PySem.W.Frag} {a b : Addr} {xs ys : List V} {g : TG} {tt : TT} {te : TE} {o : Nat} {fr : List Nat} {σ : St} {H : Hp} {Q : VK}
end
end My

/-! ## determinants, by the first row -/
namespace My
abbrev Mx := Nat → Nat → Int
end My

/-! ## determinants: rows exchanged, rows taken off -/
namespace My
end My

/-! ## determinants, without fractions -/
namespace My
/-- the first k, and then those behind them that r names -/
def ex (k : Nat) (r : Nat → Nat) (i : Nat) : Nat := if i < k then i else k + r (i - k)
end My

/-! ## products and quotients of great numbers -/
namespace L2
open PySem PySem.Spec PyProof.Rows
section
variable {X : Cx}
end
end L2

/-! ## tables as rows of rows -/
namespace My
end My

/-! ## tables as they lie -/
namespace My
open PySem L2
/-- a list that is not the one at d -/
def LiV (d : Addr) (H : Hp) (v : V) (l : List Int) : Prop := ∃ r, v = .ref r ∧ H r = some (.lst (IL l)) ∧ r ≠ d
theorem LiV.mut {d : Addr} {H : Hp} {v : V} {l : List Int} {o : HO} (h : LiV d H v l) : LiV d (upd H d o) v l := by
  obtain ⟨r, e, h, n⟩ := h
  exact ⟨r, e, by rw [upd_ne n]; exact h, n⟩
end My

/-! ## determinants: columns, turned tables, any two rows -/
namespace My
end My

/-! ## the tables of webs: a tie more -/
namespace My
/-- where a tie begins and where it ends -/
def ind (u v i : Nat) : Int := (if i = u then 1 else 0) - (if i = v then 1 else 0)
end My

/-! ## the tables of webs tell their trees -/
namespace My
open PySem L2
end My

/-! ## the matrix-tree theorem -/
namespace My
open PySem L2
/-! ### for webs -/
end My

/-! ## o[i] += e, o a list -/
namespace L2
open PySem PySem.Spec PyProof.Rows
section
variable {X : Cx}
end
end L2

/-! ## a table that is written into; loops over two lists -/
namespace My
open PySem L2
/-- a table of own rows at r, made since H0 -/
structure TabAt (H0 : Hp) (r : Addr) (n : Nat) (H : Hp) (ys : List V) (L : List (List Int)) : Prop where
  tab : H r = some (.lst ys)
  rows : Bears (LiV r H) ys L
  len : L.length = n
  all : ∀ l ∈ L, l.length = n
  nd : ys.Nodup
  new : ∀ A, V.ref A ∈ ys → H0 A = none
theorem TabAt.at {H0 H : Hp} {r : Addr} {n : Nat} {ys : List V} {L : List (List Int)} (h : TabAt H0 r n H ys L) {i : Nat} (hi : i < n) : ∃ (A : Addr) (l : List Int), ys[i]? = some (.ref A) ∧ L[i]? = some l ∧ H A = some (.lst (IL l)) ∧ l.length = n ∧ H0 A = none ∧ A ≠ r := by
  have hl := h.len
  obtain ⟨l, e⟩ : ∃ l, L[i]? = some l := ⟨_, List.getElem?_eq_getElem (by omega)⟩
  obtain ⟨v, e1, A, rfl, e2, e3⟩ := h.rows.2 i l e
  exact ⟨A, l, e1, e, e2, h.all l (List.mem_of_getElem? e), h.new A (List.mem_of_getElem? e1), e3⟩
/-- the four numbers that a tie changes -/
theorem four {A : Mx} {u v : Nat} {w : Int} (hne : u ≠ v) (a b : Nat) {B C D E : Mx} (h1 : ∀ a b, B a b = if a = u ∧ b = u then A u u + w else A a b) (h2 : ∀ a b, C a b = if a = v ∧ b = v then B v v + w else B a b) (h3 : ∀ a b, D a b = if a = u ∧ b = v then C u v - w else C a b) (h4 : ∀ a b, E a b = if a = v ∧ b = u then D v u - w else D a b) : E a b = A a b + w * (ind u v a * ind u v b) := by
  have nv : ¬ v = u := Ne.symm hne
  unfold ind
  by_cases x1 : a = u
  · subst x1
    by_cases y1 : b = a
    · subst y1
      simp [h4, h3, h2, h1, hne, nv]
    · by_cases y2 : b = v
      · subst y2
        simp [h4, h3, h2, h1, hne, nv]
        omega
      · simp [h4, h3, h2, h1, hne, nv, y1, y2]
  · by_cases x2 : a = v
    · subst x2
      by_cases y1 : b = u
      · subst y1
        simp [h4, h3, h2, h1, hne, nv]
        omega
      · by_cases y2 : b = a
        · subst y2
          simp [h4, h3, h2, h1, hne, nv]
        · simp [h4, h3, h2, h1, hne, nv, y1, y2]
    · simp [h4, h3, h2, h1, hne, nv, x1, x2]
end My

/-! ## one tie left out, wherever it stands -/
namespace My
open PySem L2
end My

/-! ## trees told back -/
namespace My
open PySem L2
end My

/-! ## two webs put together: their trees -/
namespace My
open PySem L2
end My

/-! ## how many sets there are; two webs put together the other way round -/
namespace My
open PySem L2
end My

/-! ## the table of a set: its places ascend -/
namespace L2
open PySem
/-- the places ascend, and who leads -/
def Ris (t : SetTable) : Prop := t.place.toList.Pairwise (· < ·)
end L2

/-! ## an int put into a set, its table kept in order -/
namespace L2
open PySem PySem.Spec PyProof.Rows
/-- a set of ints stands at a; its table's places ascend -/
def SetR (P : Program) (w : World) (h : Heap) (a : Addr) (led : Bool) (S : Int → Bool) (n : Nat) : Prop :=
  ∃ (o : Obj) (es : Array (Int × Value)) (ep : Nat) (t : SetTable), h.get? a = some o ∧ o.ExactSet ∧ o.data = .set es ep t ∧ ElemsOf (intKind P w) es.toList ∧ (∀ z, S z = true ↔ ∃ y ∈ es.toList, (intKind P w).is z y.2 = true) ∧ es.size < scanBound ∧ t.fits es.size = true ∧ es.size = n ∧ Ris t ∧ t.led = led
theorem SetR.at {P : Program} {w : World} {h h' : Heap} {a : Addr} {led : Bool} {S : Int → Bool} {n : Nat} (q : SetR P w h a led S n) (k : ∀ o, h.get? a = some o → h'.get? a = some o) : SetR P w h' a led S n :=
  let ⟨o, es, ep, t, ho, r⟩ := q
  ⟨o, es, ep, t, k o ho, r⟩
section
variable {prog : Program} {w : World} {A : Around} {E : Value → Shared → Prop} {s : Shared}
end
end L2

/-! ## set(list of ints), its table kept in order -/
namespace L2
open PySem PySem.Spec PyProof.Rows
section
variable {prog : Program} {w : World} {A : Around} {R : Result → Shared → Prop} {I : Addr} {fp wr : List Addr} {G : Array GenState → Array GenState → Prop} {n : Nat} {P : Nat → Value → Prop} {St : Nat → Shared → Prop}
end
section
variable {prog : Program} {w : World} {A : Around} {E : Value → Shared → Prop} {s : Shared}
end
end L2

/-! ## the call set(list of ints) -/
namespace L2
open PySem PySem.Spec PyProof.Rows
section
variable {prog : Program} {w : World} {A : Around} {E : Value → Shared → Prop} {s : Shared}
end
end L2

/-! ## what a set's iterator tells -/
namespace L2
open PySem PySem.Spec PyProof.Rows
/-- a set's iterator: what goes first, how many were told, the set, its size and its epoch -/
def IsSi (h : Heap) (I a : Addr) (f : Value) (i n ep : Nat) : Prop := ∃ o, h.get? I = some o ∧ o.cls = .type "set_iterator" ∧ o.data = .fields #[f, rawInt (i : Int), .ref a, rawInt (n : Int), rawInt (ep : Int)]
theorem IsSi.keep {h h' : Heap} {I a : Addr} {f : Value} {i n ep : Nat} (x : IsSi h I a f i n ep) (e : ∀ o, h.get? I = some o → h'.get? I = some o) : IsSi h' I a f i n ep := let ⟨o, p, q⟩ := x; ⟨o, e _ p, q⟩
/-- what a set holds -/
def SetIs (h : Heap) (a : Addr) (es : Array (Int × Value)) (ep : Nat) (t : SetTable) : Prop := ∃ o, h.get? a = some o ∧ o.ExactSet ∧ o.data = .set es ep t
theorem SetIs.keep {h h' : Heap} {a : Addr} {es : Array (Int × Value)} {ep : Nat} {t : SetTable} (x : SetIs h a es ep t) (e : ∀ o, h.get? a = some o → h'.get? a = some o) : SetIs h' a es ep t := let ⟨o, p, q⟩ := x; ⟨o, e _ p, q⟩
section
variable {prog : Program} {w : World} {A : Around} {E : Value → Shared → Prop} {s : Shared}
end
end L2

/-! ## a set walked through -/
namespace L2
open PySem PySem.Spec PyProof.Rows
section
variable {prog : Program} {w : World} {A : Around} {E : Value → Shared → Prop} {s : Shared}
end
end L2

/-! ## a set walked through in a drawn order; its iterator made -/
namespace L2
open PySem PySem.Spec PyProof.Rows
section
variable {prog : Program} {w : World} {A : Around} {E : Value → Shared → Prop} {s : Shared}
def IsPl (h : Heap) (b : Addr) (pl : List Nat) : Prop := ∃ o n, h.get? b = some o ∧ o.data = .seq (pl.map fun (i : Nat) => rawInt (i : Int)).toArray n
theorem IsPl.keep {h h' : Heap} {b : Addr} {pl : List Nat} (x : IsPl h b pl) (e : ∀ o, h.get? b = some o → h'.get? b = some o) : IsPl h' b pl := let ⟨o, n, p, q⟩ := x; ⟨o, n, e _ p, q⟩
end
end L2

/-! ## sorted(set of ints) -/
namespace L2
open PySem PySem.Spec PyProof.Rows
section
variable {prog : Program} {w : World} {A B : Around} {E : Value → Shared → Prop} {s : Shared}
end
end L2

/-! ## a set's items as a list; sorted(set of ints) -/
namespace L2
open PySem PySem.Spec PyProof.Rows
section
variable {prog : Program} {w : World} {A : Around} {E : Value → Shared → Prop} {s : Shared}
end
end L2

/-! ## sorted(set(list of ints)) -/
namespace L2
open PySem PySem.Spec PyProof.Rows
section
variable {prog : Program} {w : World} {A : Around} {E : Value → Shared → Prop} {s : Shared}
end
section
variable {X : Cx} {p p2 pos pos2 : Pos} {e : Expr} {t : TA}
end
end L2

/-! ## pieces drawn together: trees with some ties and without others -/
namespace My
open PySem L2
section
variable {n : Int} {ps : List (Int × Int)} {I O S : List Int} {f g : Nat → Nat} {k : Nat}
end
end My

/-! ## marks numbered in their order -/
namespace My
open PySem L2
section
variable {N : Nat} {es : List (Nat × Nat)} {F : List Int}
end
end My

/-! ## counts with and without, when a tie is left out or drawn together -/
namespace My
open PySem L2
end My

/-! ## counts that meet: by one tie, over all ties, turned about -/
namespace My
open PySem L2
end My

/-! ## a list out of another one, from its end -/
namespace My
open PySem L2
section
variable {K : PySem.W.Frag} {a : Addr} {xs : List V} {g : TG} {tt : TT} {te : TE} {o : Nat} {fr : List Nat} {σ : St} {H : Hp} {Q : VK}
end
end My

/-! ## the number of a tree: how many are less -/
namespace My
open PySem L2
end My

/-! ## a tree found by its number, tie by tie -/
namespace My
open PySem L2
section
variable {n : Int} {ps : List (Int × Int)} {I O : List Int} {i b c : Nat}
end
end My

/-! ## the number of a tree in the row of all -/
namespace My
open PySem L2
end My

/-! ## abs(int) -/
namespace L2
open PySem PySem.Spec PyProof.Rows
section
variable {X : Cx}
end
end L2

/-! ## a piece of a list -/
namespace My
open PySem L2
theorem TupsV.drop {H : Hp} {xs : List V} {L : List (List Int)} (h : TupsV H xs L) (a : Nat) : TupsV H (xs.drop a) (L.drop a) := ⟨by rw [List.length_drop, List.length_drop, h.1], fun i l e => by
  rw [List.getElem?_drop] at e ⊢
  exact h.2 _ l e⟩
theorem TupsV.take {H : Hp} {xs : List V} {L : List (List Int)} (h : TupsV H xs L) (a : Nat) : TupsV H (xs.take a) (L.take a) := ⟨by rw [List.length_take, List.length_take, h.1], fun i l e => by
  rw [List.getElem?_take] at e ⊢
  split at e
  · rename_i c
    rw [if_pos c]
    exact h.2 _ l e
  · cases e⟩
end My

/-! ## steps of a block told once; try: .. except W: without a name -/
namespace My
open PySem L2
theorem contS {s rest : TS} {D : Ends} {σ : L2.St} {H : Hp} (P : L2.St → Hp → Prop) (h1 : ∀ σ' H', P σ' H' → rest D σ' H') (h2 : ∀ K : L2.St → Hp → Prop, (∀ σ' H', P σ' H' → K σ' H') → s { D with nx := K } σ H) : tSeq s rest D σ H := h2 _ h1
end My
namespace L2
open PySem PySem.Spec PyProof.Rows
end L2

/-! ## tuple < tuple, of ints -/
namespace L2
open PySem PySem.Spec PyProof.Rows
section
variable {X : Cx}
end
end L2

/-! ## how many trees there can be; ranks and order; trees tie by tie -/
namespace My
open PySem L2
end My

/-! ## tuple <= tuple, of ints; a <= b <= c <= d <= e -/
namespace HT
open PySem PyProof.Rows
section
open PySem.SeqAt
open PySem.AutoSeq1 (wpAny_loadPart')
open PySem.MeetsSeq PySem.MeetsSeq2 PySem.MeetsSeq3
end
section
variable {prog : Program} {w : World} {A : Around} {E : Value → Shared → Prop} {s : Shared}
end
end HT
namespace L2
open PySem PySem.Spec PyProof.Rows
section
variable {X : Cx}
end
end L2

/-! ## webs made so that they hang together -/
namespace My
open PySem L2
theorem PairsV.ins {H : Hp} {xs : List V} {ps : List (Int × Int)} {v : V} {p : Int × Int} (h : PairsV H xs ps) (hv : PairV H v p) (j : Nat) (hj : j ≤ ps.length) : PairsV H (xs.take j ++ v :: xs.drop j) (ps.take j ++ p :: ps.drop j) := by
  have hl := h.1
  refine ⟨by rw [List.length_append, List.length_append, List.length_cons, List.length_cons, List.length_take, List.length_take, List.length_drop, List.length_drop]; omega, fun i q e => ?_⟩
  rcases (by omega : i < j ∨ i = j ∨ j < i) with c | c | c
  · rw [List.getElem?_append_left (by rw [List.length_take]; omega), List.getElem?_take_of_lt c] at e
    rw [List.getElem?_append_left (by rw [List.length_take]; omega), List.getElem?_take_of_lt c]
    exact h.2 i q e
  · rw [List.getElem?_append_right (by rw [List.length_take]; omega), List.length_take, show i - min j ps.length = 0 by omega] at e
    rw [List.getElem?_append_right (by rw [List.length_take]; omega), List.length_take, show i - min j xs.length = 0 by omega]
    obtain rfl := Option.some.inj e
    exact ⟨v, rfl, hv⟩
  · rw [List.getElem?_append_right (by rw [List.length_take]; omega), List.length_take, show i - min j ps.length = (i - j - 1) + 1 by omega, List.getElem?_cons_succ, List.getElem?_drop, show j + (i - j - 1) = i - 1 by omega] at e
    rw [List.getElem?_append_right (by rw [List.length_take]; omega), List.length_take, show i - min j xs.length = (i - j - 1) + 1 by omega, List.getElem?_cons_succ, List.getElem?_drop, show j + (i - j - 1) = i - 1 by omega]
    exact h.2 _ q e
end My

/-! ## a list whose own name is seen by a list within it -/
namespace L2
open PySem PySem.Spec PyProof.Rows
section
variable {M : Model} {A : Around} {E : Value → Shared → Prop} {s : Shared}
end
/-- as CompScope, with one own name xo that is seen by a list within -/
structure CompScopeD (sc0 : Scope) (N N' : List Str) (o : Nat) (fr : List Nat) (scope : Scope) (xo : Str) : Prop where
  kind : scope.kind = .function
  one : (scope.names.filter fun y => y.2 == .cell) = [(xo, .cell)]
  loc : (scope.names.all fun y => y.2 != .local || scope.names.lookup y.1 == some .local) = true
  free : (scope.names.all fun y => y.2 != .free || (y.1 != xo && (sc0.names.lookup y.1 == some .cell || sc0.names.lookup y.1 == some .free))) = true
  len : N'.length = o + fr.length
  sees : ((List.range fr.length).all fun j => match fr[j]? with
    | none => false
    | some y => match N[y]? with
      | none => false
      | some x => N'[o + j]? == some x && scope.names.lookup x == some .free) = true
section
variable {X : Cx} {pins : List (Addr × Obj)} {σ : St} {H : Hp} {s : Shared} {N' : List Str} {o : Nat} {fr : List Nat} {scope : Scope} {fp : List Addr} {xo : Str}
end

section
variable {xo : Str} {X : Cx} {N' : List Str} {o : Nat} {fr : List Nat} {scope : Scope} {elt tg iter : Expr} {ifs : List Expr} {pos : Pos} {wi : TI} {g : TG} {tt : TT} {te : TE}
end
end L2

/-! ## sums over trees: weights -/
namespace My
open PySem L2
end My

/-! ## for x, y in zip(list, tuple) -/
namespace L2
open PySem PySem.Spec PyProof.Rows
section
variable {prog : Program} {w : World} {A : Around} {E : Value → Shared → Prop} {s : Shared}
end
end L2

/-! ## for x, y in zip(list, list or tuple) -/
namespace L2
open PySem PySem.Spec PyProof.Rows
section
variable {prog : Program} {w : World} {A : Around} {E : Value → Shared → Prop} {s : Shared}
end
section
variable {X : Cx}
end
end L2
namespace My
open PySem L2
end My

/-! ## trees sorted by the ties of a set: numbers as figures of a sum -/
namespace My
open PySem L2
/-- the number with these figures, the first one the least -/
def ev (b : Int) : List Int → Int
  | [] => 0
  | d :: l => d + b * ev b l
end My

/-! ## one more place, tied to each with the same weight -/
namespace My
open PySem L2
end My

/-! ## the trees of the web with one more place, sorted by the ties at that place -/
namespace My
open PySem L2
end My

/-! ## list.count -/
namespace L2
open PySem PySem.Spec PyProof.Rows
section
variable {X : Cx}
end
end L2

/-! ## forests with a chosen place of each piece -/
namespace My
open PySem L2
end My

/-! ## the trees of the web with one more place, by their ties of the web -/
namespace My
open PySem L2
end My

/-! ## the web whose trees are the cheapest ones -/
namespace My
open PySem L2
/-! ### marks: each the least place of its piece -/
section
variable {n : Nat} {es : List (Nat × Nat)} (h : InN n es)
include h
end
/-! ### the ties of the web by their lengths -/
abbrev lnz (ls : List Int) (z : Int) : Int := ls.getD z.toNat 0
def lwS (ls : List Int) (x : Int) : List Int := (rgL ls.length).filter fun z => decide (lnz ls z < x)
/-- the marks below and up to a length -/
def mA (N : Nat) (ps : List (Int × Int)) (ls : List Int) (x : Int) : List Int := pms N (endsOf ps (lwS ls x))
section
variable {n : Int} {ps : List (Int × Int)} {ls T : List Int} (g : GoodW n ps) (hl : ls.length = ps.length)
include g hl
end
end My

/-! ## sums that meet: sorts turned, forests of few and of all pieces, weights scaled -/
namespace My
open PySem L2
/-! ### forests of no, of one and of all pieces -/
/-! ### the web with one more place, and weights scaled -/
end My

/-! ## sum of a tuple of ints -/
namespace L2
open PySem PySem.Spec PyProof.Rows
section
variable {prog : Program} {w : World} {A : Around} {E : Value → Shared → Prop} {s : Shared} {l : Addr} {xs : Array (Int × Tok)}
end
section
variable {X : Cx}
end
end L2

/-! ## the trees of that web are the trees without a gain, the cheapest ones -/
namespace My
open PySem L2
section
variable {n : Int} {ps : List (Int × Int)} {ls T : List Int} (g : GoodW n ps) (hl : ls.length = ps.length)
include g hl
omit hl in
end
end My

/-! ## the steps that make the web of the cheapest -/
namespace My
open PySem L2
section
variable {n : Int} {ps : List (Int × Int)} {ls Ls S : List Int} {j : Nat} {x : Int} (g : GoodW n ps) (hl : ls.length = ps.length) (hLa : Ls.Pairwise (· < ·)) (hLm : ∀ z, z ∈ Ls ↔ z ∈ ls) (hx : Ls[j]? = some x)
include hLa hx
include g hl hLm
end
end My

/-! ## the trees without a gain are those of least length -/
namespace My
open PySem L2
section
variable {n : Int} {ps : List (Int × Int)} {ls T : List Int} (g : GoodW n ps)
include g
end
end My

/-! ## sorted(list of empty tuples) -/
namespace L2
open PySem PySem.Spec PyProof.Rows My
section
variable {prog : Program} {w : World} {A : Around} {E : Value → Shared → Prop} {s : Shared}
end
section
variable {X : Cx}
end
end L2

/-! ## sorted(list of two tuples that stand in their order) -/
namespace L2
open PySem PySem.Spec PyProof.Rows My
section
variable {M : Model} {A : Around} {E : Value → Shared → Prop} {s : Shared}
end
section
variable {prog : Program} {w : World} {A : Around} {E : Value → Shared → Prop} {s : Shared}
end
section
variable {X : Cx}
end
end L2

/-! ## walks turned round -/
namespace My
open PySem L2
theorem Wk.cons {n : Int} {ps : List (Int × Int)} {T T' : List Int} {o z : Int} (h1 : exg n ps T o z) (h2 : T'.Perm (wo T o ++ [z])) (h3 : T'.Pairwise (· ≤ ·)) {ws : List (Int × Int)} {U : List Int} (h : Wk n ps T' ws U) : Wk n ps T ((o, z) :: ws) U := by
  induction h with
  | nil => exact Wk.step (ws := []) .nil h1 h2 h3
  | step k1 k2 k3 k4 ih => exact Wk.step (ws := (o, z) :: _) ih k2 k3 k4
end My
namespace My
open PySem L2
theorem Wk.at {n : Int} {ps : List (Int × Int)} {T0 : List Int} {ws : List (Int × Int)} {U : List Int} (h : Wk n ps T0 ws U) : ∀ (i : Nat) (o z : Int), ws[i]? = some (o, z) → ∃ T, Wk n ps T0 (ws.take i) T ∧ exg n ps T o z := by
  induction h with
  | nil => intro i o z e; simp at e
  | @step ws T T' o z k1 k2 k3 k4 ih =>
    intro i o' z' e
    by_cases c : i < ws.length
    · rw [List.getElem?_append_left c] at e
      rw [List.take_append_of_le_length (by omega)]
      exact ih i o' z' e
    · have hi := (List.getElem?_eq_some_iff.mp e).1
      rw [List.length_append] at hi
      have hi : i = ws.length := by have : [(o, z)].length = 1 := rfl; omega
      subst hi
      rw [List.getElem?_append_right (Nat.le_refl _), Nat.sub_self] at e
      cases e
      rw [List.take_append_of_le_length (Nat.le_refl _), List.take_length]
      exact ⟨T, k1, k2⟩
end My

/-! ## the numbers that solve a table -/
namespace My
open PySem L2
end My

/-! ## fractions in least terms -/
namespace My
open PySem L2
/-- p / q is x / y in least terms -/
def LowF (x y p q : Int) : Prop := 0 < q ∧ Int.gcd p q = 1 ∧ p * y = x * q
end My

/-! ## a web's table without any one of its places -/
namespace My
open PySem L2
end My

/-! ## the heights of a web's places -/
namespace My
open PySem L2
end My

/-! ## sums of fractions with one bottom -/
namespace My
open PySem L2
end My

/-! ## heights: the same both ways; the trees that hold a tie -/
namespace My
open PySem L2
end My

/-! ## leans -/
namespace My
open PySem L2
end My

/-! ## shares by heights -/
namespace My
open PySem L2
end My

/-! ## rows of fractions, and heights by their balance -/
namespace My
open PySem L2
/-- fractions in least terms, each a whole number by W -/
def FrL (W : Int) (B : Nat) (fs : List (Int × Int)) : Prop := ∀ f ∈ fs, ∃ x : Int, x.natAbs ≤ B ∧ LowF x W f.1 f.2
def FrB (B : Nat) (fs : List (Int × Int)) : Prop := ∃ W : Int, 0 < W ∧ W.natAbs ≤ B ∧ FrL W B fs
theorem FrB.mono {B C : Nat} {fs : List (Int × Int)} (h : FrB B fs) (hc : B ≤ C) : FrB C fs := by
  obtain ⟨W, a, b, c⟩ := h
  exact ⟨W, a, Nat.le_trans b hc, fun f hf => by obtain ⟨x, h1, h2⟩ := c f hf; exact ⟨x, Nat.le_trans h1 hc, h2⟩⟩
end My

/-! ## chains of rings of bundles -/
namespace My
open PySem L2
/-! ties one by one -/
end My

/-! ## rings of bundles, tie by tie -/
namespace My
open PySem L2
end My

/-! ## for x, y in zip(tuple, tuple) -/
namespace L2
open PySem PySem.Spec PyProof.Rows
section
variable {prog : Program} {w : World} {A : Around} {E : Value → Shared → Prop} {s : Shared}
end
end L2

/-! ## zip of two lists or two tuples -/
namespace L2
open PySem PySem.Spec PyProof.Rows
section
variable {prog : Program} {w : World} {A : Around} {E : Value → Shared → Prop} {s : Shared}
end
section
variable {X : Cx}
end
end L2
namespace My
open PySem L2
section
variable {K : PySem.W.Frag} {kd : Bool} {a b : Addr} {xs ys : List V} {g : TG} {tt : TT} {te : TE} {o : Nat} {fr : List Nat} {σ : St} {H : Hp} {Q : VK}
end
end My

/-! ## a list out of zip(list, list or tuple) -/
namespace My
open PySem L2
section
variable {K : PySem.W.Frag} {kd : Bool} {a b : Addr} {xs ys : List V} {g : TG} {tt : TT} {te : TE} {o : Nat} {fr : List Nat} {σ : St} {H : Hp} {Q : VK}
end
end My

/-! ## for i, x in enumerate(tuple), and of a list or a tuple -/
namespace L2
open PySem PySem.Spec PyProof.Rows
section
variable {prog : Program} {w : World} {A : Around} {E : Value → Shared → Prop} {s : Shared}
end
section
variable {X : Cx}
end
end L2

/-! ## set(tuple of ints); sorted(set(list or tuple)) -/
namespace L2
open PySem PySem.Spec PyProof.Rows
section
variable {prog : Program} {w : World} {A : Around} {E : Value → Shared → Prop} {s : Shared}
end
section
variable {X : Cx} {p p2 pos pos2 : Pos} {e : Expr} {t : TA}
end
end L2

/-! ## loops over enumerate of a list or a tuple; t < u of any two tuples; min of a list of pairs (int, tuple of ints) -/
namespace My
open PySem L2
section
variable {K : PySem.W.Frag} {kd : Bool} {a : Addr} {xs : List V} {g : TG} {tt : TT} {te : TE} {o : Nat} {fr : List Nat} {σ : St} {H : Hp} {Q : VK}
end
end My
namespace HT
open PySem PyProof.Rows
section
open PySem.SeqAt
open PySem.AutoSeq1 (wpAny_loadPart')
open PySem.MeetsSeq PySem.MeetsSeq2 PySem.MeetsSeq3
end
section
variable {prog : Program} {w : World} {A : Around} {E : Value → Shared → Prop} {s : Shared}
end
end HT
namespace My
open PySem L2
end My
namespace L2
open PySem PySem.Spec PyProof.Rows
section
variable {prog : Program} {w : World} {A : Around} {I S : Addr} {fp wr : List Addr} {n : Nat} {P : Nat → Value → Prop} {St : Nat → Heap → Prop} {R : Result → Shared → Prop}
end
section
variable {X : Cx}
end
end L2

/-! ## sorted(d.keys()), the keys ints -/
namespace L2
open PySem PySem.Spec PyProof.Rows
section
variable {prog : Program} {w : World} {A : Around} {E : Value → Shared → Prop} {s : Shared}
end
section
variable {X : Cx}
end
end L2

/-! ## turns: the darts of each place; the dart behind; rounds -/
namespace My
open PySem L2
/-- the dart the other way -/
def bkD (d : Int) : Int := if d % 2 = 0 then d + 1 else d - 1
/-- the place from which a dart leads -/
def ownD (ps : List (Int × Int)) (x : Int) : Int := if x % 2 = 0 then (ps.getD (x / 2).toNat (0, 0)).1 else (ps.getD (x / 2).toNat (0, 0)).2
/-- the darts of a place among the first i ties, ascending -/
def dtU (ps : List (Int × Int)) (p : Int) : Nat → List Int
  | 0 => []
  | i + 1 => dtU ps p i ++ (if (ps.getD i (0, 0)).1 = p then [2 * (i : Int)] else []) ++ (if (ps.getD i (0, 0)).2 = p then [2 * (i : Int) + 1] else [])
def dts (ps : List (Int × Int)) (p : Int) : List Int := dtU ps p ps.length
theorem dtU_mem {ps : List (Int × Int)} {p x : Int} : ∀ {i : Nat}, x ∈ dtU ps p i ↔ (0 ≤ x ∧ x < 2 * (i : Int)) ∧ ownD ps x = p
  | 0 => by
    constructor
    · intro h; cases h
    · rintro ⟨h, _⟩; omega
  | i + 1 => by
    have e0 : ownD ps (2 * (i : Int)) = (ps.getD i (0, 0)).1 := by
      unfold ownD
      rw [if_pos (by omega), show (2 * (i : Int) / 2).toNat = i by omega]
    have e1 : ownD ps (2 * (i : Int) + 1) = (ps.getD i (0, 0)).2 := by
      unfold ownD
      rw [if_neg (by omega), show ((2 * (i : Int) + 1) / 2).toNat = i by omega]
    show x ∈ dtU ps p i ++ (if (ps.getD i (0, 0)).1 = p then [2 * (i : Int)] else []) ++ (if (ps.getD i (0, 0)).2 = p then [2 * (i : Int) + 1] else []) ↔ _
    rw [List.mem_append, List.mem_append, dtU_mem]
    constructor
    · rintro ((⟨h1, h2⟩ | h) | h)
      · exact ⟨⟨h1.1, by omega⟩, h2⟩
      · split at h
        · rename_i hp
          rw [List.mem_singleton.mp h]
          exact ⟨⟨by omega, by omega⟩, e0.trans hp⟩
        · cases h
      · split at h
        · rename_i hp
          rw [List.mem_singleton.mp h]
          exact ⟨⟨by omega, by omega⟩, e1.trans hp⟩
        · cases h
    · rintro ⟨⟨h1, h2⟩, h3⟩
      by_cases c : x < 2 * (i : Int)
      · exact .inl (.inl ⟨⟨h1, c⟩, h3⟩)
      · by_cases c2 : x = 2 * (i : Int)
        · subst c2
          rw [e0] at h3
          rw [if_pos h3]
          exact .inl (.inr (List.mem_singleton.mpr rfl))
        · have c3 : x = 2 * (i : Int) + 1 := by omega
          subst c3
          rw [e1] at h3
          rw [if_pos h3]
          exact .inr (List.mem_singleton.mpr rfl)
theorem dtU_asc {ps : List (Int × Int)} {p : Int} : ∀ i, (dtU ps p i).Pairwise (· < ·)
  | 0 => .nil
  | i + 1 => by
    show (dtU ps p i ++ (if (ps.getD i (0, 0)).1 = p then [2 * (i : Int)] else []) ++ (if (ps.getD i (0, 0)).2 = p then [2 * (i : Int) + 1] else [])).Pairwise _
    refine List.pairwise_append.mpr ⟨List.pairwise_append.mpr ⟨dtU_asc i, by split <;> simp, fun a ha b hb => ?_⟩, by split <;> simp, fun a ha b hb => ?_⟩
    · have := (dtU_mem.mp ha).1
      split at hb
      · rw [List.mem_singleton.mp hb]; exact this.2
      · cases hb
    · split at hb
      · rw [List.mem_singleton.mp hb]
        rcases List.mem_append.mp ha with h | h
        · have := (dtU_mem.mp h).1
          omega
        · split at h
          · rw [List.mem_singleton.mp h]; omega
          · cases h
      · cases hb
theorem dts_mem {ps : List (Int × Int)} {p x : Int} : x ∈ dts ps p ↔ (0 ≤ x ∧ x < 2 * (ps.length : Int)) ∧ ownD ps x = p := dtU_mem
theorem dts_asc {ps : List (Int × Int)} {p : Int} : (dts ps p).Pairwise (· < ·) := dtU_asc _
/-- the turns hold each dart once, at its place -/
def VT (n : Nat) (ps : List (Int × Int)) (ts : List (List Int)) : Prop := ts.length = n ∧ ∀ (p : Nat) (row : List Int), ts[p]? = some row → row.Perm (dts ps (p : Int))
theorem asc_nd {l : List Int} (h : l.Pairwise (· < ·)) : l.Nodup := h.imp fun h => by omega
section
variable {n : Nat} {ps : List (Int × Int)} {ts : List (List Int)}
theorem VT.mem (h : VT n ps ts) {p : Nat} {row : List Int} (hp : ts[p]? = some row) {x : Int} : x ∈ row ↔ (0 ≤ x ∧ x < 2 * (ps.length : Int)) ∧ ownD ps x = p := by
  rw [(h.2 p row hp).mem_iff, dts_mem]
theorem VT.nodup (h : VT n ps ts) {p : Nat} {row : List Int} (hp : ts[p]? = some row) : row.Nodup := (h.2 p row hp).nodup_iff.mpr (asc_nd dts_asc)
end
/-- the darts behind, one row's first k -/
def bhR (row : List Int) (k : Nat) : List (Int × Int) := (List.range k).map fun i => (bkD (row.getD i 0), row.getD ((i + 1) % row.length) 0)
def bhL (ts : List (List Int)) : List (Int × Int) := ts.flatMap fun row => bhR row row.length
theorem bhL_mem {ts : List (List Int)} {x y : Int} : (x, y) ∈ bhL ts ↔ ∃ row ∈ ts, ∃ i, i < row.length ∧ x = bkD (row.getD i 0) ∧ y = row.getD ((i + 1) % row.length) 0 := by
  unfold bhL bhR
  rw [List.mem_flatMap]
  constructor
  · rintro ⟨row, hr, h⟩
    obtain ⟨i, hi, e⟩ := List.mem_map.mp h
    cases e
    exact ⟨row, hr, i, List.mem_range.mp hi, rfl, rfl⟩
  · rintro ⟨row, hr, i, hi, rfl, rfl⟩
    exact ⟨row, hr, List.mem_map.mpr ⟨i, List.mem_range.mpr hi, rfl⟩⟩
theorem getD_mem {l : List Int} {i : Nat} (h : i < l.length) : l.getD i 0 ∈ l := by
  rw [List.getD_eq_getElem?_getD, List.getElem?_eq_getElem h]
  exact List.getElem_mem h
theorem getD_inj {l : List Int} (hn : l.Nodup) {i j : Nat} (hi : i < l.length) (hj : j < l.length) (e : l.getD i 0 = l.getD j 0) : i = j := by
  rw [List.getD_eq_getElem?_getD, List.getD_eq_getElem?_getD, List.getElem?_eq_getElem hi, List.getElem?_eq_getElem hj] at e
  exact (List.getElem_inj hn).mp e
section
variable {n : Nat} {ps : List (Int × Int)} {ts : List (List Int)}
theorem row_eq (h : VT n ps ts) {r1 r2 : List Int} (h1 : r1 ∈ ts) (h2 : r2 ∈ ts) {x : Int} (hx1 : x ∈ r1) (hx2 : x ∈ r2) : r1 = r2 := by
  obtain ⟨p, hp⟩ := List.getElem?_of_mem h1
  obtain ⟨q, hq⟩ := List.getElem?_of_mem h2
  have a := ((h.mem hp).mp hx1).2
  have b := ((h.mem hq).mp hx2).2
  have : p = q := by omega
  subst this
  rw [hp] at hq
  exact Option.some.inj hq
theorem nd_row (h : VT n ps ts) {r : List Int} (hr : r ∈ ts) : r.Nodup := by
  obtain ⟨p, hp⟩ := List.getElem?_of_mem hr
  exact h.nodup hp
/-- and one ahead of it -/
theorem bh_inj (h : VT n ps ts) {x y z : Int} (h1 : (x, z) ∈ bhL ts) (h2 : (y, z) ∈ bhL ts) : x = y := by
  obtain ⟨r1, hr1, i, hi, rfl, e1⟩ := bhL_mem.mp h1
  obtain ⟨r2, hr2, j, hj, rfl, e2⟩ := bhL_mem.mp h2
  have e := e1.symm.trans e2
  have p1 : (i + 1) % r1.length < r1.length := Nat.mod_lt _ (by omega)
  have p2 : (j + 1) % r2.length < r2.length := Nat.mod_lt _ (by omega)
  obtain rfl := row_eq h hr1 hr2 (getD_mem p1) (by rw [e]; exact getD_mem p2)
  have k := getD_inj (nd_row h hr1) p1 p2 e
  have : i = j := by
    by_cases c1 : i + 1 = r1.length
    · by_cases c2 : j + 1 = r1.length
      · omega
      · rw [c1, Nat.mod_self, Nat.mod_eq_of_lt (by omega)] at k
        omega
    · by_cases c2 : j + 1 = r1.length
      · rw [c2, Nat.mod_self, Nat.mod_eq_of_lt (by omega)] at k
        omega
      · rw [Nat.mod_eq_of_lt (by omega), Nat.mod_eq_of_lt (by omega)] at k
        omega
  rw [this]
end
/-- a way that comes back to where it began, each dart once -/
def Orb (B : List (Int × Int)) (d : Int) (row : List Int) : Prop := row[0]? = some d ∧ row.Nodup ∧ (∀ i x y, row[i]? = some x → row[i + 1]? = some y → (x, y) ∈ B) ∧ ∀ x, row[row.length - 1]? = some x → (x, d) ∈ B
theorem Orb.pos {B : List (Int × Int)} {d : Int} {row : List Int} (h : Orb B d row) : 0 < row.length := (List.getElem?_eq_some_iff.mp h.1).1
/-- what comes ahead of a dart of a round is in it -/
theorem Orb.ahead {B : List (Int × Int)} (hi : ∀ x y z, (x, z) ∈ B → (y, z) ∈ B → x = y) {d : Int} {row : List Int} (h : Orb B d row) {x y : Int} (hy : y ∈ row) (hb : (x, y) ∈ B) : x ∈ row := by
  obtain ⟨i, hi'⟩ := List.getElem?_of_mem hy
  have p := h.pos
  cases i with
  | zero =>
    rw [h.1] at hi'
    have e : d = y := Option.some.inj hi'
    obtain ⟨z, hz⟩ : ∃ z, row[row.length - 1]? = some z := ⟨_, List.getElem?_eq_getElem (by omega)⟩
    rw [hi _ _ _ hb (e ▸ h.2.2.2 z hz)]
    exact List.mem_of_getElem? hz
  | succ i =>
    have lt := (List.getElem?_eq_some_iff.mp hi').1
    obtain ⟨z, hz⟩ : ∃ z, row[i]? = some z := ⟨_, List.getElem?_eq_getElem (by omega)⟩
    rw [hi _ _ _ hb (h.2.2.1 i z y hz hi')]
    exact List.mem_of_getElem? hz
/-- the beginning of a way: from d, by B, to its last, behind which comes c -/
def Way (B : List (Int × Int)) (d c : Int) (row : List Int) : Prop := row.Nodup ∧ (∀ i x y, row[i]? = some x → row[i + 1]? = some y → (x, y) ∈ B) ∧ ((row = [] ∧ c = d) ∨ (row[0]? = some d ∧ ∀ x, row[row.length - 1]? = some x → (x, c) ∈ B))
theorem Way.snoc {B : List (Int × Int)} {d c e : Int} {row : List Int} (h : Way B d c row) (hn : c ∉ row) (hb : (c, e) ∈ B) : Way B d e (row ++ [c]) := by
  obtain ⟨h1, h2, h3⟩ := h
  refine ⟨nd_snoc h1 hn, fun i x y ex ey => ?_, .inr ⟨?_, fun x ex => ?_⟩⟩
  · have lt := (List.getElem?_eq_some_iff.mp ey).1
    rw [List.length_append, List.length_singleton] at lt
    by_cases c1 : i + 1 < row.length
    · rw [List.getElem?_append_left (by omega)] at ex
      rw [List.getElem?_append_left c1] at ey
      exact h2 i x y ex ey
    · rw [List.getElem?_append_left (by omega)] at ex
      rw [List.getElem?_append_right (by omega), show i + 1 - row.length = 0 by omega] at ey
      have ey : c = y := Option.some.inj ey
      rcases h3 with ⟨rfl, _⟩ | ⟨_, h3⟩
      · simp at ex
      · rw [← ey]
        exact h3 x (by rw [show row.length - 1 = i by omega]; exact ex)
  · rcases h3 with ⟨rfl, rfl⟩ | ⟨h3, _⟩
    · rfl
    · rw [List.getElem?_append_left (List.getElem?_eq_some_iff.mp h3).1]; exact h3
  · rw [List.length_append, List.length_singleton, Nat.add_sub_cancel, List.getElem?_append_right (Nat.le_refl _), Nat.sub_self] at ex
    have ex : c = x := Option.some.inj ex
    rw [← ex]; exact hb
/-- the rounds that begin below k, in the order of their least darts -/
def Rds (B : List (Int × Int)) : Nat → List (List Int) → Prop
  | 0, R => R = []
  | k + 1, R => ∃ R', Rds B k R' ∧ (((k : Int) ∈ R'.flatten ∧ R = R') ∨ ((k : Int) ∉ R'.flatten ∧ ∃ row, Orb B k row ∧ R = R' ++ [row]))
theorem Rds.orbs {B : List (Int × Int)} : ∀ {k : Nat} {R : List (List Int)}, Rds B k R → ∀ row ∈ R, ∃ d, Orb B d row
  | 0, _, h, row, hr => by rw [show _ = [] from h] at hr; cases hr
  | k + 1, _, ⟨Q, a, b⟩, row, hr => by
    rcases b with ⟨_, rfl⟩ | ⟨_, r, o, rfl⟩
    · exact Rds.orbs a row hr
    · rcases List.mem_append.mp hr with e | e
      · exact Rds.orbs a row e
      · rw [List.mem_singleton.mp e]; exact ⟨_, o⟩
theorem Rds.below {B : List (Int × Int)} : ∀ {k : Nat} {R : List (List Int)}, Rds B k R → ∀ x : Int, 0 ≤ x → x < (k : Int) → x ∈ R.flatten
  | 0, _, _, x, h0, h1 => by omega
  | k + 1, _, ⟨Q, a, b⟩, x, h0, h1 => by
    rcases b with ⟨c, rfl⟩ | ⟨_, r, o, rfl⟩
    · by_cases e : x = (k : Int)
      · rw [e]; exact c
      · exact Rds.below a x h0 (by omega)
    · rw [List.flatten_append, List.mem_append]
      by_cases e : x = (k : Int)
      · rw [e]
        refine .inr ?_
        simp only [List.flatten_cons, List.flatten_nil, List.append_nil]
        exact List.mem_of_getElem? o.1
      · exact .inl (Rds.below a x h0 (by omega))
theorem Rds.ahead {B : List (Int × Int)} (hi : ∀ x y z, (x, z) ∈ B → (y, z) ∈ B → x = y) {k : Nat} {R : List (List Int)} (h : Rds B k R) {x y : Int} (hy : y ∈ R.flatten) (hb : (x, y) ∈ B) : x ∈ R.flatten := by
  obtain ⟨row, hr, hm⟩ := List.mem_flatten.mp hy
  obtain ⟨d, o⟩ := h.orbs row hr
  exact List.mem_flatten.mpr ⟨row, hr, o.ahead hi hm hb⟩
theorem orb_range {B : List (Int × Int)} {M : Int} (hr : ∀ x y, (x, y) ∈ B → (0 ≤ x ∧ x < M) ∧ 0 ≤ y ∧ y < M) {d : Int} {row : List Int} (h : Orb B d row) : ∀ x ∈ row, 0 ≤ x ∧ x < M := fun x hx => by
  obtain ⟨i, hi⟩ := List.getElem?_of_mem hx
  have lt := (List.getElem?_eq_some_iff.mp hi).1
  by_cases c : i + 1 < row.length
  · obtain ⟨y, hy⟩ : ∃ y, row[i + 1]? = some y := ⟨_, List.getElem?_eq_getElem c⟩
    exact (hr _ _ (h.2.2.1 i x y hi hy)).1
  · exact (hr _ _ (h.2.2.2 x (by rw [show row.length - 1 = i by omega]; exact hi))).1
theorem Rds.nodup {B : List (Int × Int)} (hi : ∀ x y z, (x, z) ∈ B → (y, z) ∈ B → x = y) : ∀ {k : Nat} {R : List (List Int)}, Rds B k R → R.flatten.Nodup
  | 0, _, h => by rw [show _ = [] from h]; exact .nil
  | k + 1, _, ⟨Q, a, b⟩ => by
    rcases b with ⟨_, rfl⟩ | ⟨c, r, o, rfl⟩
    · exact Rds.nodup hi a
    · rw [List.flatten_append]
      simp only [List.flatten_cons, List.flatten_nil, List.append_nil]
      refine List.nodup_append.mpr ⟨Rds.nodup hi a, o.2.1, fun x hx y hy e => ?_⟩
      subst e
      -- back along the round to its first
      obtain ⟨i, hi'⟩ := List.getElem?_of_mem hy
      have back : ∀ (i : Nat) (x : Int), r[i]? = some x → x ∈ Q.flatten → (k : Int) ∈ Q.flatten := by
        intro i
        induction i with
        | zero => intro x e hx; rw [o.1] at e; cases e; exact hx
        | succ i ih =>
          intro x e hx
          have lt := (List.getElem?_eq_some_iff.mp e).1
          obtain ⟨z, hz⟩ : ∃ z, r[i]? = some z := ⟨_, List.getElem?_eq_getElem (by omega)⟩
          exact ih z hz (a.ahead hi hx (o.2.2.1 i z x hz e))
      exact c (back i x hi' hx)
end My

/-! ## dicts of ints; sorted(list or tuple) -/
namespace L2
open PySem PySem.Spec PyProof.Rows
section
variable {X : Cx}
end
end L2
namespace My
open PySem L2
/-- a dict whose keys are these -/
def Kys (kvs : List (Key × V)) (S : List Int) : Prop := ∀ x : Int, (valV kvs (Sum.inl x)).isSome = true ↔ x ∈ S
theorem Kys.nil : Kys [] [] := fun x => by
  constructor
  · intro h; rw [valV_nil] at h; cases h
  · intro h; cases h
end My

/-! ## a list of own lists that are written into; mixed results -/
namespace My
open PySem L2
/-- own lists at r, made since H0 -/
structure JagAt (H0 : Hp) (r : Addr) (H : Hp) (ys : List V) (L : List (List Int)) : Prop where
  tab : H r = some (.lst ys)
  rows : Bears (LiV r H) ys L
  nd : ys.Nodup
  new : ∀ A, V.ref A ∈ ys → H0 A = none
theorem JagAt.at {H0 H : Hp} {r : Addr} {ys : List V} {L : List (List Int)} (h : JagAt H0 r H ys L) {i : Nat} (hi : i < L.length) : ∃ (A : Addr) (l : List Int), ys[i]? = some (.ref A) ∧ L[i]? = some l ∧ H A = some (.lst (IL l)) ∧ H0 A = none ∧ A ≠ r := by
  obtain ⟨l, e⟩ : ∃ l, L[i]? = some l := ⟨_, List.getElem?_eq_getElem hi⟩
  obtain ⟨v, e1, A, rfl, e2, e3⟩ := h.rows.2 i l e
  exact ⟨A, l, e1, e, e2, h.new A (List.mem_of_getElem? e1), e3⟩
end My

/-! ## more of own lists; rounds of turns -/
namespace My
open PySem L2
theorem JagAt.nil {H0 : Hp} {r : Addr} {H : Hp} (h : H r = some (.lst [])) : JagAt H0 r H [] [] := ⟨h, ⟨rfl, fun i l e => by simp at e⟩, .nil, fun A h => by cases h⟩
theorem JagAt.snoc {H0 H : Hp} {r A : Addr} {ys : List V} {L : List (List Int)} {l : List Int} (h : JagAt H0 r H ys L) (hA : H A = some (.lst (IL l))) (h0 : H0 A = none) (hne : A ≠ r) (hny : V.ref A ∉ ys) : JagAt H0 r (upd H r (.lst (ys ++ [.ref A]))) (ys ++ [.ref A]) (L ++ [l]) := by
  refine ⟨upd_same, ?_, nd_snoc h.nd hny, fun B hB => ?_⟩
  · exact (h.rows.imp fun _ _ q => q.mut).snoc ⟨A, rfl, by rw [upd_ne hne]; exact hA, hne⟩
  · rcases List.mem_append.mp hB with e | e
    · exact h.new B e
    · have : B = A := by simpa using e
      rw [this]; exact h0
/-- all rounds of the turns -/
def RdW (ps : List (Int × Int)) (ts : List (List Int)) (R : List (List Int)) : Prop := (ps.length = 0 ∧ R = [[]]) ∨ (0 < ps.length ∧ Rds (bhL ts) (2 * ps.length) R)
theorem Rds.range {B : List (Int × Int)} {M : Int} (hr : ∀ x y, (x, y) ∈ B → (0 ≤ x ∧ x < M) ∧ 0 ≤ y ∧ y < M) {k : Nat} {R : List (List Int)} (h : Rds B k R) : ∀ x ∈ R.flatten, 0 ≤ x ∧ x < M := fun x hx => by
  obtain ⟨row, h1, h2⟩ := List.mem_flatten.mp hx
  obtain ⟨d, o⟩ := h.orbs row h1
  exact orb_range hr o x h2
end My

/-! ## turns with one tie more -/
namespace My
open PySem L2
section
variable {n : Nat} {ps : List (Int × Int)} {ts : List (List Int)}
theorem VT.place (h : VT n ps ts) {x : Int} {p q : Nat} {row row' : List Int} (hp : ts[p]? = some row) (hx : x ∈ row) (hq : ts[q]? = some row') : x ∈ row' ↔ (p : Int) = q := by
  have a := ((h.mem hp).mp hx)
  constructor
  · intro hx'
    have b := ((h.mem hq).mp hx').2
    omega
  · intro e
    exact (h.mem hq).mpr ⟨a.1, by omega⟩
end
/-- of which place a dart is: the dict -/
def plR (row : List Int) (k : Int) : List (Int × Int) := row.map fun d => (d, k)
def plL (ts : List (List Int)) : Nat → List (Int × Int)
  | 0 => []
  | i + 1 => plL ts i ++ plR (ts.getD i []) i
end My

/-! ## short displays in one step (nested pa_cons are slow to read) -/
namespace L2
open PySem PySem.Spec PyProof.Rows
section
variable {X : Cx} {a b c : Expr} {ta tb tc : TE} {pos : Pos}
theorem pe_lst1 (ha : PE X a ta) (h1 : starEach [a] X.env = [(false, eval a X.env)] := by rfl) : PE X (.List [a] pos) (tLst (tCons ta tNil)) := pe_lst (pa_cons ha pa_nil h1)
end
end L2

/-! ## flat webs: numbers of rounds, the other web's ties; spoilt turns -/
namespace My
open PySem L2
/-- where the web lies flat by its rounds -/
def Flat (n : Int) (ps : List (Int × Int)) (R : List (List Int)) : Prop := Joined n ps ∧ n - (ps.length : Int) + (R.length : Int) = 2
/-- the number of a dart's round -/
def rnR (R : List (List Int)) (d : Int) : Int := ((plL R R.length).find? fun p => decide (p.1 = d)).elim 0 (·.2)
def owT (R : List (List Int)) (m : Nat) : List (Int × Int) := (List.range m).map fun (k : Nat) => (rnR R (2 * (k : Int)), rnR R (2 * (k : Int) + 1))
theorem RdW.nodup {n : Nat} {ps : List (Int × Int)} {ts R : List (List Int)} (hV : VT n ps ts) (h : RdW ps ts R) : R.flatten.Nodup := by
  rcases h with ⟨_, rfl⟩ | ⟨_, h⟩
  · exact .nil
  · exact h.nodup fun x y z => bh_inj hV
theorem RdW.all {n : Nat} {ps : List (Int × Int)} {ts R : List (List Int)} (hV : VT n ps ts) (h : RdW ps ts R) {x : Int} (hx : 0 ≤ x ∧ x < 2 * (ps.length : Int)) : x ∈ R.flatten := by
  rcases h with ⟨h0, _⟩ | ⟨_, h⟩
  · omega
  · exact h.below x hx.1 (by omega)
end My

/-! ## x == y, each a text or a tuple -/
namespace L2
open PySem PySem.Spec PyProof.Rows
section
variable {X : Cx}
end
end L2

/-! ## what is told of the other web -/
namespace My
open PySem L2
end My

/-! ## rounds in any order, and with one tie more -/
namespace My
open PySem L2
section
variable {n : Nat} {ps : List (Int × Int)} {ts R L : List (List Int)}
end
/-! neighbours in a ring of darts -/
/-! the dart behind, with one tie more -/
section
variable {one d0 d1 : Int} {other : Option Int}
def hdD (one : Int) (other : Option Int) (d0 d1 y : Int) : Int := if y = one then d0 else if some y = other then d1 else y
end
/-! the rounds, with one tie more -/
section
variable {B B' : List (Int × Int)} {one d0 d1 : Int} {other : Option Int}
section
variable {M : Nat} {L : List (List Int)}
end
end
end My

/-! ## grown webs lie flat -/
namespace My
open PySem L2
section
variable {n : Nat} {ps : List (Int × Int)} {ts : List (List Int)}
end
end My

/-! ## the other web: its turns, its rounds -/
namespace My
open PySem L2
section
variable {n : Nat} {ps : List (Int × Int)} {ts R D : List (List Int)}
end
end My

/-! ## the rounds of the other web are the rings -/
namespace My
open PySem L2
section
variable {n : Nat} {ps : List (Int × Int)} {ts R D : List (List Int)}
end
end My

/-! ## a web with its places numbered anew has as many trees -/
namespace My
open PySem L2
section
variable {n : Nat} {ps : List (Int × Int)} {ts R D : List (List Int)}
end
end My

/-! ## a grown web, its other web, and back -/
namespace My
open PySem L2
structure Back (n : Nat) (ps : List (Int × Int)) (ts R D : List (List Int)) : Prop where
  flat : Flat n ps R
  few : R.length ≤ 14
  rows : ∀ l ∈ R, l.length < 64
  good : GoodW R.length (owT R ps.length)
  vt : VT R.length (owT R ps.length) R
  rds : RdW (owT R ps.length) R D
  flat2 : Flat R.length (owT R ps.length) D
  len : D.length = n
  good2 : GoodW n (owT D ps.length)
  tc : ∀ c, TC n ps c → TC n (owT D ps.length) c
  nd : D.flatten.Nodup
  all : ∀ x : Int, 0 ≤ x → x < 2 * (ps.length : Int) → x ∈ D.flatten
  small : D.flatten.length ≤ 100
end My

/-! ## short displays in one step (nested pa_cons are slow to read) -/
namespace L2
open PySem PySem.Spec PyProof.Rows
section
variable {X : Cx} {a b c : Expr} {ta tb tc : TE} {pos : Pos}
end
end L2

/-! ## lists of fewer than 64 lists sorted: no merging -/
namespace PyProof.Rows
open PySem
section
variable {M : Model} {A : Around} {E : Value → Shared → Prop} {s : Shared} {O : KeyOrd} {key : Keyed → O.α} {kd : SortKind} {S : Keyed → Prop}
end
end PyProof.Rows
namespace L2
open PySem PySem.Spec PyProof.Rows
section
variable {prog : Program} {w : World} {A : Around} {E : Value → Shared → Prop} {s : Shared}
/-! ### tuples of ints as keys -/
end
end L2
namespace L2
open PySem PySem.Spec PyProof.Rows My
section
variable {X : Cx}
end
end L2

/-! ## what a tree leaves out is a tree of the other web -/
namespace My
open PySem L2
/-- two webs of as many ties: steps of heights in the one and in the other are never along one another -/
def Orth (ps qs : List (Int × Int)) : Prop := ∀ A f : Int → Int, ((List.range ps.length).map fun (k : Nat) => (A (ps.getD k (0, 0)).1 - A (ps.getD k (0, 0)).2) * (f (qs.getD k (0, 0)).1 - f (qs.getD k (0, 0)).2)).sum = 0
theorem Orth.symm {ps qs : List (Int × Int)} (hl : qs.length = ps.length) (h : Orth ps qs) : Orth qs ps := fun A f => by
  have e : ((List.range ps.length).map fun (k : Nat) => (A (qs.getD k (0, 0)).1 - A (qs.getD k (0, 0)).2) * (f (ps.getD k (0, 0)).1 - f (ps.getD k (0, 0)).2)) = (List.range ps.length).map fun (k : Nat) => (f (ps.getD k (0, 0)).1 - f (ps.getD k (0, 0)).2) * (A (qs.getD k (0, 0)).1 - A (qs.getD k (0, 0)).2) := List.map_congr_left fun k _ => Int.mul_comm ..
  rw [hl, e]
  exact h f A
section
variable {n : Nat} {ps : List (Int × Int)} {ts R : List (List Int)}
end
end My

/-! ## texts: join, f-texts told out -/
namespace L2
open PySem PySem.Spec PyProof.Rows
/-- values that are texts -/
def TL (l : List Str) : List V := l.map V.str
theorem vals_texts : ∀ {l : List Str} {us : List Value}, Vals (TL l) us → ∃ k : List (Str × Tok), us = strValues k ∧ k.map (fun x => x.fst) = l
  | [], _, .nil => ⟨[], rfl, rfl⟩
  | x :: l, _, .cons r t => by
    obtain ⟨tk, rfl⟩ := r
    obtain ⟨k, rfl, h⟩ := vals_texts (l := l) t
    exact ⟨(x, tk) :: k, rfl, by rw [List.map_cons, h]⟩
section
variable {X : Cx}
def rJoin (K : PySem.W.Frag) : V → List V → Hp → VK → Prop := fun x vs H Q => ∃ (sep : Str) (a : Addr) (l : List Str), x = .str sep ∧ vs = [.ref a] ∧ SqL K H a (TL l) ∧ JoinOk sep l = true ∧ Q (.str (sep.join l)) H
theorem mt_joinK (K : PySem.W.Frag) (h : X.K = K := by rfl) : MtM X "str.join" (rJoin K) := by
  subst h
  intro pins s σ H x vs v us Q I rx rv h
  obtain ⟨sep, a, l, rfl, rfl, hq, hj, q⟩ := h
  obtain ⟨tk, rfl⟩ := rx
  obtain ⟨u, rfl, ru⟩ := rv.one
  cases ru
  obtain ⟨its, r, pl, hz⟩ := I.list hq
  obtain ⟨k, rfl, hk⟩ := vals_texts r
  refine PySem.SC.join pl.isList hk hj fun t' n => ⟨.str _, H, I.tok n, ⟨t', rfl⟩, ?_⟩
  rw [show Txt.join sep l = sep.join l from PySem.StrLaws.glued_eq_join sep l]
  exact q
variable {es : List Expr} {e : Expr} {te : TE} {t : St → Hp → Str → (Str → Hp → Prop) → Prop} {pos : Pos}
/-- str of an int within 10 ^ 70 -/
theorem call_strI : CallR X (.type "str") (fun xs H Q => ∃ i : Int, xs = [.int i] ∧ -(10 ^ 70) < i ∧ i < 10 ^ 70 ∧ Q (.str (Str.ofString (toString i))) H) := by
  intro pins s σ H xs us Q I r h
  obtain ⟨i, rfl, h1, h2, q⟩ := h
  exact call_str_int pins s σ H _ us Q I r ⟨i, rfl, log_small h1 h2, q⟩
end
end L2

/-! ## texts: split, startswith, int, slices, their signs -/
namespace L2
open PySem PySem.Spec PyProof.Rows
theorem vals_strs : ∀ (l : List Str) (n : Nat), Vals (TL l) (strsFrom n l)
  | [], _ => .nil
  | _ :: l, n => .cons ⟨n, rfl⟩ (vals_strs l (n + 1))
section
variable {X : Cx}
def rSplit : V → List V → Hp → VK → Prop := fun x vs H Q => ∃ (z y : Str), x = .str z ∧ vs = [.str y] ∧ (y.length == 0) = false ∧ z.length ≤ sizeLine ∧ (Txt.split z y).length ≤ sizeLine ∧ ∀ p, H p = none → Q (.ref p) (upd H p (.lst (TL (Txt.split z y))))
theorem mt_split : MtM X "str.split" rSplit := by
  intro pins s σ H x vs v us Q I rx rv h
  obtain ⟨z, y, rfl, rfl, hy, hz, hl, q⟩ := h
  obtain ⟨t, rfl⟩ := rx
  obtain ⟨u, rfl, ru⟩ := rv.one
  obtain ⟨u', rfl⟩ := ru
  have self : Txt.split z y = [z] → EP X pins σ Q (.ref s.heap.objs.size) { s with heap := s.heap.push { cls := .type "list", data := .seq #[.str z t] } } := fun e => by
    rw [e] at q
    refine ⟨.ref s.heap.objs.size, _, I.laid (t' := s.toks) (o := .lst (TL [z])) (fun b ob q => Heap.get?_push_of_some _ q) (Nat.le_refl _) ?_, rfl, q _ (I.hok.fresh (Nat.le_refl _))⟩
    exact ⟨by rw [e] at hl; exact hl, [.str z t], 0, .cons ⟨t, rfl⟩ .nil, Heap.get?_push_size _ rfl⟩
  by_cases c1 : (decide (z.length < y.length) || decide (Builtin.Str.strKind z < Builtin.Str.strKind y)) = true
  · have e : Txt.split z y = [z] := by unfold Txt.split; rw [if_pos c1]
    exact call_meets PySem.F.slot_str_split (typeIs_str _ _ _) PySem.F.entry_str_split (PySem.F.args_str_split_2 _ _) (meets_str_split_cannot_occur z y t u' c1) (self e)
  · have c1' := Bool.eq_false_iff.mpr c1
    by_cases c2 : (Builtin.Str.occurrences z y 0 z.length (z.length + 1)).isEmpty = true
    · have e : Txt.split z y = [z] := by unfold Txt.split; rw [if_neg c1, if_pos c2]
      exact call_meets PySem.F.slot_str_split (typeIs_str _ _ _) PySem.F.entry_str_split (PySem.F.args_str_split_2 _ _) (meets_str_split_not_found z y t u' c1' hy c2) (self e)
    · have e : Txt.split z y = Builtin.Str.partsBetween z (Builtin.Str.occurrences z y 0 z.length (z.length + 1)) y.length := by unfold Txt.split; rw [if_neg c1, if_neg c2]
      rw [e] at hl q
      refine call_meets PySem.F.slot_str_split (typeIs_str _ _ _) PySem.F.entry_str_split (PySem.F.args_str_split_2 _ _) (meets_str_split_sep z y t u' c1' hy (Bool.eq_false_iff.mpr c2) hz hl) ?_
      refine ⟨.ref s.heap.objs.size, _, I.laid (o := .lst (TL (Builtin.Str.partsBetween z (Builtin.Str.occurrences z y 0 z.length (z.length + 1)) y.length))) (fun b ob q => Heap.get?_push_of_some _ q) (Nat.le_refl _) ?_, rfl, q _ (I.hok.fresh (Nat.le_refl _))⟩
      exact ⟨by unfold TL; rw [List.length_map]; exact hl, _, 0, vals_strs _ _, Heap.get?_push_size _ rfl⟩
def rStarts : V → List V → Hp → VK → Prop := fun x vs H Q => ∃ (z y : Str), x = .str z ∧ vs = [.str y] ∧ Q (.bl (Txt.startswith z y)) H
theorem mt_starts : MtM X "str.startswith" rStarts := by
  intro pins s σ H x vs v us Q I rx rv h
  obtain ⟨z, y, rfl, rfl, q⟩ := h
  obtain ⟨t, rfl⟩ := rx
  obtain ⟨u, rfl, ru⟩ := rv.one
  obtain ⟨u', rfl⟩ := ru
  exact PySem.SC.startswith ⟨.bl _, H, I, rfl, q⟩
theorem call_intS : CallR X (.type "int") (fun xs H Q => ∃ (z : Str) (n : Int), xs = [.str z] ∧ intText? z = some n ∧ z.length ≤ 640 ∧ Q (.int n) H) := by
  intro pins s σ H xs us Q I r h
  obtain ⟨z, n, rfl, hz, hl, q⟩ := h
  obtain ⟨u, rfl, ru⟩ := vals1 r
  obtain ⟨t, rfl⟩ := ru
  exact PySem.W.KIN.call_text hz hl ⟨.int n, H, I.tok _, ⟨_, rfl⟩, q⟩
/-- the signs of a text, one by one -/
def Its (z : Str) : It := ⟨fun i _ => i < z.cps.size, fun i H x H' => H' = H ∧ ∃ c, z.cps[i]? = some c ∧ x = .str ⟨#[c]⟩, fun i _ => z.cps.size ≤ i⟩
theorem turn_text {P : Program} {w : World} {K : PySem.W.Frag} {tg : Expr} (z : Str) (t : Tok) (it : Addr) : Turn P w K tg (Its z) [it] it (fun i h => h.IsStrIter it "str_ascii_iterator" z t i) where
  mem := by simp
  obj := fun i h st b hb => by
    have e : b = it := by simpa using hb
    subst e
    obtain ⟨o, e, c, d⟩ := st
    exact ⟨o, e, fun v z => by rw [d] at z; cases z⟩
  keep := fun i h h' st k => by
    obtain ⟨o, e, c, d⟩ := st
    exact ⟨o, k it (by simp) o e, c, d⟩
  item := by
    intro X hP hw hK hc i pins s σ H E I hf st hg
    subst hP hw hK
    obtain ⟨c, hc'⟩ : ∃ c, z.cps[i]? = some c := ⟨_, Array.getElem?_eq_getElem hg⟩
    obtain ⟨f0, f1, f2, f3, f4, f5⟩ := hf it (by simp)
    refine wpAny_pyNext_ascii_item st hc' fun h' st' sb => ?_
    have I1 : Inv X pins σ H { s with heap := h', toks := s.toks + 1 } := I.turned (fun b o hb e => (sb.2 b hb).trans e) f0 f1 f3 f4 f5
    obtain ⟨o, e, c', d⟩ := id st'
    exact ⟨_, rfl, go_of (s := { s with heap := h', toks := s.toks + 1 }) e c' d (by decide) ⟨.str ⟨#[c]⟩, H, I1, ⟨_, rfl⟩, ⟨rfl, c, hc', rfl⟩, st', fun b hb => (hf b hb).1⟩⟩
  done := by
    intro X hP hw hK hc i pins s σ H E I hf st hg
    subst hP hw hK
    obtain ⟨f0, f1, f2, f3, f4, f5⟩ := hf it (by simp)
    exact wpAny_pyNext_ascii_end (I.ok.hd hc) st (Array.getElem?_eq_none hg) fun h' eb => ⟨rfl, I.turned (t' := s.toks) (fun b o hb e => eb b o hb e) f0 f1 f3 f4 f5⟩
  self := fun _ _ _ _ _ st h => wpAny_pyIter_striter_ascii st h
def iText (tl : TE) : TI := fun σ H R => tl σ H fun x H1 => ∃ z : Str, x = .str z ∧ (z.cps.all fun c => decide (c < 128)) = true ∧ R (Its z) H1
theorem pi_text {l tg : Expr} {tl : TE} (hl : PE X l tl) : PI X tg l (iText tl) := by
  intro pins s σ H R I h
  refine thn (hl pins s σ H _ I h) fun v s1 ⟨x, H1, I1, r1, q1⟩ => ?_
  obtain ⟨z, e, ha, q⟩ := q1
  subst e
  obtain ⟨t, rfl⟩ := r1
  refine wpAny_pyIter_ascii ha ?_
  refine ⟨s1.heap.objs.size, [s1.heap.objs.size], _, _, H1, rfl, I1.kept (t' := s1.toks) fun b o e => Heap.get?_push_of_some _ e, turn_text z t _, ⟨_, Heap.get?_push_size _ rfl, rfl, rfl⟩, fun b hb => ?_, q⟩
  have e : b = s1.heap.objs.size := by simpa using hb
  subst e
  exact I1.fpOk (Nat.le_refl _) (I1.hok.fresh (Nat.le_refl _))
/-- a slice of a text -/
def rSlS : V → Option Int → Option Int → Hp → VK → Prop := fun x lo hi H Q => ∃ z : Str, x = .str z ∧ (StrLaws.sliceText z lo hi).length ≤ sizeLine ∧ Q (.str (StrLaws.sliceText z lo hi)) H
theorem part_of {v : Value} {o : Option Int} (h : IsPart v o) : ∃ l : Option (Int × Tok), v = partValue l ∧ l.map (fun x => x.fst) = o := by
  cases h with
  | none => exact ⟨none, rfl, rfl⟩
  | int i t => exact ⟨some (i, t), rfl, rfl⟩
theorem sl_text : SlR X rSlS := by
  intro pins s σ H x v vl vu lo hi sl Q I rx hs pl pu h
  obtain ⟨z, rfl, hz, q⟩ := h
  obtain ⟨t, rfl⟩ := rx
  refine ⟨"str", _, slot_str_getitem.lookup, typeIs_str s z t, ?_⟩
  obtain ⟨l, rfl, e1⟩ := part_of pl
  obtain ⟨u, rfl, e2⟩ := part_of pu
  subst e1 e2
  refine wpAny_getItem_str_slice (l := l) (u := u) (st := none) hs (by rfl) ?_
  unfold StrLaws.sliceText at hz q
  unfold sliceMade slicePicked
  show Made.post (if (1 == 1 && (Builtin.Str.strSliceIndices (l.map fun x => x.fst) (u.map fun x => x.fst) 1 z.length).length == z.length) = true then _ else _) _ s
  split at hz
  · rename_i c
    rw [if_pos c] at q
    rw [if_pos c]
    exact ⟨.str z, H, I, ⟨t, rfl⟩, q⟩
  · rename_i c
    rw [if_neg c] at q
    rw [if_neg c]
    exact ⟨hz, .str _, H, I.tok _, ⟨_, rfl⟩, q⟩
end
end L2
namespace My
open PySem L2
section
variable {g : TG} {tt : TT} {te : TE} {o : Nat} {fr : List Nat} {σ : L2.St} {H : Hp} {Q : VK}
theorem lc_text {z : Str} (Pv : Nat → List V → Hp → Prop) (h0 : Pv 0 [] H) (hz : z.cps.size < sizeLine) (hl : ∀ i ys H, i ≤ z.cps.size → Pv i ys H → ys.length ≤ i)
    (hs : ∀ i c ys H, z.cps[i]? = some c → Pv i ys H → LcTurn Pv g tt te o fr σ i (.str ⟨#[c]⟩) ys H) (hd : ∀ ys H, Pv z.cps.size ys H → ∀ p, H p = none → Q (.ref p) (upd H p (.lst ys))) : LcR (Its z) g tt te o fr σ H Q := by
  refine ⟨fun i m ys H => m = z.cps.size - i ∧ i ≤ z.cps.size ∧ Pv i ys H, ⟨z.cps.size, by simp, Nat.zero_le _, h0⟩, ?_⟩
  rintro i m ys H ⟨rfl, hi, p⟩
  have hy := hl i ys H hi p
  by_cases hlt : i < z.cps.size
  · refine .inr ⟨hlt, by omega, fun x H' ⟨e, c, hc, y⟩ => ?_⟩
    subst e
    subst y
    exact hs i c ys _ hc p (fun j ys H => ∃ m', m' < z.cps.size - i ∧ m' = z.cps.size - j ∧ j ≤ z.cps.size ∧ Pv j ys H) fun ys H p' => ⟨z.cps.size - (i + 1), by omega, rfl, hlt, p'⟩
  · have e : i = z.cps.size := by omega
    subst e
    exact .inl ⟨Nat.le_refl _, by omega, hd ys H p⟩
end
end My

/-! ## texts of numbers, lines and words -/
namespace My
open PySem L2
/-- a number's text -/
def nT (i : Int) : Str := Str.ofString (toString i)
def dg (m : Nat) : List Nat := (Nat.toDigits 10 m).map Char.toNat
def sgT (i : Int) : List Nat := if i < 0 then 45 :: dg i.natAbs else dg i.natAbs
theorem nT_list (i : Int) : (nT i).cps.toList = sgT i := by
  unfold nT sgT
  cases i with
  | ofNat m =>
    rw [if_neg (show ¬ Int.ofNat m < 0 from Int.not_lt.mpr (Int.natCast_nonneg m))]
    exact W.KIN.signs_num m
  | negSucc m =>
    rw [if_pos (Int.negSucc_lt_zero m)]
    have e : (Str.ofString (toString ((m + 1 : Nat) : Int))).cps.toList = dg (m + 1) := W.KIN.signs_num (m + 1)
    rw [Str.ofString_eq_toList] at e ⊢
    have e2 : (toString (Int.negSucc m)).toList = '-' :: (toString ((m + 1 : Nat) : Int)).toList := by
      show ("-" ++ toString (m + 1)).toList = '-' :: (toString (m + 1)).toList
      rw [String.toList_append]
      rfl
    rw [e2, List.map_cons]
    show 45 :: List.map Char.toNat _ = 45 :: dg (m + 1)
    rw [← e]
theorem dgc {d : Nat} (h : d < 10) : (Nat.digitChar d).toNat = 48 + d := by
  match d, h with
  | 0, _ => rfl
  | 1, _ => rfl
  | 2, _ => rfl
  | 3, _ => rfl
  | 4, _ => rfl
  | 5, _ => rfl
  | 6, _ => rfl
  | 7, _ => rfl
  | 8, _ => rfl
  | 9, _ => rfl
theorem dg_lt {m : Nat} (h : m < 10) : dg m = [48 + m] := by
  unfold dg
  rw [Nat.toDigits_of_lt_base h, List.map_singleton, dgc h]
theorem dg_ge {m : Nat} (h : 10 ≤ m) : dg m = dg (m / 10) ++ [48 + m % 10] := by
  unfold dg
  rw [Nat.toDigits_of_base_le (by decide) h, List.map_append, List.map_singleton, dgc (Nat.mod_lt _ (by decide))]
theorem dg_all (m : Nat) : NumText.AllDigits (dg m) := by
  induction m using Nat.strongRecOn with
  | ind m ih =>
    intro c hc
    by_cases h : m < 10
    · rw [dg_lt h] at hc
      have := List.mem_singleton.mp hc
      omega
    · rw [dg_ge (by omega)] at hc
      rcases List.mem_append.mp hc with q | q
      · exact ih (m / 10) (by omega) c q
      · have := List.mem_singleton.mp q
        omega
theorem dg_ne (m : Nat) : dg m ≠ [] := by
  by_cases h : m < 10
  · rw [dg_lt h]; simp
  · rw [dg_ge (by omega)]; simp
theorem dg_val (m : Nat) : NumText.digitsVal (dg m) = m := by
  induction m using Nat.strongRecOn with
  | ind m ih =>
    by_cases h : m < 10
    · rw [dg_lt h]
      show 0 * 10 + (48 + m - 48) = m
      omega
    · rw [dg_ge (by omega), NumText.digitsVal_snoc, ih (m / 10) (by omega)]
      omega
theorem dg_len {m k : Nat} (hk : 1 ≤ k) (h : m < 10 ^ k) : (dg m).length ≤ k := by
  unfold dg
  rw [List.length_map]
  exact toDigits_len_pow (by decide) hk h
theorem dg_head {m : Nat} (h : 0 < m) : ∃ c r, dg m = c :: r ∧ c ≠ 48 := by
  induction m using Nat.strongRecOn with
  | ind m ih =>
    by_cases c : m < 10
    · exact ⟨48 + m, [], dg_lt c, by omega⟩
    · obtain ⟨a, r, e, ne⟩ := ih (m / 10) (by omega) (by omega)
      exact ⟨a, r ++ [48 + m % 10], by rw [dg_ge (by omega), e]; rfl, ne⟩
theorem str_len (x : Str) : x.length = x.cps.toList.length := by
  show x.cps.size = _
  rw [Array.length_toList]
theorem str_ext {x y : Str} (h : x.cps.toList = y.cps.toList) : x = y := Str.ext' (Array.toList_inj.mp h)
theorem sg_len {i : Int} {k : Nat} (hk : 1 ≤ k) (h1 : -(10 ^ k) < i) (h2 : i < 10 ^ k) : (sgT i).length ≤ k + 1 := by
  have e : ((10 ^ k : Nat) : Int) = (10 : Int) ^ k := by rw [Int.natCast_pow]; rfl
  rw [← e] at h1 h2
  have := dg_len hk (m := i.natAbs) (by omega)
  unfold sgT
  split
  · rw [List.length_cons]; omega
  · omega
theorem nT_len {i : Int} {k : Nat} (hk : 1 ≤ k) (h1 : -(10 ^ k) < i) (h2 : i < 10 ^ k) : (nT i).length ≤ k + 1 := by rw [str_len, nT_list]; exact sg_len hk h1 h2
/-- int of a number's text -/
theorem nT_reads {i : Int} {k : Nat} (hk : 1 ≤ k) (h4 : k ≤ 4000) (h1 : -(10 ^ k) < i) (h2 : i < 10 ^ k) : intText? (nT i) = some i := by
  have hl := nT_len hk h1 h2
  have e := nT_list i
  unfold sgT at e
  split at e
  · rw [intText_neg e (dg_all _) (dg_ne _) (by omega), dg_val]
    congr 1
    omega
  · rw [intText_digits (by rw [e]; exact dg_all _) (by rw [e]; exact dg_ne _) (by omega), e, dg_val]
    congr 1
    omega
theorem nT_inj {i j : Int} {k : Nat} (hk : 1 ≤ k) (h4 : k ≤ 4000) (h1 : -(10 ^ k) < i) (h2 : i < 10 ^ k) (h3 : -(10 ^ k) < j) (h5 : j < 10 ^ k) (e : nT i = nT j) : i = j := by
  have a := nT_reads hk h4 h1 h2
  rw [e, nT_reads hk h4 h3 h5] at a
  exact (Option.some.inj a).symm
/-- the figures of a word -/
def figs (cs : List Nat) : List Nat := if cs.head? = some 45 then cs.tail else cs
/-- a word that is a number -/
def isNumB (cs : List Nat) : Bool := decide (1 ≤ (figs cs).length ∧ (figs cs).length ≤ 60 ∧ (∀ c ∈ figs cs, 48 ≤ c ∧ c ≤ 57) ∧ (cs = [48] ∨ (figs cs).head? ≠ some 48))
theorem dg_no45 (m : Nat) : (dg m).head? ≠ some 45 := fun h => by
  cases e : dg m with
  | nil => exact dg_ne m e
  | cons c r =>
    rw [e] at h
    have hc : c = 45 := Option.some.inj h
    have := dg_all m c (by rw [e]; exact List.mem_cons_self)
    omega
theorem figs_sg (i : Int) : figs (sgT i) = dg i.natAbs := by
  unfold figs sgT
  split
  · rfl
  · rw [if_neg (dg_no45 _)]
theorem sg_num {i : Int} (h1 : -(10 ^ 60) < i) (h2 : i < 10 ^ 60) : isNumB (sgT i) = true := by
  refine decide_eq_true ?_
  rw [figs_sg]
  refine ⟨List.length_pos_iff.mpr (dg_ne _), dg_len (k := 60) (by decide) (by omega), dg_all _, ?_⟩
  by_cases c : i = 0
  · subst c
    exact .inl rfl
  · obtain ⟨a, r, e, ne⟩ := dg_head (m := i.natAbs) (by omega)
    refine .inr ?_
    rw [e]
    intro q
    exact ne (Option.some.inj q)
/-- pieces joined by a sign -/
def jn (c : Nat) : List (List Nat) → List Nat
  | [] => []
  | [a] => a
  | a :: b :: l => a ++ c :: jn c (b :: l)
theorem join_jn (c : Nat) : ∀ l : List Str, (Str.join ⟨#[c]⟩ l).cps.toList = jn c (l.map fun x => x.cps.toList)
  | [] => rfl
  | [a] => rfl
  | a :: b :: l => by
    have ih := join_jn c (b :: l)
    show ((a ++ ⟨#[c]⟩ ++ Str.join ⟨#[c]⟩ (b :: l)) : Str).cps.toList = a.cps.toList ++ c :: jn c ((b :: l).map fun x => x.cps.toList)
    rw [← ih, Str.cps_append, Str.cps_append, Array.toList_append, Array.toList_append, List.append_assoc]
    rfl
theorem free_split {c : Nat} : ∀ {a b x y : List Nat}, c ∉ a → c ∉ b → a ++ c :: x = b ++ c :: y → a = b ∧ x = y
  | [], [], _, _, _, _, e => ⟨rfl, (List.cons.inj e).2⟩
  | [], b :: bs, _, _, _, hb, e => absurd (List.mem_cons_self) ((List.cons.inj e).1 ▸ hb)
  | a :: as, [], _, _, ha, _, e => absurd (List.mem_cons_self) ((List.cons.inj e).1 ▸ ha)
  | a :: as, b :: bs, x, y, ha, hb, e => by
    obtain ⟨e1, e2⟩ := List.cons.inj e
    obtain ⟨h1, h2⟩ := free_split (a := as) (b := bs) (fun h => ha (List.mem_cons_of_mem _ h)) (fun h => hb (List.mem_cons_of_mem _ h)) e2
    exact ⟨by rw [e1, h1], h2⟩
theorem jn_inj {c : Nat} : ∀ {A B : List (List Nat)}, A ≠ [] → B ≠ [] → (∀ a ∈ A, c ∉ a) → (∀ b ∈ B, c ∉ b) → jn c A = jn c B → A = B
  | [], _, h, _, _, _, _ => absurd rfl h
  | _, [], _, h, _, _, _ => absurd rfl h
  | [a], [b], _, _, _, _, e => by
    have e : a = b := e
    rw [e]
  | [a], b :: b' :: B, _, _, ha, _, e => by
    have e : a = b ++ c :: jn c (b' :: B) := e
    exact absurd (by rw [e]; simp) (ha a List.mem_cons_self)
  | a :: a' :: A, [b], _, _, _, hb, e => by
    have e : a ++ c :: jn c (a' :: A) = b := e
    exact absurd (by rw [← e]; simp) (hb b List.mem_cons_self)
  | a :: a' :: A, b :: b' :: B, _, _, ha, hb, e => by
    obtain ⟨e1, e2⟩ := free_split (ha a List.mem_cons_self) (hb b List.mem_cons_self) (show a ++ c :: jn c (a' :: A) = b ++ c :: jn c (b' :: B) from e)
    rw [e1, jn_inj (A := a' :: A) (B := b' :: B) (by simp) (by simp) (fun x hx => ha x (List.mem_cons_of_mem _ hx)) (fun x hx => hb x (List.mem_cons_of_mem _ hx)) e2]
theorem split_ne (x y : Str) : Txt.split x y ≠ [] := by
  unfold Txt.split
  split
  · simp
  · split
    · simp
    · rw [StrLaws.partsBetween_eq]
      obtain ⟨p, r, e⟩ := StrLaws.partsFrom_ne x y.length 0 (Builtin.Str.occurrences x y 0 x.length (x.length + 1))
      rw [e]
      simp
/-- what is joined by a sign that none has is split at it -/
theorem split_join {c : Nat} {l : List Str} (hl : l ≠ []) (hf : ∀ p ∈ l, c ∉ p.cps.toList) : Txt.split (Str.join ⟨#[c]⟩ l) ⟨#[c]⟩ = l := by
  have e := StrLaws.join_split (Str.join ⟨#[c]⟩ l) ⟨#[c]⟩
  have e2 := congrArg (fun x : Str => x.cps.toList) e
  rw [join_jn, join_jn] at e2
  have m := jn_inj (by simpa using split_ne _ _) (by simpa using hl) (fun a ha => by
    obtain ⟨p, hp, rfl⟩ := List.mem_map.mp ha
    exact StrLaws.split_free _ c p hp) (fun a ha => by
    obtain ⟨p, hp, rfl⟩ := List.mem_map.mp ha
    exact hf p hp) e2
  exact (List.map_inj_right (fun x y h => str_ext h)).mp m
end My

/-! ## f-texts with texts in them, texts as constants of a module -/
namespace L2
open PySem PySem.Spec PyProof.Rows
section
variable {X : Cx} {es : List Expr} {e : Expr} {te : TE} {t : St → Hp → (Hp → Prop) → Prop}
def jTxt (te : TE) (t : St → Hp → (Hp → Prop) → Prop) : St → Hp → (Hp → Prop) → Prop := fun σ H Q => te σ H fun v H1 => ∃ x : Str, v = .str x ∧ x.length ≤ 4000 ∧ t σ H1 Q
theorem pj_txt {p : Pos} (he : PE X e te) (hr : PJ X es t) : PJ X (.FormattedValue e (-1) none p :: es) (jTxt te t) := fun n pins s σ H acc Q ha hn I h => by
  rw [List.length_cons] at hn
  refine joinParts_cons (FormattedValue_plain (thn (he pins s σ H _ I h) fun u s1 ⟨v, H1, I1, r, x, ev, a1, q⟩ => ?_))
  subst ev
  obtain ⟨tk, rfl⟩ := r
  have hl : (acc ++ x).length = acc.length + x.length := strLen_append ..
  have hb : (acc ++ x).length ≤ 4000 * (n + 1) := by rw [hl]; omega
  have hx : x.length ≤ sizeLine := Nat.le_trans a1 (by decide)
  refine formatField_str (fun t' tk => ?_) hx
  refine ⟨Nat.le_trans hb (Nat.le_trans (Nat.mul_le_mul_left _ (by omega)) line4), ?_⟩
  exact hr (n + 1) pins _ σ H1 _ Q hb (by omega) (I1.tok _) q
end
end L2
namespace My
open PySem L2
theorem const_mkS {K : PySem.W.Frag} {h : Heap} {mg : Str → Option Value} {x : Str} {z : Str} {v : Value} (X : K.In h) (G : h.Ns mainGlobals mg) (a : PySem.W.nsIn K mainGlobals x = some (some v)) (e : ∃ tk, v = .str z tk) : ∃ tk, mg x = some (.str z tk) := by
  obtain ⟨tk, rfl⟩ := e
  exact ⟨tk, PySem.W.mg_of X G a⟩
end My

/-! ## the text of a web -/
namespace My
open PySem L2
def blankS : Str := Str.ofString " "
def nlS : Str := Str.ofString "\n"
def lineT (p : Int × Int) (l : Int) : Str := Str.join blankS [Str.ofString "tie", nT p.1, nT p.2, nT l]
def webT (n : Int) (ps : List (Int × Int)) (ls : List Int) : List Str := (Str.ofString "places " ++ nT n) :: List.zipWith lineT ps ls
def textT (n : Int) (ps : List (Int × Int)) (ls : List Int) : Str := Str.join nlS (webT n ps ls)
theorem blank_eq : blankS = ⟨#[32]⟩ := by rfl
theorem nl_eq : nlS = ⟨#[10]⟩ := by rfl
theorem places_eq (n : Int) : Str.ofString "places " ++ nT n = Str.join blankS [Str.ofString "places", nT n] := by
  have e : Str.ofString "places " = Str.ofString "places" ++ blankS := by rfl
  rw [e]
  rfl
theorem sgT_signs {i : Int} {c : Nat} (h : c ∈ sgT i) : c = 45 ∨ 48 ≤ c ∧ c ≤ 57 := by
  unfold sgT at h
  split at h
  · rcases List.mem_cons.mp h with e | e
    · exact .inl e
    · exact .inr (dg_all _ c e)
  · exact .inr (dg_all _ c h)
theorem nT_free {i : Int} {c : Nat} (h1 : c ≠ 45) (h2 : c < 48 ∨ 57 < c) : c ∉ (nT i).cps.toList := fun h => by
  rw [nT_list] at h
  rcases sgT_signs h with e | e <;> omega
theorem nT_ascii (i : Int) : ((nT i).cps.all fun c => decide (c < 128)) = true := by
  rw [← Array.all_toList, nT_list, List.all_eq_true]
  intro c hc
  refine decide_eq_true ?_
  rcases sgT_signs hc with e | e <;> omega
theorem jn_mem {c x : Nat} : ∀ {A : List (List Nat)}, x ∈ jn c A → x = c ∨ ∃ a ∈ A, x ∈ a
  | [], h => by cases h
  | [a], h => .inr ⟨a, List.mem_cons_self, h⟩
  | a :: b :: A, h => by
    have h : x ∈ a ++ c :: jn c (b :: A) := h
    rcases List.mem_append.mp h with h | h
    · exact .inr ⟨a, List.mem_cons_self, h⟩
    · rcases List.mem_cons.mp h with h | h
      · exact .inl h
      · rcases jn_mem h with e | ⟨y, hy, hx⟩
        · exact .inl e
        · exact .inr ⟨y, List.mem_cons_of_mem _ hy, hx⟩
theorem jn_len {c B : Nat} : ∀ {A : List (List Nat)}, (∀ a ∈ A, a.length ≤ B) → (jn c A).length ≤ A.length * (B + 1)
  | [], _ => Nat.zero_le _
  | [a], h => by
    have := h a List.mem_cons_self
    show a.length ≤ 1 * (B + 1)
    omega
  | a :: b :: A, h => by
    have h1 := h a List.mem_cons_self
    have ih := jn_len (c := c) (A := b :: A) fun x hx => h x (List.mem_cons_of_mem _ hx)
    show (a ++ c :: jn c (b :: A)).length ≤ _
    rw [List.length_append, List.length_cons, List.length_cons, Nat.add_mul]
    omega
theorem join_len {c B : Nat} {l : List Str} (h : ∀ a ∈ l, a.length ≤ B) : (Str.join ⟨#[c]⟩ l).length ≤ l.length * (B + 1) := by
  rw [str_len, join_jn]
  refine Nat.le_trans (jn_len (B := B) fun a ha => ?_) (by rw [List.length_map]; exact Nat.le_refl _)
  obtain ⟨p, hp, rfl⟩ := List.mem_map.mp ha
  rw [← str_len]
  exact h p hp
theorem join_ok {c B : Nat} {l : List Str} (h : ∀ a ∈ l, a.length ≤ B) (hl : l.length * B + l.length ≤ 16777216) : JoinOk ⟨#[c]⟩ l = true := by
  unfold JoinOk
  rw [StrLaws.joinFits h (by show l.length * B + l.length * 1 ≤ _; omega)]
  rfl
/-- numbers that may be told -/
def Told (l : List Int) : Prop := ∀ z ∈ l, -(10 ^ 60) < z ∧ z < (10 : Int) ^ 60
theorem told_len {l : List Int} (h : Told l) : ∀ a ∈ l.map nT, a.length ≤ 61 := fun a ha => by
  obtain ⟨z, hz, rfl⟩ := List.mem_map.mp ha
  exact nT_len (k := 60) (by decide) (h z hz).1 (h z hz).2
theorem words_of {name : Str} {l : List Int} (hn : 32 ∉ name.cps.toList) : Txt.split (Str.join blankS (name :: l.map nT)) blankS = name :: l.map nT := by
  rw [blank_eq]
  refine split_join (by simp) fun p hp => ?_
  rcases List.mem_cons.mp hp with e | e
  · rw [e]; exact hn
  · obtain ⟨z, _, rfl⟩ := List.mem_map.mp e
    exact nT_free (by decide) (.inl (by decide))
theorem nl_free {name : Str} {l : List Int} (hn : 10 ∉ name.cps.toList) : 10 ∉ (Str.join blankS (name :: l.map nT)).cps.toList := fun h => by
  rw [blank_eq, join_jn] at h
  rcases jn_mem h with e | ⟨a, ha, hx⟩
  · cases e
  · obtain ⟨p, hp, rfl⟩ := List.mem_map.mp ha
    rcases List.mem_cons.mp hp with e | e
    · rw [e] at hx; exact hn hx
    · obtain ⟨z, _, rfl⟩ := List.mem_map.mp e
      exact nT_free (by decide) (.inl (by decide)) hx
theorem lines_of {n : Int} {ps : List (Int × Int)} {ls : List Int} : Txt.split (textT n ps ls) nlS = webT n ps ls := by
  unfold textT
  rw [nl_eq]
  refine split_join (by unfold webT; simp) fun p hp => ?_
  rcases List.mem_cons.mp hp with e | e
  · rw [e, places_eq]
    exact nl_free (l := [n]) (by decide)
  · obtain ⟨i, hi, e⟩ := List.getElem_of_mem e
    rw [List.getElem_zipWith] at e
    rw [← e]
    exact nl_free (l := [_, _, _]) (by decide)
theorem starts_eq (w : Str) : Txt.startswith w (Str.ofString "-") = decide (w.cps.toList.head? = some 45) := by
  have h := StrLaws.subAt_one w 45 0
  have e : Str.ofString "-" = ⟨#[45]⟩ := by rfl
  rw [e]
  unfold Txt.startswith
  rw [List.head?_eq_getElem?]
  by_cases c : w.cps.toList[0]? = some 45
  · obtain ⟨h1, h2⟩ := h.mpr c
    rw [decide_eq_true c, h2, Bool.and_true]
    exact decide_eq_true h1
  · rw [decide_eq_false c]
    refine Bool.eq_false_iff.mpr fun q => c (h.mp ?_)
    obtain ⟨q1, q2⟩ := Bool.and_eq_true_iff.mp q
    exact ⟨of_decide_eq_true q1, q2⟩
theorem slice_tail {w : Str} (h : 1 ≤ w.cps.toList.length) : (StrLaws.sliceText w (some 1) none).cps.toList = w.cps.toList.tail := by
  rw [StrLaws.sliceText_from (i := 1) ⟨by decide, by omega⟩]
  show (List.take _ (List.drop 1 _)) = _
  rw [List.drop_one]
  refine List.take_of_length_le ?_
  rw [List.length_tail]
  omega
theorem figure_in (c : Nat) : (!(!(Builtin.Str.occurrences (Str.ofString "0123456789") ⟨#[c]⟩ 0 (Str.ofString "0123456789").length 1).isEmpty)) = !decide (48 ≤ c ∧ c ≤ 57) := by
  rw [StrLaws.found_one]
  congr 1
  have e : (Str.ofString "0123456789").cps.toList = [48, 49, 50, 51, 52, 53, 54, 55, 56, 57] := by rfl
  rw [e]
  refine decide_eq_decide.mpr ⟨fun h => ?_, fun h => ?_⟩
  · simp at h
    omega
  · simp
    omega
theorem tl_get {l : List Str} {i : Nat} {v : V} (h : (TL l)[i]? = some v) : ∃ x, v = .str x ∧ l[i]? = some x := by
  unfold TL at h
  rw [List.getElem?_map] at h
  obtain ⟨x, hx, rfl⟩ := Option.map_eq_some_iff.mp h
  exact ⟨x, rfl, hx⟩
theorem tl_length (l : List Str) : (TL l).length = l.length := by unfold TL; rw [List.length_map]
theorem tl_snoc (l : List Str) (x : Str) : TL l ++ [.str x] = TL (l ++ [x]) := by unfold TL; rw [List.map_append]; rfl
theorem webT_succ {n : Int} {ps : List (Int × Int)} {ls : List Int} {i : Nat} {p : Int × Int} {l : Int} (hp : ps[i]? = some p) (hl : ls[i]? = some l) : webT n (ps.take (i + 1)) (ls.take (i + 1)) = webT n (ps.take i) (ls.take i) ++ [lineT p l] := by
  have h1 := (List.getElem?_eq_some_iff.mp hp).1
  have h2 := (List.getElem?_eq_some_iff.mp hl).1
  unfold webT
  rw [List.take_succ, List.take_succ, hp, hl]
  rw [List.zipWith_append (by rw [List.length_take, List.length_take]; omega)]
  rfl
theorem web_len {n : Int} {ps : List (Int × Int)} {ls : List Int} (hl : ls.length = ps.length) : (webT n ps ls).length = ps.length + 1 := by
  unfold webT
  rw [List.length_cons, List.length_zipWith]
  omega
theorem line_len {p : Int × Int} {l : Int} (h : Told [p.1, p.2, l]) : (lineT p l).length ≤ 400 := by
  unfold lineT
  rw [blank_eq]
  refine Nat.le_trans (join_len (B := 61) (l := Str.ofString "tie" :: [p.1, p.2, l].map nT) fun a ha => ?_) (show 4 * (61 + 1) ≤ 400 by decide)
  rcases List.mem_cons.mp ha with e | e
  · rw [e]; decide
  · exact told_len h a e
theorem web_told {n : Int} {ps : List (Int × Int)} {ls : List Int} (g : GoodW n ps) (hT : Told ls) {i : Nat} {p : Int × Int} {l : Int} (hp : ps[i]? = some p) (hl : ls[i]? = some l) : Told [p.1, p.2, l] := fun z hz => by
  have := g.2.2.2 p (List.mem_of_getElem? hp)
  have := g.2.1
  rcases List.mem_cons.mp hz with e | e
  · omega
  · rcases List.mem_cons.mp e with e | e
    · omega
    · rw [List.mem_singleton.mp e]; exact hT l (List.mem_of_getElem? hl)
theorem web_lens {n : Int} {ps : List (Int × Int)} {ls : List Int} (g : GoodW n ps) (hT : Told ls) : ∀ a ∈ webT n ps ls, a.length ≤ 400 := fun a ha => by
  rcases List.mem_cons.mp ha with e | e
  · rw [e, str_len, Str.cps_append, Array.toList_append, List.length_append, ← str_len, ← str_len]
    have := nT_len (i := n) (k := 60) (by decide) (by have := g.1; omega) (by have := g.2.1; omega)
    have e2 : (Str.ofString "places ").length = 7 := by decide
    omega
  · obtain ⟨i, hi, e⟩ := List.getElem_of_mem e
    rw [List.getElem_zipWith] at e
    rw [← e]
    rw [List.length_zipWith] at hi
    exact line_len (web_told g hT (i := i) (List.getElem?_eq_getElem (by omega)) (List.getElem?_eq_getElem (by omega)))
end My

/-! ## range(a, b, -1); list.pop(); methods of a class -/
namespace L2
open PySem PySem.Spec PyProof.Rows
section
variable {X : Cx} {tg : Expr}
end
end L2
namespace My
open PySem L2
end My

/-! ## a desk: webs with lengths, one behind the other -/
namespace My
open PySem L2
/-- places, ties, lengths -/
abbrev Tr := Int × List (Int × Int) × List Int
def OkT (T : Tr) : Prop := GoodW T.1 T.2.1 ∧ T.2.2.length = T.2.1.length ∧ Told T.2.2
def StageV (C : Addr) (H : Hp) (v : V) (T : Tr) : Prop := ∃ t w a, v = .ref t ∧ H t = some (.tup [.ref w, .ref a]) ∧ WebAt C H w T.1 T.2.1 ∧ H a = some (.lst (IL T.2.2))
def PastV (H : Hp) (v : V) (T : Tr) : Prop := ∃ p l b xs, v = .ref p ∧ H p = some (.tup [.int T.1, .ref l, .ref b]) ∧ H l = some (.lst xs) ∧ PairsV H xs T.2.1 ∧ H b = some (.lst (IL T.2.2))
/-- a list that begins with a tuple that is no pair of numbers -/
def OddL (H : Hp) (d : Addr) : Prop := ∃ t r v, H d = some (.lst (.ref t :: r)) ∧ H t = some (.tup v) ∧ ∀ a b : Int, v ≠ [.int a, .int b]
theorem odd_pairs {H : Hp} {d l : Addr} {xs : List V} {ps : List (Int × Int)} (h : OddL H d) (hl : H l = some (.lst xs)) (hp : PairsV H xs ps) : l ≠ d := fun e => by
  obtain ⟨t, r, v, h1, h2, h3⟩ := h
  subst e
  rw [hl] at h1
  cases h1
  obtain ⟨p, _, tt, e, ht⟩ := hp.at (i := 0) (v := .ref t) rfl
  cases e
  rw [h2] at ht
  cases ht
  exact h3 _ _ rfl
theorem odd_ints {H : Hp} {d b : Addr} {ls : List Int} (h : OddL H d) (hb : H b = some (.lst (IL ls))) : b ≠ d := fun e => by
  obtain ⟨t, r, v, h1, h2, h3⟩ := h
  subst e
  rw [hb] at h1
  cases ls with
  | nil => cases h1
  | cons z l => cases h1
theorem lst_tup {H : Hp} {d t : Addr} {zs v : List V} (h : H d = some (.lst zs)) (ht : H t = some (.tup v)) : t ≠ d := fun e => by
  subst e
  rw [h] at ht
  cases ht
theorem OddL.lst {H : Hp} {d : Addr} (h : OddL H d) : ∃ zs, H d = some (.lst zs) := let ⟨t, r, v, h1, _⟩ := h; ⟨_, h1⟩
theorem WebAt.mutO {C : Addr} {H : Hp} {d w : Addr} {n : Int} {ps : List (Int × Int)} {ys : List V} (h : OddL H d) (hW : WebAt C H w n ps) : WebAt C (upd H d (.lst ys)) w n ps := by
  obtain ⟨zs, hd⟩ := h.lst
  obtain ⟨dx, tl, xs, g1, g2, g3⟩ := hW
  have nw : w ≠ d := fun e => by subst e; rw [hd] at g1; cases g1
  exact ⟨dx, tl, xs, by rw [upd_ne nw]; exact g1, by rw [upd_ne (odd_pairs h g2 g3)]; exact g2, g3.mut hd⟩
theorem StageV.mut {C : Addr} {H : Hp} {d : Addr} {v : V} {T : Tr} {ys : List V} (h : OddL H d) (hs : StageV C H v T) : StageV C (upd H d (.lst ys)) v T := by
  obtain ⟨zs, hd⟩ := h.lst
  obtain ⟨t, w, a, e, h1, h2, h3⟩ := hs
  exact ⟨t, w, a, e, by rw [upd_ne (lst_tup hd h1)]; exact h1, h2.mutO h, by rw [upd_ne (odd_ints h h3)]; exact h3⟩
theorem PastV.mut {H : Hp} {d : Addr} {v : V} {T : Tr} {ys : List V} (h : OddL H d) (hs : PastV H v T) : PastV (upd H d (.lst ys)) v T := by
  obtain ⟨zs, hd⟩ := h.lst
  obtain ⟨p, l, b, xs, e, h1, h2, h3, h4⟩ := hs
  exact ⟨p, l, b, xs, e, by rw [upd_ne (lst_tup hd h1)]; exact h1, by rw [upd_ne (odd_pairs h h2 h3)]; exact h2, h3.mut hd, by rw [upd_ne (odd_ints h h4)]; exact h4⟩
theorem bears_head {α : Type} {R : V → α → Prop} {zs : List V} {L : List α} (h : Bears R zs L) (hp : 0 < zs.length) : ∃ v r a, zs = v :: r ∧ R v a := by
  cases zs with
  | nil => cases hp
  | cons v r =>
    cases L with
    | nil => cases h.1
    | cons a l =>
      obtain ⟨x, hx, hr⟩ := h.2 0 a rfl
      cases hx
      exact ⟨v, r, a, rfl, hr⟩
theorem past_odd {H : Hp} {d : Addr} {zs : List V} {L : List Tr} (hd : H d = some (.lst zs)) (h : Bears (PastV H) zs L) (hp : 0 < zs.length) : OddL H d := by
  obtain ⟨v, r, T, rfl, p, l, b, xs, rfl, h1, _⟩ := bears_head h hp
  exact ⟨p, r, _, hd, h1, fun a b e => by cases e⟩
/-- the kept list is not the desk's -/
theorem past_ne {C : Addr} {H : Hp} {d pA : Addr} {zs ys : List V} {L M : List Tr} (hd : H d = some (.lst zs)) (hA : H pA = some (.lst ys)) (h : Bears (StageV C H) zs L) (h2 : Bears (PastV H) ys M) (hp : 0 < zs.length) : pA ≠ d := fun e => by
  subst e
  rw [hA] at hd
  cases hd
  obtain ⟨v, r, T, e, t, w, a, e2, h1, _⟩ := bears_head h hp
  obtain ⟨v2, r2, T2, e3, p, l, b, xs, e4, h3, _⟩ := bears_head h2 hp
  rw [e] at e3
  cases e3
  rw [e2] at e4
  cases e4
  rw [h1] at h3
  cases h3
def DeskAt (C : Addr) (H : Hp) (x d : Addr) (zs : List V) : Prop := ∃ dx, H x = some (.ins C dx (putF "stages" (.ref d) [])) ∧ H d = some (.lst zs)
theorem DeskAt.mut {C : Addr} {H : Hp} {x d p : Addr} {zs ys us : List V} (h : DeskAt C H x d zs) (hp : H p = some (.lst us)) (hne : p ≠ d) : DeskAt C (upd H p (.lst ys)) x d zs := by
  obtain ⟨dx, h1, h2⟩ := h
  have nx : x ≠ p := fun e => by subst e; rw [h1] at hp; cases hp
  exact ⟨dx, by rw [upd_ne nx]; exact h1, by rw [upd_ne (Ne.symm hne)]; exact h2⟩
end My

/-! ## a desk beside what is kept of it -/
namespace My
open PySem L2
structure DSt (CD C : Addr) (H : Hp) (x d pA : Addr) (zs ys : List V) (L M : List Tr) : Prop where
  desk : DeskAt CD H x d zs
  st : Bears (StageV C H) zs L
  pst : H pA = some (.lst ys)
  past : Bears (PastV H) ys M
  okL : ∀ T ∈ L, OkT T
  okM : ∀ T ∈ M, OkT T
  posL : 0 < L.length
  posM : 0 < M.length
section
variable {CD C : Addr} {H H' : Hp} {x d pA : Addr} {zs ys : List V} {L M : List Tr}
theorem DSt.lst (h : DSt CD C H x d pA zs ys L M) : H d = some (.lst zs) := let ⟨_, _, h2⟩ := h.desk; h2
theorem DSt.ne (h : DSt CD C H x d pA zs ys L M) : pA ≠ d := past_ne h.lst h.pst h.st h.past (by rw [h.st.1]; exact h.posL)
theorem DSt.oddP (h : DSt CD C H x d pA zs ys L M) : OddL H pA := past_odd h.pst h.past (by rw [h.past.1]; exact h.posM)
theorem DSt.keep (h : DSt CD C H x d pA zs ys L M) {p : Addr} {T : Tr} (ht : PastV H (.ref p) T) (ok : OkT T) : DSt CD C (upd H pA (.lst (ys ++ [.ref p]))) x d pA zs (ys ++ [.ref p]) L (M ++ [T]) :=
  ⟨h.desk.mut h.pst h.ne, h.st.imp fun _ _ q => q.mut h.oddP, upd_same, (h.past.imp fun _ _ q => q.mut h.oddP).snoc (ht.mut h.oddP), h.okL, fun T' hT => by
    rcases List.mem_append.mp hT with e | e
    · exact h.okM T' e
    · rw [List.mem_singleton.mp e]; exact ok, h.posL, by rw [List.length_append, List.length_singleton]; omega⟩
end
end My

/-! ## texts of reports -/
namespace My
open PySem L2
end My

/-! ## exceptions out of a comprehension -/
namespace L2
open PySem PySem.Spec PyProof.Rows
/-- in flight, its last entry marked fl -/
def FlyAt (base : Heap) (l : List Env) (e : Addr) (cls a0 fl : Value) (h : Heap) : Prop := base.StaysIn h ∧ base.get? e = none ∧ h.FunFrames base l ∧ h.TracedAtW base e cls a0 fl
/-- a mark is nothing or a frame -/
def Mark (v : Value) : Prop := v = .none ∨ ∃ f : Addr, v = rawInt f
section
variable {M : Model} {A : Around} {E : Value → Shared → Prop} {s : Shared} {base : Heap} {env env' : Env} {outer l : List Env} {L e f : Addr} {cls a0 fl : Value}
theorem note_eq (h : env'.frame = env.frame) (v : Value) : noteFrame v env' = noteFrame v env := by
  unfold noteFrame PySem.frameOf
  rw [h]
/-- the entry is marked -/
theorem mark_any {fr : Option Addr} {Q : Unit → Shared → Prop} (F : FlyAt base l e cls a0 fl s.heap) (k : ∀ g, FlyAt base l e cls a0 (fr.elim .none fun f => rawInt f) g → s.heap.UpToSlots g → Q () { s with heap := g }) : wpAny M A (setFlight (.ref e) fr) Q E s := by
  obtain ⟨b1, b2, b3, oe, vs, T, oT, ts, x1, x2, x3, x4, x5, x6, x7, x8, x9⟩ := F
  have z : 3 < ts.size := (Array.getElem?_eq_some_iff.mp x9).1
  unfold setFlight
  refine wpAny_bind (wpAny_field x1 x3 x4 ?_)
  rw [if_pos (by simp)]
  refine wpAny_setField x7 x8 z ?_
  have oth : ∀ b, b ≠ T → (s.heap.update T (Obj.mapFields (·.setIfInBounds 3 (fr.elim Value.none fun f => rawInt f)))).get? b = s.heap.get? b := fun b n => Heap.get?_update_other _ _ (Ne.symm n)
  have nT : ∀ b o, s.heap.get? b = some o → (∀ ws, o.data ≠ .fields ws) → b ≠ T := fun b o q d r => by
    rw [r, x7] at q
    cases q
    exact d ts x8
  refine k _ ⟨fun b o q => ?_, b2, b3.of_keeps fun b o q d => ⟨o, (oth b (nT b o q d)).trans q, rfl⟩, ?_⟩ fun b o q d => ⟨o.slots, (oth b (nT b o q d)).trans q⟩
  · refine (oth b fun r => ?_).trans (b1 b o q)
    rw [r, x5] at q
    cases q
  · refine ⟨oe, vs, T, _, _, (oth e (Ne.symm x6)).trans x1, x2, x3, x4, x5, x6, Heap.get?_update_self _ x7 (Obj.isFreed_of_fields (Obj.data_mapFields x8 _)), Obj.data_mapFields x8 _, ?_⟩
    simp [z]
/-- it is handed on -/
theorem pass_any {α : Type} {what : String} {cenv : Env} {Q : α → Shared → Prop} (F : FlyAt base l e cls a0 fl s.heap) (k : ∀ m g, Mark m → FlyAt base l e cls a0 m g → s.heap.UpToSlots g → E (.ref e) { s with heap := g }) : wpAny M A (passOn what (.ref e) cenv : Sem α) Q E s := by
  obtain ⟨_, _, _, oe, vs, T, oT, ts, x1, x2, x3, x4, _⟩ := id F
  have km : Mark (cenv.frame.elim .none fun f => rawInt f) := by
    cases cenv.frame with
    | none => exact .inl rfl
    | some f => exact .inr ⟨f, rfl⟩
  unfold PySem.passOn
  refine wpAny_bind (wpAny_field x1 x3 x4 ?_)
  rw [if_neg (by simp)]
  first
    | exact wpAny_bind (wpAny_pure (wpAny_bind (mark_any F fun g q u => wpAny_throw (k _ g km q u))))
    | exact wpAny_bind (mark_any F fun g q u => wpAny_throw (k _ g km q u))
/-- it leaves a frame, whatever its mark -/
theorem leave_any {Q : Unit → Shared → Prop} (hfr : A.frames = some (env :: outer)) (hf : env.frame = some L) (hm : Mark fl) (F : FlyAt base (env :: outer) e cls a0 fl s.heap) (k : ∀ g, Heap.FlyingW base outer e cls a0 g → s.heap.UpToSlots g → Q () { s with heap := g }) : wpAny M A (leaving env (.ref e)) Q E s := by
  rcases hm with rfl | ⟨f, rfl⟩
  · exact wpAny_leaves_onW hfr hf F k
  by_cases hc : f = L
  · subst hc
    unfold leaving
    refine wpAny_bind (wpAny_noteFrame_againW hf F.2.2.2 (wpAny_landsW F fun g q u => ?_))
    obtain ⟨k1, k2, ⟨_, _, k3⟩, k4⟩ := q
    exact k g ⟨k1, k2, k3, k4⟩ u
  obtain ⟨b1, b2, b3, oe, vs, T, oT, ts, x1, ⟨rfl, x0⟩, x3, x4, x5, x6, x7, x8, x9⟩ := F
  have z : 3 < ts.size := (Array.getElem?_eq_some_iff.mp x9).1
  have oth : ∀ b, b ≠ T → (s.heap.update T (Obj.mapFields (·.setIfInBounds 3 Value.none))).get? b = s.heap.get? b := fun b n => Heap.get?_update_other _ _ (Ne.symm n)
  have nT : ∀ b o, s.heap.get? b = some o → (∀ ws, o.data ≠ .fields ws) → b ≠ T := fun b o q d r => by
    rw [r, x7] at q
    cases q
    exact d ts x8
  unfold leaving noteFrame
  simp only [hf]
  refine wpAny_bind (wpAny_bind (wpAny_field x1 x3 x4 ?_))
  rw [if_pos (by simp)]
  refine wpAny_bind (wpAny_field x7 x8 x9 ?_)
  rw [if_neg (by simp [rawInt]; exact fun r => hc (Int.ofNat_inj.mp r))]
  refine wpAny_bind (wpAny_setField x7 x8 z ?_)
  refine wpAny_newEntryW hfr (b3.of_keeps fun b o q d => ⟨o, (oth b (nT b o q d)).trans q, rfl⟩) hf ((oth e (Ne.symm x6)).trans x1) (fun b o q => ?_) b2 x3 (Array.getElem?_eq_some_iff.mp x4).1 x0 fun g ⟨y1, ⟨_, _, y2⟩, y3, y4⟩ => k g ⟨y1, b2, y2, y3⟩ fun b o q d => y4 b o ((oth b (nT b o q d)).trans q) d
  refine (oth b fun r => ?_).trans (b1 b o q)
  rw [r, x5] at q
  cases q
end
section
variable {X : Cx} {pins : List (Addr × Obj)} {σ : St} {H : Hp} {s : Shared} {e C : Addr} {fl : Value} {h0 : Heap}
/-- as Fly, with a mark -/
structure FlyM (h0 : Heap) (H : Hp) (e C : Addr) (fl : Value) (h : Heap) : Prop where
  ex : ∃ oe vs T oT ts a0, h.get? e = some oe ∧ oe.cls = .ref C ∧ oe.data = .fields vs ∧ vs[0]? = some a0 ∧ vs[1]? = some (.ref T) ∧ T ≠ e ∧ h.get? T = some oT ∧ oT.data = .fields ts ∧ ts[3]? = some fl ∧ h0.get? T = none ∧ H T = none
  new : h0.get? e = none
  free : H e = none
theorem Fly.m {h : Heap} (F : Fly h0 H e C h) : FlyM h0 H e C .none h := ⟨F.ex, F.new, F.free⟩
theorem FlyM.base (I : Inv X pins σ H s) (F : FlyM h0 H e C fl s.heap) : ∃ T a0, FlyAt (grd X s.heap [e, T]) X.stack e (.ref C) a0 fl s.heap ∧ h0.get? T = none ∧ H T = none := by
  obtain ⟨oe, vs, T, oT, ts, a0, y1, y2, y3, y4, y5, y6, y7, y8, y9, nT, fT⟩ := F.ex
  refine ⟨T, a0, ⟨grd_of, PySem.W.hideAll_none _ (by simp), ?_, oe, vs, T, oT, ts, y1, ⟨y2, y4⟩, y3, y5, PySem.W.hideAll_none _ (by simp), y6, y7, y8, y9⟩, nT, fT⟩
  exact PySem.W.funFrames_hide I.stack fun env henv a hf => List.mem_append_left _ (List.mem_filterMap.mpr ⟨env, henv, hf⟩)
theorem FlyM.back {T : Addr} {a0 : Value} {g : Heap} (I : Inv X pins σ H s) (nT : h0.get? T = none) (fT : H T = none) (hold : ∀ b, s.heap.get? b = none → h0.get? b = none) (ne : h0.get? e = none) (fe : H e = none)
    (F : FlyAt (grd X s.heap [e, T]) X.stack e (.ref C) a0 fl g) : FlyM h0 H e C fl g := by
  obtain ⟨b1, b2, b3, oe, vs, T', oT, ts, x1, ⟨x2, x0⟩, x3, x4, x5, x6, x7, x8, x9⟩ := F
  have nf : T' ∉ frs X.stack := fun z => by
    obtain ⟨_, o, ho, hd⟩ := b3.mem z
    rw [x7] at ho
    cases ho
    exact hd ts x8
  have key : ∀ u, s.heap.get? T' = some u → T' ≠ T → False := fun u q n => by
    rw [grd_get q nf (by simp [x6, n])] at x5
    cases x5
  refine ⟨⟨oe, vs, T', oT, ts, a0, x1, x2, x3, x0, x4, x6, x7, x8, x9, ?_, ?_⟩, ne, fe⟩
  · by_cases hc : T' = T
    · rw [hc]; exact nT
    · cases q : s.heap.get? T' with
      | none => exact hold _ q
      | some u => exact (key u q hc).elim
  · by_cases hc : T' = T
    · rw [hc]; exact fT
    · cases q : H T' with
      | none => rfl
      | some ho =>
        obtain ⟨u, g⟩ := (I.hok T' ho q).there
        exact (key u g hc).elim
/-- it leaves the def, whatever its mark -/
theorem leave_flyM (hst : X.stack = X.env :: X.outer) (hfr : X.env.frame = some X.env.locals) (hex : X.ex = []) (I : Inv X pins σ H s) (hm : Mark fl) (F : FlyM X.s₀.heap H e C fl s.heap) {E : XK} (hE : E (.ref C) none H) {E' : Value → Shared → Prop} :
    wpAny (model X.prog X.w) X.A (leaving X.env (.ref e)) (fun _ s'' => CXW X.prog X.w X.outer X.H₀ X.s₀ E (.ref e) s'') E' s := by
  obtain ⟨T, a0, q, nT, fT⟩ := FlyM.base I F
  rw [hst] at q
  refine leave_any (by rw [I.ok.frames, hst]) hfr hm q fun g fl' up => ?_
  refine cx_left hst hfr hex I (fun b hb => ?_) fl' up F.new F.free hE rfl rfl rfl
  rcases List.mem_cons.mp hb with rfl | hb
  · exact ⟨F.new, F.free⟩
  · rw [List.mem_singleton.mp hb]; exact ⟨nT, fT⟩
/-- what the step out of a block asks of the context around it -/
def PassesM (X : Cx) (E : XK) : Prop := ∀ (pins : List (Addr × Obj)) (σ : St) (H : Hp) (s : Shared) (e C : Addr) (fl : Value), Inv X pins σ H s → Mark fl → FlyM X.s₀.heap H e C fl s.heap → E (.ref C) none H → X.xe (.ref e) s
theorem pxM {P : Program} {w : World} {K : PySem.W.Frag} {mg : Str → Option Value} {base : Heap} {N : List Str} {qual : Str} {scope : Scope} {f : Addr} {cd : Value} {A : Around} {outer : List Env} {s : Shared} {H : Hp} {E : XK} : PassesM (cxOf (CXW P w) P w K mg base N qual scope f cd A outer s H E) E :=
  fun _ _ _ _ _ _ _ I hm F hE => leave_flyM rfl rfl rfl I hm F hE
end
section
variable {X : Cx} {pins pn : List (Addr × Obj)} {σ σ1 : St} {H1 H2 : Hp} {s1 s2 s' : Shared} {N' : List Str} {scope : Scope} {fp : List Addr} {Cc : Addr} {cl : List (Str × Addr)} {ev acc : Value} {E : XK} {E' : Value → Shared → Prop} {use : Option (Value → Sem Unit)} {Q : Value → Shared → Prop}
/-- an exception leaves the block of a comprehension -/
theorem block_out (PX : PassesM X E) (hst : X.stack = X.env :: X.outer) (hfr : X.env.frame = some X.env.locals) (hex : X.ex = []) (I2 : Inv X pins σ H2 s2) (f2 : ∀ b ∈ fp, FpOk X pins H2 b) (hC : s2.heap.objs.size ≤ Cc)
    (I1 : Inv (cxC X N' scope Cc s2 H2 fp) pn σ1 H1 s1) (hpn : ∀ b ∈ fp, ∃ o, (b, o) ∈ pn) (hx : CXW X.prog X.w X.stack H1 s1 E ev s') :
    wpAny (model X.prog X.w) X.A (noteFrame ev (compEnvC scope cl Cc X.env)) (fun _ s'' => compPost (model X.prog X.w) X.A X.xe use Q acc Cc (.error ev) s'') E' s' := by
  obtain ⟨e, Cl, H', rfl, ho, hg, u, ok, F, hE⟩ := hx
  have J1 : Inv (cxC X N' scope Cc s2 H2 fp) pn σ1 H' s' := I1.call' (ch := []) ho u ok hg (fun _ z => nomatch z)
  have hold : ∀ b, s'.heap.get? b = none → s1.heap.get? b = none := fun b z => by
    cases q : s1.heap.get? b with
    | none => rfl
    | some o =>
      obtain ⟨v, g⟩ := u.there b o q (by simp)
      rw [z] at g
      cases g
  have key : ∀ b, s1.heap.get? b = none → s2.heap.get? b = none := fun b z => by
    cases q : s2.heap.get? b with
    | none => rfl
    | some o =>
      by_cases hb : b ∈ fp
      · obtain ⟨o', hm⟩ := hpn b hb
        have g := (I1.pin (b, o') (List.mem_append_right _ hm)).1
        rw [z] at g
        cases g
      · obtain ⟨v, g⟩ := I1.base.there b o q hb
        rw [z] at g
        cases g
  rw [note_eq (env := X.env) (env' := compEnvC scope cl Cc X.env) rfl]
  obtain ⟨T, a0, q, nT, fT⟩ := FlyM.base J1 F.m
  have q : FlyAt (grd X s'.heap [e, T]) X.stack e (.ref Cl) a0 .none s'.heap := q
  rw [hst] at q
  refine wpAny_looks_onW (by rw [I2.ok.frames, hst]) hfr q fun g held up => ?_
  rw [← hst] at held
  have FM : FlyM s1.heap H' e Cl (rawInt X.env.locals) g := FlyM.back J1 nT fT hold F.new F.free held
  have J1g : Inv (cxC X N' scope Cc s2 H2 fp) pn σ1 H' { s' with heap := g } := J1.held (tk := s'.toks) (ns := [e, T]) (fun b hb => by
    have one : ∀ b, s1.heap.get? b = none → H' b = none → s2.heap.get? b = none ∧ H' b = none ∧ ∀ p ∈ [] ++ pn, p.1 ≠ b := fun b n0 f0 => ⟨key b n0, f0, fun p hp z => by
      have := (I1.pin p hp).1
      rw [z, n0] at this
      cases this⟩
    rcases List.mem_cons.mp hb with rfl | hb
    · exact one _ F.new F.free
    · rw [List.mem_singleton.mp hb]; exact one _ nT fT) held.1 up
  have JX : Inv X pins σ H' { s' with heap := g } := I2.call' (ch := fp) J1g.os J1g.base J1g.hok J1g.bare fun b hb => by
    obtain ⟨f0, f1, f3, f4, f5, f6⟩ := f2 b hb
    exact ⟨f4, f1, f5, f6⟩
  obtain ⟨m, hn, _⟩ := J1g.loc
  have hn : g.Ns Cc m := hn
  have goal : ∃ m, g.Ns Cc m ∧ ∀ h', Heap.SameBut Cc g h' → ∀ cenv : Env, cenv.locals = Cc → wpAny (model X.prog X.w) X.A (PySem.passOn "comprehension.variables-let-go" (.ref e) cenv : Sem Value) (fun _ _ => False) X.xe { s' with heap := h' } := by
    refine ⟨m, hn, fun h' hs' cenv _ => ?_⟩
    have JX' : Inv X pins σ H' { s' with heap := h' } := Inv.turned (s := { s' with heap := g }) JX (t' := s'.toks) (it := Cc) (fun b ob hb e => hs'.extBut b ob hb e) J1g.free (Nat.ne_of_gt (Nat.lt_of_lt_of_le I2.lt hC)) (.inr (Nat.le_trans I2.sz hC))
      (fun x c e => by obtain ⟨v, z⟩ := I2.cell x c e; exact Nat.ne_of_lt (Nat.lt_of_lt_of_le z.lt hC)) fun p hp => Nat.ne_of_lt (Nat.lt_of_lt_of_le (Heap.lt_size (I2.pin p hp).1) hC)
    obtain ⟨oC, es, ep, hoC, hdC, _⟩ := id hn
    have far : ∀ b o vs, g.get? b = some o → o.data = .fields vs → b ≠ Cc := fun b o vs q d z => by
      rw [z, hoC] at q
      cases q
      rw [hdC] at d
      cases d
    have FM' : FlyM s2.heap H' e Cl (rawInt X.env.locals) h' := by
      obtain ⟨oe, vs, T1, oT, ts, a1, y1, y2, y3, y4, y5, y6, y7, y8, y9, nT1, fT1⟩ := FM.ex
      exact ⟨⟨oe, vs, T1, oT, ts, a1, (hs'.2 e (far e oe vs y1 y3)).trans y1, y2, y3, y4, y5, y6, (hs'.2 T1 (far T1 oT ts y7 y8)).trans y7, y8, y9, key _ nT1, fT1⟩, key _ FM.new, FM.free⟩
    obtain ⟨T2, a2, q2, nT2, fT2⟩ := FlyM.base JX' FM'
    refine pass_any q2 fun mk g4 hm F4 up4 => ?_
    have J4 : Inv X pins σ H' { s' with heap := g4 } := Inv.held (s := { s' with heap := h' }) JX' (tk := s'.toks) (ns := [e, T2]) (fun b hb => by
      have one : ∀ b, s2.heap.get? b = none → H' b = none → X.s₀.heap.get? b = none ∧ H' b = none ∧ ∀ p ∈ X.pn ++ pins, p.1 ≠ b := fun b n0 f0 => ⟨I2.was hex n0, f0, fun p hp z => by
        have := (I2.pin p hp).1
        rw [z, n0] at this
        cases this⟩
      rcases List.mem_cons.mp hb with rfl | hb
      · exact one _ FM'.new FM'.free
      · rw [List.mem_singleton.mp hb]; exact one _ nT2 fT2) F4.1 up4
    exact PX pins σ H' _ e Cl mk J4 hm (FlyM.back JX' (I2.was hex nT2) fT2 (fun b z => JX'.was hex z) (I2.was hex FM'.new) FM'.free F4) hE
  cases use <;> exact goal
end
theorem compLoop_anyX {prog : Program} {w : World} {A : Around} {s : Shared} {R : Result → Shared → Prop} {elt target iter : Expr} {ifs : List Expr} {scope : Scope} {pos : Pos} {it acc : Value} {env : Env} (J : Nat → Shared → Prop) {XE : Value → Shared → Prop} (hx : ∀ e s', XE e s' → notedBy (model prog w) A env (fun e s' => R (.error e) s') e s')
    (turn : ∀ n s, J n s → wpAny (model prog w) A (pyNext it) (fun r s1 => match r with
      | none => R (.ok .next) s1
      | some v => wpAny (model prog w) A (letOwnedTupleGo target it v) (fun _ s2 => wpAny (model prog w) A (assign target env v) (fun _ s3 =>
          wpAny (model prog w) A (forIn ifs true fun c r => if r = true then do let ok ← isTrue c env (eval c env); pure (ForInStep.yield ok) else pure (ForInStep.yield r)) (fun ok s4 =>
            if ok = true then wpAny (model prog w) A (eval elt env) (fun x s5 =>
              wpAny (model prog w) A (call (.builtin "list.append") [acc, x]) (fun _ s6 => ∃ m, m < n ∧ J m s6) (fun _ _ => False) s5) XE s4
            else ∃ m, m < n ∧ J m s4) (fun _ _ => False) s3) (fun _ _ => False) s2) (fun _ _ => False) s1) (fun _ _ => False) s)
    (n : Nat) (h : J n s) : codeAny (model prog w) A (.compLoop (.ListComp elt [⟨target, iter, ifs, 0⟩] scope pos) 0 it acc env) R s := by
  refine codeAny_loop rfl J (fun n s hI => ?_) n h
  show wpAny _ A ((compTurn (.ListComp elt [⟨target, iter, ifs, 0⟩] scope pos) 0 it acc env).onRaise (fun x => do noteFrame x env; theTreesLotGoes x)) _ _ s
  refine wpAny_noted ?_
  rw [compTurn_list]
  refine wpAny_bind (wpAny_standAt (wpAny_bind (wpAny_mono (turn n s hI) (fun r s1 h1 => ?_) fun _ _ z => z.elim)))
  cases r with
  | none => exact wpAny_pure h1
  | some v =>
    refine wpAny_bind (wpAny_mono h1 (fun _ s2 h2 => ?_) fun _ _ z => z.elim)
    refine wpAny_bind (wpAny_mono h2 (fun _ s3 h3 => wpAny_bind (wpAny_mono h3 (fun ok s4 h4 => ?_) fun _ _ z => z.elim)) fun _ _ z => z.elim)
    cases ok with
    | false => exact wpAny_pure ⟨rfl, h4⟩
    | true =>
      exact wpAny_bind (wpAny_bind (wpAny_mono h4 (fun x s5 h5 => wpAny_bind (wpAny_mono h5 (fun _ s6 h6 => wpAny_pure (wpAny_pure ⟨rfl, h6⟩)) fun _ _ z => z.elim)) hx))
section
variable {X : Cx} {N' : List Str} {o : Nat} {fr : List Nat} {scope : Scope} {elt tg iter : Expr} {ifs : List Expr} {pos : Pos} {wi : TI} {g : TG} {tt : TT} {te : TE}
/-- a comprehension whose elements may raise -/
theorem lc_runX {E : XK} (PX : PassesM X E) (hst : X.stack = X.env :: X.outer) (hfr : X.env.frame = some X.env.locals) (hex : X.ex = []) (hc : X.calm = true) {sc0 : Scope} {N0 : List Str} (S : CompScope sc0 N0 N' o fr scope) (hi : PI X tg iter wi) (ho : OwnG o g)
    (hg : ∀ (C : Addr) (s : Shared) (H : Hp) (fp : List Addr), PG (cxC X N' scope C s H fp) tg g)
    (ht : ∀ (C : Addr) (s : Shared) (H : Hp) (fp : List Addr), PTs (cxC X N' scope C s H fp) ifs tt)
    (he : ∀ (C : Addr) (s : Shared) (H : Hp) (fp : List Addr) (pn : List (Addr × Obj)), PE (tryCx (cxC X N' scope C s H fp) pn fun _ => E) elt te)
    (hs : ∀ x, foldedSetIterable iter X.env x = pure x) (hsc : X.env.scope = sc0) (hN0 : X.N = N0) {pins : List (Addr × Obj)} {s : Shared} {σ : St} {H : Hp} {Qv : VK} (I : Inv X pins σ H s) (h : tLc wi g tt te o fr σ H Qv)
    {use : Option (Value → Sem Unit)} {Q : Value → Shared → Prop}
    (fin : ∀ (C oC D : _) (m : Str → Option Value) (H' : Hp) (ys : List V) (s' : Shared), Inv X (pins ++ [(C, oC)]) σ (upd H' D (.lst ys)) s' → Qv (.ref D) (upd H' D (.lst ys)) → s'.heap.Ns C m → H' C = none → C ≠ D →
      C ≠ X.env.locals → X.s₀.heap.objs.size ≤ C → (∀ x c, X.env.cells.lookup x = some c → c ≠ C) → (∀ p ∈ X.pn ++ pins, p.1 ≠ C) → compPost (model X.prog X.w) X.A X.xe use Q (.ref D) C (.ok .next) s') :
    wpAny (model X.prog X.w) X.A (comprehension (.ListComp elt [⟨tg, iter, ifs, 0⟩] scope pos) scope X.env (firstIterPos [⟨tg, iter, ifs, 0⟩] pos) (newList []) false (eval iter X.env) use) Q X.xe s := by
  refine wpAny_comprehension_free (use := use) rfl hs (closure_of (S.cells hsc I)) S.kind S.loc' (wpAny_mono (hi pins s σ H _ I h) (fun xv s1 h1 => wpAny_mono h1 (fun itv s2 h2 => ?_) fun _ _ z => z) fun _ _ z => z)
  obtain ⟨it, fp, tn, J, H2, rfl, I2, T, st2, f2, W, ⟨m0, w0⟩, turn⟩ := h2
  have hfl : ∀ b ∈ fp, b < s2.heap.objs.size := fun b hb => by
    obtain ⟨ob, e, _⟩ := T.obj 0 _ st2 b hb
    exact Heap.lt_size e
  refine wpAny_newObj_type (wpAny_newFunctionEnv S.nocell' (by intro y hy; simp at hy) (fun h1 hns1 hsb1 => ?_) S.kind)
  dsimp only at hns1 hsb1 ⊢
  generalize hH2 : s2.heap.push { cls := .type "list", dict := none, data := .seq ([] : List Value).toArray } = G at hns1 hsb1 ⊢
  have hCe : G.objs.size = s2.heap.objs.size + 1 := by rw [← hH2, Heap.size_push]
  have hC : s2.heap.objs.size ≤ G.objs.size := by rw [hCe]; exact Nat.le_succ _
  have hDC : s2.heap.objs.size ≠ G.objs.size := by rw [hCe]; exact Nat.ne_of_lt (Nat.lt_succ_self _)
  have old : ∀ b ob, s2.heap.get? b = some ob → h1.get? b = some ob := fun b ob e =>
    hsb1.extBut b ob (Nat.ne_of_lt (Nat.lt_of_lt_of_le (Heap.lt_size e) hC)) (Heap.get?_push_of_some _ (hH2 ▸ Heap.get?_push_of_some _ e))
  have hacc : h1.get? s2.heap.objs.size = some (accObj []) := hsb1.extBut _ _ hDC (Heap.get?_push_of_some _ (hH2 ▸ Heap.get?_push_size _ rfl))
  have st1 : tn 0 h1 := T.keep _ _ _ st2 fun b _ ob e => old b ob e
  have fpC : ∀ {us : List Value} {H' : Hp}, (∀ b ∈ fp, H' b = none) → ∀ b ∈ fp, FpOk (cxC X N' scope G.objs.size s2 H2 fp) [(s2.heap.objs.size, accObj us)] H' b := fun {us H'} hn b hb => by
    obtain ⟨f0, f1, f3, f4, f5, f6⟩ := f2 b hb
    refine ⟨hn b hb, Nat.ne_of_lt (Nat.lt_of_lt_of_le (hfl b hb) hC), fun z => ?_, .inl hb, fun x c e => f5 x c (S.sub hsc I2 x c e), fun p hp => ?_⟩
    · rcases List.mem_cons.mp (I2.stkSub b z) with q | q
      · exact f1 q
      · exact f3 q
    · have e : p = (s2.heap.objs.size, accObj us) := by simpa using (show p ∈ ([] : List (Addr × Obj)) ++ [(s2.heap.objs.size, accObj us)] from hp)
      subst e
      exact Nat.ne_of_gt (hfl b hb)
  have loop : ∀ s3 : Shared, s3 = { s2 with heap := h1, toks := s2.toks + ([] : List (Str × Value)).length } →
      codeAny (model X.prog X.w) X.A (.compLoop (.ListComp elt [⟨tg, iter, ifs, 0⟩] scope pos) 0 (.ref it) (.ref s2.heap.objs.size) (compEnvC scope (closL X.env.cells scope.names []) G.objs.size X.env))
        (compPost (model X.prog X.w) X.A X.xe use Q (.ref s2.heap.objs.size) G.objs.size) s3 := by
    rintro s3 rfl
    refine compLoop_anyX (XE := fun e s' => ∃ pn σ1 H1 s1, Inv (cxC X N' scope G.objs.size s2 H2 fp) pn σ1 H1 s1 ∧ (∀ b ∈ fp, ∃ o, (b, o) ∈ pn) ∧ CXW X.prog X.w X.stack H1 s1 E e s') (hx := fun e s' ⟨pn, σ1, H1, s1, J1, hpn, q⟩ => block_out PX hst hfr hex I2 f2 hC J1 hpn q) (fun n s' => ∃ i σ' H' ys us, Inv (cxC X N' scope G.objs.size s2 H2 fp) [(s2.heap.objs.size, accObj us)] σ' H' s' ∧ σ' = σC o fr σ ∧ Vals ys us ∧ tn i s'.heap ∧ (∀ b ∈ fp, H' b = none) ∧ W i n ys H') ?_ m0
      ⟨0, _, H2, [], [], I2.block S hsc hN0 f2 hfl hC (Nat.le_refl _) hDC old hns1 hacc, rfl, .nil, st1, fun b hb => (f2 b hb).1, w0⟩
    rintro n s' ⟨i, σ', H', ys, us, I', rfl, rv, st', fr', w'⟩
    rcases turn i n ys H' w' with ⟨stop, hz, q⟩ | ⟨go, hz, step⟩
    · refine thn (T.done (cxC X N' scope G.objs.size s2 H2 fp) rfl rfl rfl hc i _ s' _ H' _ I' (fpC fr') st' stop) fun r s4 ⟨hr, I4⟩ => ?_
      subst hr
      obtain ⟨oC, m, hoC, hn, J4⟩ := I2.unblock f2 hC (Nat.le_refl _) hDC I4 rv hz
      exact fin _ oC _ m H' ys s4 J4 (q _ (I4.pin (s2.heap.objs.size, accObj us) (by simp)).2.1) hn I4.free (Ne.symm hDC) (Nat.ne_of_gt (Nat.lt_of_lt_of_le I2.lt hC)) (Nat.le_trans I2.sz hC)
        (fun x c e => by obtain ⟨v, z⟩ := I2.cell x c e; exact Nat.ne_of_lt (Nat.lt_of_lt_of_le z.lt hC)) fun p hp => Nat.ne_of_lt (Nat.lt_of_lt_of_le (Heap.lt_size (I2.pin p hp).1) hC)
    · refine thn (T.item (cxC X N' scope G.objs.size s2 H2 fp) rfl rfl rfl hc i _ s' _ H' _ I' (fpC fr') st' go) fun r s4 ⟨u, hr, h4⟩ => ?_
      subst hr
      refine thn h4 fun _ s5 ⟨x, H5, I5, r5, y5, st5, fr5⟩ => ?_
      have hst := step x H5 y5
      have hst' := ho x (List.replicate o none) (fr.map fun j => (σ[j]?).join) H5 _ (List.length_replicate ..) hst
      -- the iterator's records are pinned while the block's own code runs
      have I5' := I5.pinned (fpC (us := us) fr5) (T.obj _ _ st5)
      refine thn (hg _ _ _ _ _ s5 _ H5 x u _ I5' r5 hst') fun _ s6 ⟨σ6, H6, I6, ⟨ow, hol, e6⟩, q6⟩ => ?_
      subst e6
      refine thn (ht _ _ _ _ _ s6 _ H6 _ I6 q6) fun b s7 ⟨H7, I7, q7⟩ => ?_
      have back : ∀ {us' : List Value} {σ8 : St} {H8 : Hp} {s8 : Shared}, Inv (cxC X N' scope G.objs.size s2 H2 fp) ([(s2.heap.objs.size, accObj us')] ++ pinsAt fp s5.heap) (ow ++ fr.map fun j => (σ[j]?).join) H8 s8 →
          Inv (cxC X N' scope G.objs.size s2 H2 fp) [(s2.heap.objs.size, accObj us')] (σC o fr σ) H8 s8 ∧ tn (i + 1) s8.heap ∧ ∀ b ∈ fp, H8 b = none := fun {us' σ8 H8 s8} I8 => by
        refine ⟨I8.unpinned.weak ?_ fun j v e => ?_, T.keep _ _ _ st5 fun b hb ob e => (I8.pin (b, ob) (List.mem_append_right _ (List.mem_append_right _ (mem_pinsAt hb e)))).1, fun b hb => ?_⟩
        · unfold σC
          rw [List.length_append, List.length_append, List.length_replicate, hol]
        · unfold σC at e
          by_cases hj : j < o
          · rw [List.getElem?_append_left (by rw [List.length_replicate]; exact hj), List.getElem?_replicate, if_pos hj] at e
            cases e
          · rw [List.getElem?_append_right (by rw [List.length_replicate]; exact Nat.not_lt.mp hj), List.length_replicate] at e
            rw [List.getElem?_append_right (by rw [hol]; exact Nat.not_lt.mp hj), hol]
            exact e
        · obtain ⟨ob, e, _⟩ := T.obj _ _ st5 b hb
          exact (I8.pin (b, ob) (List.mem_append_right _ (List.mem_append_right _ (mem_pinsAt hb e)))).2.1
      cases b with
      | false =>
        rw [if_neg Bool.false_ne_true] at q7 ⊢
        obtain ⟨m', hm, w7⟩ := q7
        obtain ⟨I8, st8, fr8⟩ := back (us' := us) (σ8 := []) I7
        exact ⟨m', hm, i + 1, _, H7, ys, us, I8, rfl, rv, st8, fr8, w7⟩
      | true =>
        rw [if_pos rfl] at q7 ⊢
        have hpn : ∀ b ∈ fp, ∃ o, (b, o) ∈ [(s2.heap.objs.size, accObj us)] ++ pinsAt fp s5.heap := fun b hb => by
          obtain ⟨ob, e, _⟩ := T.obj _ _ st5 b hb
          exact ⟨ob, List.mem_append_right _ (mem_pinsAt hb e)⟩
        refine wpAny_mono (he _ _ _ _ _ _ s7 _ H7 _ I7.inTry q7) (fun y s8 ⟨yv, H8, I8', r8, m', hm, w8⟩ => ?_) fun ev s8 ⟨σ1, H1, s1, J1, q⟩ => ⟨_, σ1, H1, s1, J1, hpn, q⟩
        have I8 := I8'.outTry
        obtain ⟨aD, nD, _, _, _⟩ := I8.pin (s2.heap.objs.size, accObj us) (by simp)
        have aD : s8.heap.get? s2.heap.objs.size = some (accObj us) := aD
        have nD : H8 s2.heap.objs.size = none := nD
        have hul : us.length ≤ sizeLine := by rw [← rv.length]; exact Nat.le_of_lt hz
        refine append_at (hsz := by show us.toArray.size ≤ sizeLine; rw [List.size_toArray]; exact hul) aD fun h9 hs9 hD9 => ?_
        have hD9' : h9.get? s2.heap.objs.size = some (accObj (us ++ [y])) := by
          rw [hD9]
          show some ({ cls := .type "list", data := .seq (us.toArray.push y) (us.length + 1) } : Obj) = some { cls := .type "list", data := .seq (us ++ [y]).toArray (us ++ [y]).length }
          rw [List.length_append, List.length_singleton, List.push_toArray]
        have I9 : Inv (cxC X N' scope G.objs.size s2 H2 fp) (pinsAt fp s5.heap) (ow ++ fr.map fun j => (σ[j]?).join) H8 { s8 with heap := h9 } :=
          (I8.pins_of (pins' := pinsAt fp s5.heap) fun p hp => I8.pin p (List.mem_append_right _ (List.mem_append_right _ hp))).turned (t' := s8.toks) (it := s2.heap.objs.size) (fun b ob hb e => hs9.extBut b ob hb e) nD hDC (.inr (Nat.le_refl _))
            (fun x c e => by
              obtain ⟨v, z⟩ := I2.cell x c (S.sub hsc I2 x c e)
              exact Nat.ne_of_lt z.lt)
            fun p hp => by
              obtain ⟨hb, _⟩ := of_pinsAt (show p ∈ pinsAt fp s5.heap from by simpa [cxC] using hp)
              exact Nat.ne_of_lt (hfl p.1 hb)
        have I9' : Inv (cxC X N' scope G.objs.size s2 H2 fp) ([(s2.heap.objs.size, accObj (us ++ [y]))] ++ pinsAt fp s5.heap) (ow ++ fr.map fun j => (σ[j]?).join) H8 { s8 with heap := h9 } :=
          I9.pins_of fun p hp => by
            rcases List.mem_append.mp hp with z | z
            · have e : p = (s2.heap.objs.size, accObj (us ++ [y])) := by simpa using z
              subst e
              refine ⟨hD9', nD, hDC, fun z => ?_, fun v z => nomatch z⟩
              obtain ⟨_, ob, hob, _⟩ := I2.stack.mem z
              exact Nat.lt_irrefl _ (Heap.lt_size hob)
            · exact I9.pin p (List.mem_append_right _ z)
        obtain ⟨I10, st10, fr10⟩ := back (us' := us ++ [y]) (σ8 := []) I9'
        exact ⟨m', hm, i + 1, _, H8, ys ++ [yv], us ++ [y], I10, rfl, Vals.append rv (.cons r8 .nil), st10, fr10, w8⟩
  exact codeAny_compStart_list (loop _ rfl) (T.self _ 0 _ _ _ st1 (loop _ rfl))
/-- [elt for tg in iter if ..], where elt may raise -/
theorem pe_lcX {E : XK} (PX : PassesM X E) (hst : X.stack = X.env :: X.outer) (hfr : X.env.frame = some X.env.locals) (hex : X.ex = []) (hc : X.calm = true) {sc0 : Scope} {N0 : List Str} (S : CompScope sc0 N0 N' o fr scope) (hi : PI X tg iter wi) (ho : OwnG o g)
    (hg : ∀ (C : Addr) (s : Shared) (H : Hp) (fp : List Addr), PG (cxC X N' scope C s H fp) tg g)
    (ht : ∀ (C : Addr) (s : Shared) (H : Hp) (fp : List Addr), PTs (cxC X N' scope C s H fp) ifs tt)
    (he : ∀ (C : Addr) (s : Shared) (H : Hp) (fp : List Addr) (pn : List (Addr × Obj)), PE (tryCx (cxC X N' scope C s H fp) pn fun _ => E) elt te)
    (hs : ∀ x, foldedSetIterable iter X.env x = pure x := by intro _; rfl) (hsc : X.env.scope = sc0 := by rfl) (hN0 : X.N = N0 := by rfl) : PE X (.ListComp elt [⟨tg, iter, ifs, 0⟩] scope pos) (tLc wi g tt te o fr) := by
  intro pins s σ H Q I h
  rw [eval_ListComp]
  refine lc_runX PX hst hfr hex hc S hi ho hg ht he hs hsc hN0 I h (use := none) fun C oC D m H' ys s' J q hn nC hCD hCL hCs hCc hCp => ?_
  refine ⟨m, hn, fun h' hs' => ⟨.ref D, upd H' D (.lst ys), ?_, rfl, q⟩⟩
  refine J.unpinned.turned (t' := s'.toks) (it := C) (fun b ob hb e => hs'.extBut b ob hb e) (by rw [upd_ne hCD]; exact nC) hCL (.inr hCs) hCc hCp
/-- name = [elt for ..], where elt may raise -/
theorem ps_lcX {E : XK} (PX : PassesM X E) (hst : X.stack = X.env :: X.outer) (hfr : X.env.frame = some X.env.locals) (hex : X.ex = []) {i : Nat} {x : Str} {px : Pos} {spos : Pos} (hc : X.calm = true) (hN : X.N.Nodup) (hx : X.N[i]? = some x) (hl : X.env.kindOf x = some .local) {sc0 : Scope} {N0 : List Str} (S : CompScope sc0 N0 N' o fr scope) (hi : PI X tg iter wi) (ho : OwnG o g)
    (hg : ∀ (C : Addr) (s : Shared) (H : Hp) (fp : List Addr), PG (cxC X N' scope C s H fp) tg g)
    (ht : ∀ (C : Addr) (s : Shared) (H : Hp) (fp : List Addr), PTs (cxC X N' scope C s H fp) ifs tt)
    (he : ∀ (C : Addr) (s : Shared) (H : Hp) (fp : List Addr) (pn : List (Addr × Obj)), PE (tryCx (cxC X N' scope C s H fp) pn fun _ => E) elt te)
    (hs : ∀ x, foldedSetIterable iter X.env x = pure x := by intro _; rfl) (hsc : X.env.scope = sc0 := by rfl) (hN0 : X.N = N0 := by rfl)
    (hsw : swapsWith (.ListComp elt [⟨tg, iter, ifs, 0⟩] scope pos) (some (.Name x px)) spos.line X.env = pure true := by rfl) :
    PS X (.Assign [.Name x px] (.ListComp elt [⟨tg, iter, ifs, 0⟩] scope pos) spos) (tAsg (tLc wi g tt te o fr) (gName i)) := by
  intro pins s σ H D I h
  rw [exec_Assign_Name_used _ _ _ _ hsw]
  refine wpAny_bind (wpAny_standAt (wpAny_bind ?_))
  show wpAny _ X.A (do let _ ← comprehension (.ListComp elt [⟨tg, iter, ifs, 0⟩] scope pos) scope X.env (firstIterPos [⟨tg, iter, ifs, 0⟩] pos) (newList []) false (eval iter X.env) (some (assign (.Name x px) X.env))) _ _ s
  refine wpAny_bind (wpAny_mono (lc_runX (Q := fun _ s' => SP X pins D .next s') PX hst hfr hex hc S hi ho hg ht he hs hsc hN0 I h (use := some (assign (.Name x px) X.env)) fun C oC Dd m H' ys s' J q hn nC hCD hCL hCs hCc hCp => ?_) (fun _ s' hq => wpAny_pure (wpAny_pure hq)) fun _ _ e => e)
  show wpAny _ X.A (assign (.Name x px) X.env (.ref Dd)) _ _ _
  refine wpAny_assign_Name (store_ok J hN hx (.inl hl) (v := .ref Dd) rfl (fun s2 I2 => ?_) (.inr hl))
  have g1 := (I2.pin (C, oC) (by simp)).1
  have g1 : s2.heap.get? C = some oC := g1
  have n2 : s2.heap.Ns C m := by
    obtain ⟨oc, es, ep, e, r⟩ := hn
    have e0 := (J.pin (C, oC) (by simp)).1
    have e0 : s'.heap.get? C = some oC := e0
    rw [e] at e0
    cases e0
    exact ⟨_, es, ep, g1, r⟩
  refine ⟨m, n2, fun h' hs' => ⟨_, upd H' Dd (.lst ys), ?_, q⟩⟩
  exact I2.unpinned.turned (t' := s2.toks) (it := C) (fun b ob hb e => hs'.extBut b ob hb e) (by rw [upd_ne hCD]; exact nC) hCL (.inr hCs) hCc hCp
end
end L2

/-! ## words that are numbers are the texts of numbers -/
namespace My
open PySem L2
theorem dv_lt : ∀ (k : Nat) (l : List Nat), l.length = k → (∀ c ∈ l, 48 ≤ c ∧ c ≤ 57) → NumText.digitsVal l < 10 ^ k
  | 0, l, h, _ => by
    obtain rfl := List.length_eq_zero_iff.mp h
    exact Nat.one_pos
  | k + 1, l, h, hd => by
    rcases List.eq_nil_or_concat l with rfl | ⟨L, c, e⟩
    · cases h
    · rw [List.concat_eq_append] at e
      subst e
      have hL : L.length = k := by rw [List.length_append, List.length_singleton] at h; omega
      have ih := dv_lt k L hL fun c hc => hd c (List.mem_append_left _ hc)
      have := hd c (List.mem_append_right _ List.mem_cons_self)
      rw [NumText.digitsVal_snoc, Nat.pow_succ]
      omega
theorem dg_of : ∀ (k : Nat) (l : List Nat), l.length = k → l ≠ [] → (∀ c ∈ l, 48 ≤ c ∧ c ≤ 57) → (l = [48] ∨ l.head? ≠ some 48) → dg (NumText.digitsVal l) = l
  | 0, l, h, hn, _, _ => absurd (List.length_eq_zero_iff.mp h) hn
  | k + 1, l, h, _, hd, hz => by
    rcases List.eq_nil_or_concat l with rfl | ⟨L, c, e⟩
    · cases h
    · rw [List.concat_eq_append] at e
      subst e
      have hL : L.length = k := by rw [List.length_append, List.length_singleton] at h; omega
      have hc := hd c (List.mem_append_right _ List.mem_cons_self)
      rw [NumText.digitsVal_snoc]
      cases L with
      | nil =>
        show dg (0 * 10 + (c - 48)) = [c]
        rw [dg_lt (by omega)]
        congr 1
        omega
      | cons a r =>
        have ha : (a :: r).head? ≠ some 48 := by
          rcases hz with e | e
          · rw [List.cons_append] at e
            have := congrArg List.length e
            rw [List.length_cons, List.length_append, List.length_singleton, List.length_singleton] at this
            omega
          · exact e
        have ih := dg_of k (a :: r) hL (by simp) (fun c hc => hd c (List.mem_append_left _ hc)) (.inr ha)
        have pos : NumText.digitsVal (a :: r) ≠ 0 := fun z => by
          rw [z] at ih
          rw [← ih] at ha
          exact ha rfl
        rw [dg_ge (by omega), show (NumText.digitsVal (a :: r) * 10 + (c - 48)) / 10 = NumText.digitsVal (a :: r) by omega, ih]
        congr 2
        omega
theorem num_is {w : Str} (h : isNumB w.cps.toList = true) : ∃ i : Int, w = nT i ∧ -(10 ^ 60) < i ∧ i < 10 ^ 60 := by
  obtain ⟨h1, h2, h3, h4⟩ := of_decide_eq_true h
  have ne : figs w.cps.toList ≠ [] := fun z => by rw [z] at h1; cases h1
  have lt : NumText.digitsVal (figs w.cps.toList) < 10 ^ 60 := Nat.lt_of_lt_of_le (dv_lt _ _ rfl h3) (Nat.pow_le_pow_right (by decide) h2)
  by_cases hm : w.cps.toList.head? = some 45
  · have hf : figs w.cps.toList = w.cps.toList.tail := if_pos hm
    have hcs : w.cps.toList = 45 :: figs w.cps.toList := by
      rw [hf]
      cases e : w.cps.toList with
      | nil => rw [e] at hm; cases hm
      | cons a r => rw [e] at hm; cases hm; rfl
    have hz : (figs w.cps.toList).head? ≠ some 48 := h4.elim (fun e => by rw [e] at hm; cases hm) id
    have hv := dg_of _ _ rfl ne h3 (.inr hz)
    have pos : NumText.digitsVal (figs w.cps.toList) ≠ 0 := fun z => by
      rw [z] at hv
      rw [← hv] at hz
      exact hz rfl
    refine ⟨-(NumText.digitsVal (figs w.cps.toList) : Int), str_ext ?_, by omega, by omega⟩
    rw [nT_list]
    unfold sgT
    rw [if_pos (by omega), Int.natAbs_neg, Int.natAbs_natCast, hv]
    exact hcs
  · have hf : figs w.cps.toList = w.cps.toList := if_neg hm
    rw [hf] at h3 h4 ne lt
    have hv := dg_of _ _ rfl ne h3 h4
    refine ⟨(NumText.digitsVal w.cps.toList : Int), str_ext ?_, by omega, by omega⟩
    rw [nT_list]
    unfold sgT
    rw [if_neg (by omega), Int.natAbs_natCast, hv]
/-- what is read of a word -/
theorem num_iff {w : Str} : isNumB w.cps.toList = true ↔ ∃ i : Int, w = nT i ∧ -(10 ^ 60) < i ∧ i < 10 ^ 60 :=
  ⟨num_is, fun ⟨i, e, h1, h2⟩ => by rw [e, nT_list]; exact sg_num h1 h2⟩
end My

/-! ## the pieces of a text -/
namespace My
open PySem L2
theorem jn_sub {c : Nat} : ∀ {A : List (List Nat)} {a : List Nat}, a ∈ A → a.length ≤ (jn c A).length ∧ ∀ d ∈ a, d ∈ jn c A
  | [b], a, h => by
    obtain rfl := List.mem_singleton.mp h
    exact ⟨Nat.le_refl _, fun d hd => hd⟩
  | b :: b' :: B, a, h => by
    show a.length ≤ (b ++ c :: jn c (b' :: B)).length ∧ ∀ d ∈ a, d ∈ b ++ c :: jn c (b' :: B)
    rw [List.length_append, List.length_cons]
    rcases List.mem_cons.mp h with rfl | h
    · exact ⟨by omega, fun d hd => List.mem_append_left _ hd⟩
    · obtain ⟨h1, h2⟩ := jn_sub (c := c) h
      exact ⟨by omega, fun d hd => List.mem_append_right _ (List.mem_cons_of_mem _ (h2 d hd))⟩
theorem jn_many {c : Nat} : ∀ A : List (List Nat), A.length ≤ (jn c A).length + 1
  | [] => Nat.zero_le _
  | [b] => by rw [List.length_singleton]; omega
  | b :: b' :: B => by
    have := jn_many (c := c) (b' :: B)
    have e : (jn c (b :: b' :: B)).length = b.length + ((jn c (b' :: B)).length + 1) := List.length_append
    have e2 : (b :: b' :: B).length = (b' :: B).length + 1 := rfl
    omega
theorem split_list (x : Str) (c : Nat) : jn c ((Txt.split x ⟨#[c]⟩).map fun p => p.cps.toList) = x.cps.toList := by
  rw [← join_jn, StrLaws.join_split]
theorem split_many (x : Str) (c : Nat) : (Txt.split x ⟨#[c]⟩).length ≤ x.length + 1 := by
  have h := jn_many (c := c) ((Txt.split x ⟨#[c]⟩).map fun p => p.cps.toList)
  rw [split_list, List.length_map, ← str_len] at h
  exact h
theorem split_piece {x p : Str} {c : Nat} (h : p ∈ Txt.split x ⟨#[c]⟩) : p.length ≤ x.length ∧ ∀ d ∈ p.cps.toList, d ∈ x.cps.toList := by
  have q := jn_sub (c := c) (List.mem_map_of_mem (f := fun p : Str => p.cps.toList) h)
  rw [split_list] at q
  rw [str_len, str_len]
  exact q
theorem ascii_iff {x : Str} : (x.cps.all fun c => decide (c < 128)) = true ↔ ∀ d ∈ x.cps.toList, d < 128 := by
  rw [← Array.all_toList, List.all_eq_true]
  exact ⟨fun h d hd => of_decide_eq_true (h d hd), fun h d hd => decide_eq_true (h d hd)⟩
theorem split_ascii {x p : Str} {c : Nat} (h : p ∈ Txt.split x ⟨#[c]⟩) (ha : (x.cps.all fun c => decide (c < 128)) = true) : (p.cps.all fun c => decide (c < 128)) = true :=
  ascii_iff.mpr fun d hd => ascii_iff.mp ha d ((split_piece h).2 d hd)
/-- a line is a name and so many numbers -/
def LineIs (line name : Str) (many : Nat) (l : List Int) : Prop := Txt.split line blankS = name :: l.map nT ∧ l.length = many ∧ Told l
theorem LineIs.uniq {line name : Str} {many : Nat} {l m : List Int} (h1 : LineIs line name many l) (h2 : LineIs line name many m) : l = m := by
  obtain ⟨a1, a2, a3⟩ := h1
  obtain ⟨b1, b2, b3⟩ := h2
  rw [a1] at b1
  obtain ⟨_, e⟩ := List.cons.inj b1
  have hl : l.length = m.length := a2.trans b2.symm
  refine List.ext_getElem? fun i => ?_
  cases h : l[i]? with
  | none => rw [List.getElem?_eq_none_iff.mpr (by rw [← hl]; exact List.getElem?_eq_none_iff.mp h)]
  | some x =>
    obtain ⟨y, hy⟩ : ∃ y, m[i]? = some y := ⟨_, List.getElem?_eq_getElem (by rw [← hl]; exact (List.getElem?_eq_some_iff.mp h).1)⟩
    have q := congrArg (fun z => z[i]?) e
    rw [List.getElem?_map, List.getElem?_map, h, hy] at q
    have hx := a3 x (List.mem_of_getElem? h)
    have hy' := b3 y (List.mem_of_getElem? hy)
    rw [hy, nT_inj (k := 60) (by decide) (by decide) hx.1 hx.2 hy'.1 hy'.2 (Option.some.inj q)]
/-- a text is that of so many places and these lines of ties -/
def TextIs (text : Str) (n : Int) (tr : List (List Int)) : Prop := ∃ h ts, Txt.split text nlS = h :: ts ∧ LineIs h (Str.ofString "places") 1 [n] ∧ ts.length = tr.length ∧ ∀ (i : Nat) (line : Str) (l : List Int), ts[i]? = some line → tr[i]? = some l → LineIs line (Str.ofString "tie") 3 l
/-- the ends of its ties -/
def prs (tr : List (List Int)) : List (Int × Int) := tr.map fun l => (l.getD 0 0, l.getD 1 0)
theorem three_of {l : List Int} (h : l.length = 3) : ∃ a b c, l = [a, b, c] := by
  match l, h with
  | [a, b, c], _ => exact ⟨a, b, c, rfl⟩
end My

/-! ## texts: upper, text * number -/
namespace L2
open PySem PySem.Spec PyProof.Rows
section
variable {X : Cx}
theorem mt_upper : MtM X "str.upper" (fun x vs H Q => ∃ z : Str, x = .str z ∧ vs = [] ∧ Builtin.Str.tooLong (Txt.upper z).length = false ∧ Q (.str (Txt.upper z)) H) := by
  intro pins s σ H x vs v us Q I rx rv h
  obtain ⟨z, rfl, rfl, hf, q⟩ := h
  obtain ⟨t, rfl⟩ := rx
  cases rv
  exact PySem.SC.upper hf ⟨.str _, H, I.tok _, ⟨_, rfl⟩, q⟩
/-- a text so many times -/
def repT (z : Str) (n : Nat) : Str := ⟨(List.replicate n z.cps).foldl (· ++ ·) #[]⟩
theorem op_repS : OpR X (binaryOp .Mult) (fun x y H Q => ∃ (z : Str) (n : Nat), x = .str z ∧ y = .int n ∧ 2 ≤ n ∧ n ≤ 1000 ∧ 1 ≤ z.length ∧ z.length ≤ 1000 ∧ (repT z n).length ≤ sizeLine ∧ Q (.str (repT z n)) H) := by
  intro pins s σ H x y v u Q I rx ry h
  obtain ⟨z, n, rfl, rfl, n2, n3, l1, l2, l3, q⟩ := h
  obtain ⟨t, rfl⟩ := rx
  obtain ⟨t', rfl⟩ := ry
  have c1 : ¬ ((n : Int) < 1) := by omega
  have c2 : ((n : Int) == 1 || z.length == 0) = false := by
    rw [Bool.or_eq_false_iff]
    exact ⟨beq_eq_false_iff_ne.mpr (by omega), beq_eq_false_iff_ne.mpr (by omega)⟩
  have big : z.length * n ≤ 1000 * 1000 := Nat.mul_le_mul l2 n3
  have lim : 1000 * 1000 ≤ sizeLine := by decide
  refine PySem.P.mul_str (by simp; omega) (fun _ _ z1 => ?_) (fun _ _ => ?_) ?_
  · have e : (z.length : Int) ≤ (2 ^ 63 - 1) / (n : Int) := by
      refine Int.le_ediv_of_mul_le (by omega) ?_
      have b2 : ((z.length * n : Nat) : Int) ≤ 1000 * 1000 := by omega
      rw [Int.natCast_mul] at b2
      omega
    omega
  · show decide _ = false
    refine decide_eq_false ?_
    rw [Int.toNat_natCast]
    omega
  · rw [if_neg c1, if_neg (by rw [c2]; decide)]
    exact ⟨l3, .str (repT z n), H, I.tok _, ⟨_, rfl⟩, q⟩
end
end L2

/-! ## displays of some items in one step -/
namespace L2
open PySem PySem.Spec PyProof.Rows
section
variable {X : Cx} {a b c d f g h i j : Expr} {ta tb tc td tf tg th ti tj : TE} {pos : Pos}
theorem pe_lst3 (ha : PE X a ta) (hb : PE X b tb) (hc : PE X c tc) (s0 : starEach [a, b, c] X.env = (false, eval a X.env) :: starEach [b, c] X.env := by rfl) (s1 : starEach [b, c] X.env = (false, eval b X.env) :: starEach [c] X.env := by rfl) (s2 : starEach [c] X.env = [(false, eval c X.env)] := by rfl) : PE X (.List [a, b, c] pos) (tLst (tCons ta (tCons tb (tCons tc tNil)))) := pe_lst (pa_cons ha (pa_cons hb (pa_cons hc pa_nil s2) s1) s0)
theorem pe_lst4 (ha : PE X a ta) (hb : PE X b tb) (hc : PE X c tc) (hd : PE X d td) (s0 : starEach [a, b, c, d] X.env = (false, eval a X.env) :: starEach [b, c, d] X.env := by rfl) (s1 : starEach [b, c, d] X.env = (false, eval b X.env) :: starEach [c, d] X.env := by rfl) (s2 : starEach [c, d] X.env = (false, eval c X.env) :: starEach [d] X.env := by rfl) (s3 : starEach [d] X.env = [(false, eval d X.env)] := by rfl) : PE X (.List [a, b, c, d] pos) (tLst (tCons ta (tCons tb (tCons tc (tCons td tNil))))) := pe_lst (pa_cons ha (pa_cons hb (pa_cons hc (pa_cons hd pa_nil s3) s2) s1) s0)
theorem pe_lst9 (ha : PE X a ta) (hb : PE X b tb) (hc : PE X c tc) (hd : PE X d td) (hf : PE X f tf) (hg : PE X g tg) (hh : PE X h th) (hi : PE X i ti) (hj : PE X j tj) (s0 : starEach [a, b, c, d, f, g, h, i, j] X.env = (false, eval a X.env) :: starEach [b, c, d, f, g, h, i, j] X.env := by rfl) (s1 : starEach [b, c, d, f, g, h, i, j] X.env = (false, eval b X.env) :: starEach [c, d, f, g, h, i, j] X.env := by rfl) (s2 : starEach [c, d, f, g, h, i, j] X.env = (false, eval c X.env) :: starEach [d, f, g, h, i, j] X.env := by rfl) (s3 : starEach [d, f, g, h, i, j] X.env = (false, eval d X.env) :: starEach [f, g, h, i, j] X.env := by rfl) (s4 : starEach [f, g, h, i, j] X.env = (false, eval f X.env) :: starEach [g, h, i, j] X.env := by rfl) (s5 : starEach [g, h, i, j] X.env = (false, eval g X.env) :: starEach [h, i, j] X.env := by rfl) (s6 : starEach [h, i, j] X.env = (false, eval h X.env) :: starEach [i, j] X.env := by rfl) (s7 : starEach [i, j] X.env = (false, eval i X.env) :: starEach [j] X.env := by rfl) (s8 : starEach [j] X.env = [(false, eval j X.env)] := by rfl) : PE X (.List [a, b, c, d, f, g, h, i, j] pos) (tLst (tCons ta (tCons tb (tCons tc (tCons td (tCons tf (tCons tg (tCons th (tCons ti (tCons tj tNil)))))))))) := pe_lst (pa_cons ha (pa_cons hb (pa_cons hc (pa_cons hd (pa_cons hf (pa_cons hg (pa_cons hh (pa_cons hi (pa_cons hj pa_nil s8) s7) s6) s5) s4) s3) s2) s1) s0)
end
end L2

/-! ## spoilt lines and texts -/
namespace My
open PySem L2
/-- plain signs, no line feed, so long at most -/
def Cl (k : Nat) (x : Str) : Prop := (∀ d ∈ x.cps.toList, d < 128 ∧ d ≠ 10) ∧ x.length ≤ k
theorem Cl.up {k m : Nat} {x : Str} (h : Cl k x) (hm : k ≤ m) : Cl m x := ⟨h.1, Nat.le_trans h.2 hm⟩
theorem cl_join {k m : Nat} {W : List Str} (h : ∀ w ∈ W, Cl k w) (hm : W.length * (k + 1) ≤ m) : Cl m (Str.join blankS W) := by
  rw [blank_eq]
  refine ⟨fun d hd => ?_, Nat.le_trans (join_len fun a ha => (h a ha).2) hm⟩
  rw [join_jn] at hd
  rcases jn_mem hd with e | ⟨a, ha, hx⟩
  · rw [e]; decide
  · obtain ⟨p, hp, rfl⟩ := List.mem_map.mp ha
    exact (h p hp).1 d hx
theorem cl_app {k m : Nat} {x y : Str} (h1 : Cl k x) (h2 : Cl m y) : Cl (k + m) (x ++ y) := by
  refine ⟨fun d hd => ?_, ?_⟩
  · rw [Str.cps_append, Array.toList_append] at hd
    rcases List.mem_append.mp hd with h | h
    · exact h1.1 d h
    · exact h2.1 d h
  · rw [str_len, Str.cps_append, Array.toList_append, List.length_append, ← str_len, ← str_len]
    exact Nat.add_le_add h1.2 h2.2
theorem nT_cl {z : Int} (h : -(10 ^ 60) < z ∧ z < (10 : Int) ^ 60) : Cl 61 (nT z) :=
  ⟨fun d hd => ⟨ascii_iff.mp (nT_ascii z) d hd, fun e => nT_free (i := z) (c := 10) (by decide) (.inl (by decide)) (e ▸ hd)⟩, nT_len (k := 60) (by decide) h.1 h.2⟩
theorem upper_list : ∀ (l : List Nat), (∀ c ∈ l, c < 128) → (Txt.upper ⟨l.toArray⟩).cps.toList = l.map fun c => if 97 ≤ c ∧ c ≤ 122 then c - 32 else c
  | [], _ => by decide
  | c :: l, h => by
    have e : (⟨(c :: l).toArray⟩ : Str) = ⟨#[c]⟩ ++ ⟨l.toArray⟩ := str_ext (by rw [Str.cps_append, Array.toList_append]; rfl)
    rw [e, PySem.W.KOpn.upper_app, PySem.W.KOpn.upper_one (h c List.mem_cons_self), Str.cps_append, Array.toList_append, upper_list l fun d hd => h d (List.mem_cons_of_mem _ hd)]
    rfl
theorem upper_text {x : Str} (h : ∀ c ∈ x.cps.toList, c < 128) : (Txt.upper x).cps.toList = x.cps.toList.map fun c => if 97 ≤ c ∧ c ≤ 122 then c - 32 else c := upper_list x.cps.toList h
theorem upper_cl {k : Nat} {x : Str} (h : Cl k x) : Cl k (Txt.upper x) := by
  have e := upper_text (x := x) fun c hc => (h.1 c hc).1
  refine ⟨fun d hd => ?_, ?_⟩
  · rw [e] at hd
    obtain ⟨c, hc, rfl⟩ := List.mem_map.mp hd
    have := h.1 c hc
    split <;> omega
  · rw [str_len, e, List.length_map, ← str_len]
    exact h.2
/-- the first word of a line, and how many numbers it has -/
def nmOf (i : Nat) : Str := if i = 0 then Str.ofString "places" else Str.ofString "tie"
def mnOf (i : Nat) : Nat := if i = 0 then 1 else 3
theorem nm_two (i : Nat) : nmOf i = Str.ofString "places" ∧ mnOf i = 1 ∨ nmOf i = Str.ofString "tie" ∧ mnOf i = 3 := by
  unfold nmOf mnOf
  by_cases h : i = 0
  · exact .inl ⟨if_pos h, if_pos h⟩
  · exact .inr ⟨if_neg h, if_neg h⟩
theorem nm_cl (i : Nat) : Cl 61 (nmOf i) ∧ 32 ∉ (nmOf i).cps.toList ∧ ∃ c r, (nmOf i).cps.toList = c :: r ∧ 97 ≤ c ∧ c ≤ 122 := by
  rcases nm_two i with ⟨h, _⟩ | ⟨h, _⟩
  · rw [h]
    exact ⟨⟨by decide, by decide⟩, by decide, 112, _, rfl, by decide, by decide⟩
  · rw [h]
    exact ⟨⟨by decide, by decide⟩, by decide, 116, _, rfl, by decide, by decide⟩
theorem line_join {line name : Str} {many : Nat} {l : List Int} (h : LineIs line name many l) : line = Str.join blankS (name :: l.map nT) := by
  rw [← h.1]
  exact (StrLaws.join_split _ _).symm
/-- the words of a line are clean -/
theorem line_word {line : Str} {i : Nat} {l : List Int} (h : LineIs line (nmOf i) (mnOf i) l) : ∀ w ∈ Txt.split line blankS, Cl 61 w ∧ 32 ∉ w.cps.toList := fun w hw => by
  rw [h.1] at hw
  rcases List.mem_cons.mp hw with e | e
  · rw [e]; exact ⟨(nm_cl i).1, (nm_cl i).2.1⟩
  · obtain ⟨z, hz, rfl⟩ := List.mem_map.mp e
    exact ⟨nT_cl (h.2.2 z hz), nT_free (by decide) (.inl (by decide))⟩
theorem line_many {line : Str} {i : Nat} {l : List Int} (h : LineIs line (nmOf i) (mnOf i) l) : (Txt.split line blankS).length = mnOf i + 1 := by
  rw [h.1, List.length_cons, List.length_map, h.2.1]
theorem mn_le (i : Nat) : 1 ≤ mnOf i ∧ mnOf i ≤ 3 := by
  rcases nm_two i with ⟨_, h⟩ | ⟨_, h⟩ <;> rw [h] <;> decide
theorem line_cl {line : Str} {i : Nat} {l : List Int} (h : LineIs line (nmOf i) (mnOf i) l) : Cl 250 line := by
  have e : line = Str.join blankS (Txt.split line blankS) := (StrLaws.join_split _ _).symm
  rw [e]
  refine cl_join (k := 61) (fun w hw => (line_word h w hw).1) ?_
  rw [line_many h]
  have := mn_le i
  omega
theorem line_head {line : Str} {i : Nat} {l : List Int} (h : LineIs line (nmOf i) (mnOf i) l) : ∃ c, line.cps.toList.head? = some c ∧ 97 ≤ c ∧ c ≤ 122 := by
  obtain ⟨c, r, e, h1, h2⟩ := (nm_cl i).2.2
  refine ⟨c, ?_, h1, h2⟩
  rw [line_join h, blank_eq, join_jn, List.map_cons, e]
  cases (l.map nT).map fun x : Str => x.cps.toList <;> rfl
/-- a list of words that is no line -/
theorem no_line {W : List Str} {name : Str} {many : Nat} (hw : W ≠ []) (hf : ∀ w ∈ W, 32 ∉ w.cps.toList) (h : W.length ≠ many + 1 ∨ ∃ i w, 1 ≤ i ∧ W[i]? = some w ∧ isNumB w.cps.toList = false) (l : List Int) : ¬ LineIs (Str.join blankS W) name many l := by
  rintro ⟨e, hl, hT⟩
  rw [blank_eq, split_join hw hf] at e
  rcases h with h | ⟨i, w, hi, hW, hn⟩
  · refine h ?_
    rw [e, List.length_cons, List.length_map, hl]
  · rw [e] at hW
    obtain ⟨j, rfl⟩ : ∃ j, i = j + 1 := ⟨i - 1, by omega⟩
    rw [List.getElem?_cons_succ, List.getElem?_map] at hW
    obtain ⟨z, hz, rfl⟩ := Option.map_eq_some_iff.mp hW
    have q := num_iff.mpr ⟨z, rfl, hT z (List.mem_of_getElem? hz)⟩
    rw [q] at hn
    cases hn
theorem no_head {x : Str} {i : Nat} (h : ∀ c, x.cps.toList.head? = some c → c < 97) (l : List Int) : ¬ LineIs x (nmOf i) (mnOf i) l := fun hl => by
  obtain ⟨c, e, h1, _⟩ := line_head hl
  have := h c e
  omega
/-- a line spoilt -/
def Spo (i : Nat) (x : Str) : Prop := Cl 400 x ∧ ∀ l, ¬ LineIs x (nmOf i) (mnOf i) l
theorem spo_upper {line : Str} {i : Nat} {l : List Int} (h : LineIs line (nmOf i) (mnOf i) l) : Spo i (Txt.upper line) := by
  have c := line_cl h
  refine ⟨(upper_cl c).up (by decide), no_head fun d hd => ?_⟩
  obtain ⟨a, ha, h1, h2⟩ := line_head h
  rw [upper_text fun c' hc => (c.1 c' hc).1, List.head?_map, ha] at hd
  have e : (if 97 ≤ a ∧ a ≤ 122 then a - 32 else a) = d := Option.some.inj hd
  rw [if_pos ⟨h1, h2⟩] at e
  omega
theorem spo_ahead {line : Str} {i : Nat} {l : List Int} (h : LineIs line (nmOf i) (mnOf i) l) : Spo i (blankS ++ line) := by
  refine ⟨(cl_app (k := 1) (m := 250) ⟨by decide, by decide⟩ (line_cl h)).up (by decide), no_head fun d hd => ?_⟩
  rw [Str.cps_append, Array.toList_append] at hd
  have e : some 32 = some d := hd
  cases e
  decide
theorem spo_none (i : Nat) : Spo i Str.empty := ⟨⟨by decide, by decide⟩, no_head fun d hd => by cases hd⟩
theorem spo_words {W : List Str} {i : Nat} (hw : W ≠ []) (hc : ∀ w ∈ W, Cl 61 w ∧ 32 ∉ w.cps.toList) (hl : W.length ≤ 6) (h : W.length ≠ mnOf i + 1 ∨ ∃ j w, 1 ≤ j ∧ W[j]? = some w ∧ isNumB w.cps.toList = false) : Spo i (Str.join blankS W) :=
  ⟨cl_join (k := 61) (fun w h => (hc w h).1) (by omega), no_line hw (fun w h => (hc w h).2) h⟩
theorem join_end {sep : Str} : ∀ (W : List Str), W ≠ [] → Str.join sep (W ++ [Str.empty]) = Str.join sep W ++ sep
  | [], h => absurd rfl h
  | [a], _ => by
    show a ++ sep ++ Str.empty = a ++ sep
    refine str_ext ?_
    rw [Str.cps_append, Array.toList_append]
    exact List.append_nil _
  | a :: b :: W, _ => by
    have ih := join_end (sep := sep) (b :: W) (by simp)
    show a ++ sep ++ Str.join sep (b :: W ++ [Str.empty]) = a ++ sep ++ Str.join sep (b :: W) ++ sep
    rw [ih]
    refine str_ext ?_
    simp only [Str.cps_append, Array.toList_append, List.append_assoc]
theorem spo_behind {line : Str} {i : Nat} {l : List Int} (h : LineIs line (nmOf i) (mnOf i) l) : Spo i (line ++ blankS) := by
  have e : line = Str.join blankS (Txt.split line blankS) := (StrLaws.join_split _ _).symm
  have m := mn_le i
  rw [e, ← join_end _ (split_ne _ _)]
  refine spo_words (by simp) (fun w hw => ?_) (by rw [List.length_append, line_many h, List.length_singleton]; omega) (.inl (by rw [List.length_append, line_many h, List.length_singleton]; omega))
  rcases List.mem_append.mp hw with hw | hw
  · exact line_word h w hw
  · rw [List.mem_singleton.mp hw]
    exact ⟨⟨by decide, by decide⟩, by decide⟩
theorem tl_cut_to {W : List Str} {i : Int} (h : 0 ≤ i) : cutV (TL W) none (some i) = TL (W.take i.toNat) := by
  rw [cut_upto h]
  exact (List.map_take ..).symm
theorem tl_cut_from {W : List Str} {i : Int} (h : 0 ≤ i) : cutV (TL W) (some i) none = TL (W.drop i.toNat) := by
  rw [cut_from2 h]
  exact (List.map_drop ..).symm
theorem tl_cut_last {W : List Str} (h : W ≠ []) : cutV (TL W) none (some (-1)) = TL (W.take (W.length - 1)) := by
  have hl : 1 ≤ W.length := List.length_pos_iff.mpr h
  have e : HT.sIx (TL W).length (TL W).length (some (-1)) = W.length - 1 := by
    rw [tl_length]
    show (if (-1 : Int) < 0 then ((-1 : Int) + (W.length : Int)).toNat else min (-1 : Int).toNat W.length) = _
    rw [if_pos (by decide)]
    omega
  unfold cutV
  rw [e, HT.sIx_none, List.drop_zero, Nat.sub_zero]
  exact (List.map_take ..).symm
theorem tl_app (A B : List Str) : TL A ++ TL B = TL (A ++ B) := (List.map_append ..).symm
/-! ### the lines of a text -/
def LsIs (ls : List Str) (n : Int) (tr : List (List Int)) : Prop := ∃ h ts, ls = h :: ts ∧ LineIs h (Str.ofString "places") 1 [n] ∧ ts.length = tr.length ∧ ∀ (i : Nat) (line : Str) (l : List Int), ts[i]? = some line → tr[i]? = some l → LineIs line (Str.ofString "tie") 3 l
theorem LsIs.at {ls : List Str} {n : Int} {tr : List (List Int)} (h : LsIs ls n tr) {i : Nat} {x : Str} (hx : ls[i]? = some x) : ∃ l, LineIs x (nmOf i) (mnOf i) l := by
  obtain ⟨a, ts, rfl, h1, h2, h3⟩ := h
  cases i with
  | zero =>
    obtain rfl := Option.some.inj hx
    exact ⟨_, h1⟩
  | succ j =>
    rw [List.getElem?_cons_succ] at hx
    obtain ⟨l, hl⟩ : ∃ l, tr[j]? = some l := ⟨_, List.getElem?_eq_getElem (by rw [← h2]; exact (List.getElem?_eq_some_iff.mp hx).1)⟩
    exact ⟨l, h3 j x l hx hl⟩
theorem LsIs.cl {ls : List Str} {n : Int} {tr : List (List Int)} (h : LsIs ls n tr) : ∀ x ∈ ls, Cl 400 x := fun x hx => by
  obtain ⟨i, hi⟩ := List.getElem?_of_mem hx
  obtain ⟨l, hl⟩ := h.at hi
  exact (line_cl hl).up (by decide)
theorem LsIs.many {ls : List Str} {n : Int} {tr : List (List Int)} (h : LsIs ls n tr) : ls.length = tr.length + 1 := by
  obtain ⟨a, ts, rfl, h1, h2, h3⟩ := h
  rw [List.length_cons, h2]
theorem LsIs.uniq {ls : List Str} {n m : Int} {tr us : List (List Int)} (h : LsIs ls n tr) (k : LsIs ls m us) : n = m ∧ tr = us := by
  obtain ⟨a, ts, rfl, h1, h2, h3⟩ := h
  obtain ⟨a', ts', e, k1, k2, k3⟩ := k
  obtain ⟨rfl, rfl⟩ := List.cons.inj e
  refine ⟨(List.cons.inj (h1.uniq k1)).1, List.ext_getElem? fun i => ?_⟩
  cases hi : tr[i]? with
  | none => rw [List.getElem?_eq_none_iff.mpr (by rw [← k2, h2]; exact List.getElem?_eq_none_iff.mp hi)]
  | some l =>
    have il := (List.getElem?_eq_some_iff.mp hi).1
    obtain ⟨x, hx⟩ : ∃ x, ts[i]? = some x := ⟨_, List.getElem?_eq_getElem (by omega)⟩
    obtain ⟨l', hl'⟩ : ∃ x, us[i]? = some x := ⟨_, List.getElem?_eq_getElem (by omega)⟩
    rw [hl', (h3 i x l hx hi).uniq (k3 i x l' hx hl')]
/-- lines that are those of no web -/
def NoLs (ls : List Str) : Prop := ¬ ∃ n tr, LsIs ls n tr
theorem no_ls {ls : List Str} {i : Nat} {x : Str} (hx : ls[i]? = some x) (h : ∀ l, ¬ LineIs x (nmOf i) (mnOf i) l) : NoLs ls := fun ⟨_, _, hl⟩ => by
  obtain ⟨l, q⟩ := hl.at hx
  exact h l q
theorem lines_text {ls : List Str} (hn : ls ≠ []) (hc : ∀ x ∈ ls, Cl 400 x) : Txt.split (Str.join nlS ls) nlS = ls := by
  rw [nl_eq]
  exact split_join hn fun p hp h => ((hc p hp).1 10 h).2 rfl
theorem text_ok {ls : List Str} (hc : ∀ x ∈ ls, Cl 400 x) (hl : ls.length ≤ 200) : JoinOk nlS ls = true ∧ ((Str.join nlS ls).cps.all fun c => decide (c < 128)) = true ∧ (Str.join nlS ls).length ≤ 90000 := by
  rw [nl_eq]
  refine ⟨join_ok (B := 400) (fun a ha => (hc a ha).2) (by omega), ascii_iff.mpr fun d hd => ?_, Nat.le_trans (join_len (B := 400) fun a ha => (hc a ha).2) (by omega)⟩
  rw [join_jn] at hd
  rcases jn_mem hd with e | ⟨a, ha, hx⟩
  · rw [e]; decide
  · obtain ⟨p, hp, rfl⟩ := List.mem_map.mp ha
    exact ((hc p hp).1 d hx).1
end My

/-! ## spoilt webs -/
namespace My
open PySem L2
theorem line_mk {line name : Str} {l : List Int} {many : Nat} (e : line = Str.join blankS (name :: l.map nT)) (hn : 32 ∉ name.cps.toList) (hl : l.length = many) (hT : Told l) : LineIs line name many l := ⟨by rw [e]; exact words_of hn, hl, hT⟩
theorem told3 {a b c : Int} (ha : -(10 ^ 60) < a ∧ a < (10 : Int) ^ 60) (hb : -(10 ^ 60) < b ∧ b < (10 : Int) ^ 60) (hc : -(10 ^ 60) < c ∧ c < (10 : Int) ^ 60) : Told [a, b, c] := fun z hz => by
  rcases List.mem_cons.mp hz with rfl | hz
  · exact ha
  · rcases List.mem_cons.mp hz with rfl | hz
    · exact hb
    · rw [List.mem_singleton.mp hz]; exact hc
theorem told1 {a : Int} (ha : -(10 ^ 60) < a ∧ a < (10 : Int) ^ 60) : Told [a] := fun z hz => by
  rw [List.mem_singleton.mp hz]; exact ha
theorem line_tie {line : Str} {a b c : Int} (e : line = Str.join blankS [Str.ofString "tie", nT a, nT b, nT c]) (h : Told [a, b, c]) : LineIs line (Str.ofString "tie") 3 [a, b, c] := line_mk e (by decide) rfl h
theorem line_places {line : Str} {a : Int} (e : line = Str.join blankS [Str.ofString "places", nT a]) (h : Told [a]) : LineIs line (Str.ofString "places") 1 [a] := line_mk e (by decide) rfl h
/-- lines of ties -/
def TiesIs (ts : List Str) (tr : List (List Int)) : Prop := ts.length = tr.length ∧ ∀ (i : Nat) (line : Str) (l : List Int), ts[i]? = some line → tr[i]? = some l → LineIs line (Str.ofString "tie") 3 l
theorem TiesIs.app {a c : List Str} {b d : List (List Int)} (h : TiesIs a b) (k : TiesIs c d) : TiesIs (a ++ c) (b ++ d) := by
  refine ⟨by rw [List.length_append, List.length_append, h.1, k.1], fun i line l h1 h2 => ?_⟩
  by_cases hi : i < a.length
  · rw [List.getElem?_append_left hi] at h1
    rw [List.getElem?_append_left (by rw [← h.1]; exact hi)] at h2
    exact h.2 i line l h1 h2
  · rw [List.getElem?_append_right (by omega)] at h1
    rw [List.getElem?_append_right (by have := h.1; omega), ← h.1] at h2
    exact k.2 _ line l h1 h2
theorem TiesIs.take {a : List Str} {b : List (List Int)} (h : TiesIs a b) (j : Nat) : TiesIs (a.take j) (b.take j) := by
  refine ⟨by rw [List.length_take, List.length_take, h.1], fun i line l h1 h2 => ?_⟩
  rw [List.getElem?_take] at h1 h2
  by_cases hi : i < j
  · rw [if_pos hi] at h1 h2
    exact h.2 i line l h1 h2
  · rw [if_neg hi] at h1; cases h1
theorem TiesIs.drop {a : List Str} {b : List (List Int)} (h : TiesIs a b) (j : Nat) : TiesIs (a.drop j) (b.drop j) := by
  refine ⟨by rw [List.length_drop, List.length_drop, h.1], fun i line l h1 h2 => ?_⟩
  rw [List.getElem?_drop] at h1 h2
  exact h.2 _ line l h1 h2
theorem TiesIs.rep {x : Str} {l : List Int} (h : LineIs x (Str.ofString "tie") 3 l) (k : Nat) : TiesIs (List.replicate k x) (List.replicate k l) := by
  refine ⟨by rw [List.length_replicate, List.length_replicate], fun i line l' h1 h2 => ?_⟩
  rw [List.getElem?_replicate] at h1 h2
  split at h1
  · rw [if_pos (by assumption)] at h2
    rw [← Option.some.inj h1, ← Option.some.inj h2]
    exact h
  · cases h1
theorem TiesIs.one {x : Str} {l : List Int} (h : LineIs x (Str.ofString "tie") 3 l) : TiesIs [x] [l] := TiesIs.rep h 1
theorem ls_iff {ls : List Str} {n : Int} {tr : List (List Int)} : LsIs ls n tr ↔ ∃ h ts, ls = h :: ts ∧ LineIs h (Str.ofString "places") 1 [n] ∧ TiesIs ts tr := Iff.rfl
/-- a tie put to the lines behind the first -/
theorem LsIs.put {ls : List Str} {n : Int} {tr : List (List Int)} (h : LsIs ls n tr) {x : Str} {l : List Int} (hx : LineIs x (Str.ofString "tie") 3 l) (j : Nat) : LsIs (ls.take (j + 1) ++ [x] ++ ls.drop (j + 1)) n (tr.take j ++ [l] ++ tr.drop j) := by
  obtain ⟨a, ts, rfl, h1, h2⟩ := ls_iff.mp h
  exact ls_iff.mpr ⟨a, _, rfl, h1, ((h2.take j).app (.one hx)).app (h2.drop j)⟩
theorem LsIs.more {ls : List Str} {n : Int} {tr : List (List Int)} (h : LsIs ls n tr) {x : Str} {l : List Int} (hx : LineIs x (Str.ofString "tie") 3 l) (k : Nat) : LsIs (ls ++ List.replicate k x) n (tr ++ List.replicate k l) := by
  obtain ⟨a, ts, rfl, h1, h2⟩ := ls_iff.mp h
  exact ls_iff.mpr ⟨a, _, rfl, h1, h2.app (.rep hx k)⟩
theorem LsIs.places {ls : List Str} {n : Int} {tr : List (List Int)} (h : LsIs ls n tr) {x : Str} {m : Int} (hx : LineIs x (Str.ofString "places") 1 [m]) : LsIs ([x] ++ ls.drop 1) m tr := by
  obtain ⟨a, ts, rfl, h1, h2⟩ := ls_iff.mp h
  exact ls_iff.mpr ⟨x, ts, rfl, hx, h2⟩
theorem prs_bad {n : Int} {tr us : List (List Int)} {a b c : Int} (h : ¬ (0 ≤ a ∧ a < n ∧ 0 ≤ b ∧ b < n)) : ¬ GoodW n (prs (tr ++ [[a, b, c]] ++ us)) := fun g => h (g.2.2.2 (a, b) (by
  unfold prs
  rw [List.map_append, List.map_append]
  exact List.mem_append_left _ (List.mem_append_right _ List.mem_cons_self)))
theorem prs_len (tr : List (List Int)) : (prs tr).length = tr.length := List.length_map _
theorem tie_no {x : Str} {l : List Int} (h : LineIs x (Str.ofString "tie") 3 l) (l' : List Int) : ¬ LineIs x (nmOf 0) (mnOf 0) l' := fun k => by
  have e := (List.cons.inj (h.1.symm.trans k.1)).1
  exact absurd (congrArg (fun z : Str => z.cps.toList) e) (by decide)
theorem places_no {x : Str} {l : List Int} (h : LineIs x (Str.ofString "places") 1 l) (i : Nat) (l' : List Int) : ¬ LineIs x (nmOf (i + 1)) (mnOf (i + 1)) l' := fun k => by
  have e : Str.ofString "places" = Str.ofString "tie" := (List.cons.inj (h.1.symm.trans k.1)).1
  exact absurd (congrArg (fun z : Str => z.cps.toList) e) (by decide)
/-- the lines written of a web -/
theorem web_ls {n : Int} {ps : List (Int × Int)} {ls : List Int} (g : GoodW n ps) (hl : ls.length = ps.length) (hT : Told ls) : ∃ tr, LsIs (webT n ps ls) n tr ∧ prs tr = ps := by
  have g1 := g.1
  have g2 := g.2.1
  refine ⟨List.zipWith (fun p l => [p.1, p.2, l]) ps ls, ls_iff.mpr ⟨_, _, rfl, line_places (places_eq n) (told1 (by omega)), ?_, ?_⟩, ?_⟩
  · rw [List.length_zipWith, List.length_zipWith]
  · intro i line l h1 h2
    rw [List.getElem?_zipWith] at h1 h2
    cases hp : ps[i]? with
    | none => rw [hp] at h1; cases h1
    | some p =>
      cases hq : ls[i]? with
      | none => rw [hp, hq] at h1; cases h1
      | some q =>
        rw [hp, hq] at h1 h2
        obtain rfl := Option.some.inj h1
        obtain rfl := Option.some.inj h2
        exact line_tie rfl (web_told g hT hp hq)
  · refine List.ext_getElem? fun i => ?_
    unfold prs
    rw [List.getElem?_map, List.getElem?_zipWith]
    cases hp : ps[i]? with
    | none => rfl
    | some p =>
      obtain ⟨q, hq⟩ : ∃ q, ls[i]? = some q := ⟨_, List.getElem?_eq_getElem (by rw [hl]; exact (List.getElem?_eq_some_iff.mp hp).1)⟩
      rw [hq]
      rfl
/-- what is told of a text of such lines -/
theorem tie001 : LineIs (Str.ofString "tie 0 0 1") (Str.ofString "tie") 3 [0, 0, 1] := line_tie (by decide) (told3 (by decide) (by decide) (by decide))
/-! ### words spoilt -/
def oddL : List Str := [Str.ofString "01", Str.ofString "-0", Str.ofString "+1", Str.ofString "1_0", Str.ofString "x", Str.ofString "--1", Str.ofString "1.0", repT (Str.ofString "7") 61, Str.ofString "-"]
theorem odd_ok : ∀ w ∈ oddL, (∀ d ∈ w.cps.toList, d < 128 ∧ d ≠ 10) ∧ w.length ≤ 61 ∧ 32 ∉ w.cps.toList ∧ isNumB w.cps.toList = false := by decide +kernel
theorem spo_odd {line : Str} {i : Nat} {l : List Int} (h : LineIs line (nmOf i) (mnOf i) l) {j : Nat} (h1 : 1 ≤ j) (h2 : j ≤ mnOf i) {w : Str} (hw : w ∈ oddL) : Spo i (Str.join blankS ((Txt.split line blankS).take j ++ [w] ++ (Txt.split line blankS).drop (j + 1))) := by
  have hm := line_many h
  have m := mn_le i
  have o := odd_ok w hw
  have lt : ((Txt.split line blankS).take j).length = j := by rw [List.length_take]; omega
  refine spo_words (by simp) (fun x hx => ?_) (by simp only [List.length_append, List.length_take, List.length_drop, List.length_singleton]; omega) (.inr ⟨j, w, h1, ?_, o.2.2.2⟩)
  · rcases List.mem_append.mp hx with hx | hx
    · rcases List.mem_append.mp hx with hx | hx
      · exact line_word h x (List.mem_of_mem_take hx)
      · rw [List.mem_singleton.mp hx]; exact ⟨⟨o.1, o.2.1⟩, o.2.2.1⟩
    · exact line_word h x (List.mem_of_mem_drop hx)
  · rw [List.append_assoc, List.getElem?_append_right (by omega), lt, Nat.sub_self]
    rfl
theorem spo_more {line : Str} {i : Nat} {l : List Int} (h : LineIs line (nmOf i) (mnOf i) l) : Spo i (Str.join blankS (Txt.split line blankS ++ [Str.ofString "1"])) := by
  have hm := line_many h
  have m := mn_le i
  refine spo_words (by simp) (fun x hx => ?_) (by rw [List.length_append, List.length_singleton]; omega) (.inl (by rw [List.length_append, List.length_singleton]; omega))
  rcases List.mem_append.mp hx with hx | hx
  · exact line_word h x hx
  · rw [List.mem_singleton.mp hx]; exact ⟨⟨by decide, by decide⟩, by decide⟩
theorem spo_less {line : Str} {i : Nat} {l : List Int} (h : LineIs line (nmOf i) (mnOf i) l) : Spo i (Str.join blankS ((Txt.split line blankS).take ((Txt.split line blankS).length - 1))) := by
  have hm := line_many h
  have m := mn_le i
  have e : ((Txt.split line blankS).take ((Txt.split line blankS).length - 1)).length = mnOf i := by rw [List.length_take]; omega
  refine spo_words (fun q => ?_) (fun x hx => line_word h x (List.mem_of_mem_take hx)) (by omega) (.inl (by omega))
  rw [q] at e
  have : 0 = mnOf i := e
  omega
theorem spo_gap {line : Str} {i : Nat} {l : List Int} (h : LineIs line (nmOf i) (mnOf i) l) {j : Nat} (h2 : j ≤ mnOf i) : Spo i (Str.join blankS ((Txt.split line blankS).take j ++ [Str.empty] ++ (Txt.split line blankS).drop j)) := by
  have hm := line_many h
  have m := mn_le i
  refine spo_words (by simp) (fun x hx => ?_) (by simp only [List.length_append, List.length_take, List.length_drop, List.length_singleton]; omega) (.inl (by simp only [List.length_append, List.length_take, List.length_drop, List.length_singleton]; omega))
  rcases List.mem_append.mp hx with hx | hx
  · rcases List.mem_append.mp hx with hx | hx
    · exact line_word h x (List.mem_of_mem_take hx)
    · rw [List.mem_singleton.mp hx]; exact ⟨⟨by decide, by decide⟩, by decide⟩
  · exact line_word h x (List.mem_of_mem_drop hx)
theorem words_ok {W : List Str} (hc : ∀ w ∈ W, w.length ≤ 61) (hl : W.length ≤ 10) : JoinOk blankS W = true := by
  rw [blank_eq]
  exact join_ok (B := 61) hc (by omega)
end My

/-! ## texts spoilt -/
namespace My
open PySem L2
theorem no_cut {ls : List Str} {n : Int} {tr : List (List Int)} (h : LsIs ls n tr) : NoLs (ls.drop 1 ++ [Str.ofString "tie 0 0 1"]) := by
  obtain ⟨a, ts, rfl, h1, h2, h3⟩ := id h
  cases ts with
  | nil => exact no_ls (i := 0) rfl (tie_no tie001)
  | cons b ts =>
    obtain ⟨l, hl⟩ := h.at (i := 1) (x := b) rfl
    exact no_ls (i := 0) (x := b) rfl (tie_no hl)
theorem places1 : LineIs (Str.ofString "places 1") (Str.ofString "places") 1 [1] := line_places (by decide) (told1 (by decide))
theorem no_more {ls : List Str} {n : Int} {tr : List (List Int)} (h : LsIs ls n tr) : NoLs (ls ++ [Str.ofString "places 1"]) := by
  have hm := h.many
  refine no_ls (i := tr.length + 1) (x := Str.ofString "places 1") ?_ (places_no places1 _)
  rw [List.getElem?_append_right (by omega), hm, Nat.sub_self]
  rfl
theorem no_at {ls : List Str} {j : Nat} {x : Str} (hj : j < ls.length) (hx : Spo j x) : NoLs (ls.take j ++ [x] ++ ls.drop (j + 1)) := by
  refine no_ls (i := j) ?_ hx.2
  have e : (ls.take j).length = j := by rw [List.length_take]; omega
  rw [List.append_assoc, List.getElem?_append_right (by omega), e, Nat.sub_self]
  rfl
theorem cl_tie001 : Cl 400 (Str.ofString "tie 0 0 1") := ⟨by decide, by decide⟩
theorem cl_places1 : Cl 400 (Str.ofString "places 1") := ⟨by decide, by decide⟩
/-! ### webs spoilt -/
def oddW (n m : Int) : List Str := [Str.ofString "tie 0 " ++ nT n ++ Str.ofString " 1", Str.ofString "tie -1 0 1", Str.ofString "tie 0 -1 1", Str.ofString "tie " ++ nT (n + m) ++ Str.ofString " 0 1"]
theorem odd_end {n m : Int} (h1 : 1 ≤ n) (h2 : n ≤ 14) (m0 : 0 ≤ m) (m1 : m < 10 ^ 40) : ∀ w ∈ oddW n m, ∃ a b : Int, LineIs w (Str.ofString "tie") 3 [a, b, 1] ∧ ¬ (0 ≤ a ∧ a < n ∧ 0 ≤ b ∧ b < n) := fun w hw => by
  have o : -(10 ^ 60) < (1 : Int) ∧ (1 : Int) < 10 ^ 60 := by decide
  have z : -(10 ^ 60) < (0 : Int) ∧ (0 : Int) < 10 ^ 60 := by decide
  have y : -(10 ^ 60) < (-1 : Int) ∧ (-1 : Int) < 10 ^ 60 := by decide
  rcases List.mem_cons.mp hw with rfl | hw
  · refine ⟨0, n, line_tie ?_ (told3 z (by omega) o), by omega⟩
    refine str_ext ?_
    show _ = (Str.ofString "tie" ++ blankS ++ (nT 0 ++ blankS ++ (nT n ++ blankS ++ nT 1))).cps.toList
    simp only [Str.cps_append, Array.toList_append, List.append_assoc]
    rfl
  rcases List.mem_cons.mp hw with rfl | hw
  · exact ⟨-1, 0, line_tie (by decide) (told3 y z o), by omega⟩
  rcases List.mem_cons.mp hw with rfl | hw
  · exact ⟨0, -1, line_tie (by decide) (told3 z y o), by omega⟩
  rw [List.mem_singleton.mp hw]
  refine ⟨n + m, 0, line_tie ?_ (told3 (by omega) z o), by omega⟩
  refine str_ext ?_
  show _ = (Str.ofString "tie" ++ blankS ++ (nT (n + m) ++ blankS ++ (nT 0 ++ blankS ++ nT 1))).cps.toList
  simp only [Str.cps_append, Array.toList_append, List.append_assoc]
  rfl
def oddP : List Str := [Str.ofString "places 0", Str.ofString "places 15", Str.ofString "places -1"]
theorem odd_places : ∀ w ∈ oddP, ∃ a : Int, LineIs w (Str.ofString "places") 1 [a] ∧ ∀ ps, ¬ GoodW a ps := fun w hw => by
  rcases List.mem_cons.mp hw with rfl | hw
  · exact ⟨0, line_places (by decide) (told1 (by decide)), fun ps g => absurd g.1 (by decide)⟩
  rcases List.mem_cons.mp hw with rfl | hw
  · exact ⟨15, line_places (by decide) (told1 (by decide)), fun ps g => absurd g.2.1 (by decide)⟩
  rw [List.mem_singleton.mp hw]
  exact ⟨-1, line_places (by decide) (told1 (by decide)), fun ps g => absurd g.1 (by decide)⟩
theorem tl_pick {l : List Str} {i : Int} (h0 : 0 ≤ i) (h1 : i < (l.length : Int)) : ∃ w, atI (TL l) i = some (.str w) ∧ w ∈ l ∧ l[i.toNat]? = some w := by
  have b : i.toNat < l.length := by omega
  have e : l[i.toNat]? = some l[i.toNat] := List.getElem?_eq_getElem b
  refine ⟨_, atI_of (n := i.toNat) (by omega) ?_, List.getElem_mem b, e⟩
  unfold TL
  rw [List.getElem?_map, e]
  rfl
end My

/-! ## what is told of spoilt texts -/
namespace My
open PySem L2
theorem no_behind {ls : List Str} {n : Int} {tr : List (List Int)} (h : LsIs ls n tr) : NoLs (Txt.split (Str.join nlS ls ++ nlS) nlS) := by
  have hm := h.many
  have hne : ls ≠ [] := fun e => by rw [e] at hm; cases hm
  rw [← join_end ls hne, lines_text (by simp) fun x hx => ?_]
  · refine no_ls (i := ls.length) (x := Str.empty) ?_ (spo_none _).2
    rw [List.getElem?_append_right (Nat.le_refl _), Nat.sub_self]
    rfl
  · rcases List.mem_append.mp hx with hx | hx
    · exact h.cl x hx
    · rw [List.mem_singleton.mp hx]; exact (spo_none 0).1
theorem no_empty : NoLs (Txt.split Str.empty nlS) := by
  have e : Txt.split Str.empty nlS = [Str.empty] := lines_text (ls := [Str.empty]) (by simp) fun x hx => by rw [List.mem_singleton.mp hx]; exact (spo_none 0).1
  rw [e]
  exact no_ls (i := 0) rfl (spo_none 0).2
end My

namespace My
open PySem L2
def top (i : Nat) : Stmt := PySem.Challenge.pw_spanrow_k84_texts_of_no_web.main.body.getD i (.Pass ⟨0, 0, 0, 0⟩)
abbrev s_refuse_bad_web : Stmt := top 8
abbrev s_Web___init : Stmt := inClass (top 7) 0
abbrev s_is_number : Stmt := top 12
abbrev s_read_number : Stmt := top 13
abbrev s_read_line : Stmt := top 14
abbrev s_read_web : Stmt := top 15
abbrev s_law_cell : Stmt := top 17
abbrev s_law_mixed : Stmt := top 18
abbrev s_law_draws : Stmt := top 19
abbrev s_law_ties : Stmt := top 20
abbrev s_law_web : Stmt := top 21
abbrev s_law_lengths : Stmt := top 22
abbrev s_law_text : Stmt := top 23
abbrev s_law_kinds : Stmt := top 27
abbrev s_law_bad_line : Stmt := top 24
abbrev s_law_bad_text : Stmt := top 25
abbrev s_law_bad_web : Stmt := top 26
abbrev s_law : Stmt := top 28
structure Adr where
  a_refuse_bad_web : Addr
  d_refuse_bad_web : FuncData
  a_Web___init : Addr
  d_Web___init : FuncData
  a_is_number : Addr
  d_is_number : FuncData
  a_read_number : Addr
  d_read_number : FuncData
  a_read_line : Addr
  d_read_line : FuncData
  a_read_web : Addr
  d_read_web : FuncData
  a_law_cell : Addr
  d_law_cell : FuncData
  a_law_mixed : Addr
  d_law_mixed : FuncData
  a_law_draws : Addr
  d_law_draws : FuncData
  a_law_ties : Addr
  d_law_ties : FuncData
  a_law_web : Addr
  d_law_web : FuncData
  a_law_lengths : Addr
  d_law_lengths : FuncData
  a_law_text : Addr
  d_law_text : FuncData
  a_law_kinds : Addr
  d_law_kinds : FuncData
  a_law_bad_line : Addr
  d_law_bad_line : FuncData
  a_law_bad_text : Addr
  d_law_bad_text : FuncData
  a_law_bad_web : Addr
  d_law_bad_web : FuncData
  a_law : Addr
  d_law : FuncData
  A_Web : Addr
  A_WebError : Addr
  A_BadWeb : Addr
  A_BadText : Addr
structure Txt (K : PySem.W.Frag) (mg : Str → Option Value) (t : Adr) : Prop where
  f_refuse_bad_web : Fun K "refuse_bad_web" "refuse_bad_web" s_refuse_bad_web t.a_refuse_bad_web t.d_refuse_bad_web
  b_refuse_bad_web : Binds K t.d_refuse_bad_web ["places", "ties"] []
  m_refuse_bad_web : mg "refuse_bad_web" = some (.ref t.a_refuse_bad_web)
  f_Web___init : Fun K "__init__" "Web.__init__" s_Web___init t.a_Web___init t.d_Web___init
  b_Web___init : Binds K t.d_Web___init ["self", "places", "ties"] []
  f_is_number : Fun K "is_number" "is_number" s_is_number t.a_is_number t.d_is_number
  b_is_number : Binds K t.d_is_number ["word"] []
  m_is_number : mg "is_number" = some (.ref t.a_is_number)
  f_read_number : Fun K "read_number" "read_number" s_read_number t.a_read_number t.d_read_number
  b_read_number : Binds K t.d_read_number ["word"] []
  m_read_number : mg "read_number" = some (.ref t.a_read_number)
  f_read_line : Fun K "read_line" "read_line" s_read_line t.a_read_line t.d_read_line
  b_read_line : Binds K t.d_read_line ["line", "name", "many"] []
  m_read_line : mg "read_line" = some (.ref t.a_read_line)
  f_read_web : Fun K "read_web" "read_web" s_read_web t.a_read_web t.d_read_web
  b_read_web : Binds K t.d_read_web ["text"] []
  m_read_web : mg "read_web" = some (.ref t.a_read_web)
  f_law_cell : Fun K "_law_cell" "_law_cell" s_law_cell t.a_law_cell t.d_law_cell
  b_law_cell : Binds K t.d_law_cell ["script", "k"] []
  m_law_cell : mg "_law_cell" = some (.ref t.a_law_cell)
  f_law_mixed : Fun K "_law_mixed" "_law_mixed" s_law_mixed t.a_law_mixed t.d_law_mixed
  b_law_mixed : Binds K t.d_law_mixed ["cell", "k"] []
  m_law_mixed : mg "_law_mixed" = some (.ref t.a_law_mixed)
  f_law_draws : Fun K "_law_draws" "_law_draws" s_law_draws t.a_law_draws t.d_law_draws
  b_law_draws : Binds K t.d_law_draws ["script", "start", "count", "way"] []
  m_law_draws : mg "_law_draws" = some (.ref t.a_law_draws)
  f_law_ties : Fun K "_law_ties" "_law_ties" s_law_ties t.a_law_ties t.d_law_ties
  b_law_ties : Binds K t.d_law_ties ["draws", "places", "hang"] []
  m_law_ties : mg "_law_ties" = some (.ref t.a_law_ties)
  f_law_web : Fun K "_law_web" "_law_web" s_law_web t.a_law_web t.d_law_web
  b_law_web : Binds K t.d_law_web ["script", "most", "count"] []
  m_law_web : mg "_law_web" = some (.ref t.a_law_web)
  f_law_lengths : Fun K "_law_lengths" "_law_lengths" s_law_lengths t.a_law_lengths t.d_law_lengths
  b_law_lengths : Binds K t.d_law_lengths ["script", "count"] []
  m_law_lengths : mg "_law_lengths" = some (.ref t.a_law_lengths)
  f_law_text : Fun K "_law_text" "_law_text" s_law_text t.a_law_text t.d_law_text
  b_law_text : Binds K t.d_law_text ["places", "ties", "lengths"] []
  m_law_text : mg "_law_text" = some (.ref t.a_law_text)
  f_law_kinds : Fun K "_law_kinds" "_law_kinds" s_law_kinds t.a_law_kinds t.d_law_kinds
  b_law_kinds : Binds K t.d_law_kinds ["text"] []
  m_law_kinds : mg "_law_kinds" = some (.ref t.a_law_kinds)
  f_law_bad_line : Fun K "_law_bad_line" "_law_bad_line" s_law_bad_line t.a_law_bad_line t.d_law_bad_line
  b_law_bad_line : Binds K t.d_law_bad_line ["line", "m"] []
  m_law_bad_line : mg "_law_bad_line" = some (.ref t.a_law_bad_line)
  f_law_bad_text : Fun K "_law_bad_text" "_law_bad_text" s_law_bad_text t.a_law_bad_text t.d_law_bad_text
  b_law_bad_text : Binds K t.d_law_bad_text ["lines", "m"] []
  m_law_bad_text : mg "_law_bad_text" = some (.ref t.a_law_bad_text)
  f_law_bad_web : Fun K "_law_bad_web" "_law_bad_web" s_law_bad_web t.a_law_bad_web t.d_law_bad_web
  b_law_bad_web : Binds K t.d_law_bad_web ["lines", "places", "m"] []
  m_law_bad_web : mg "_law_bad_web" = some (.ref t.a_law_bad_web)
  f_law : Fun K "law" "law" s_law t.a_law t.d_law
  b_law : Binds K t.d_law ["script"] []
  m_law : mg "law" = some (.ref t.a_law)
  c_Web : mg "Web" = some (.ref t.A_Web)
  cl_Web : Cls K t.A_Web
  k_Web : Mk K t.A_Web t.a_Web___init
  n_Web_places : NoAttr K t.A_Web "places"
  n_Web_ties : NoAttr K t.A_Web "ties"
  c_WebError : mg "WebError" = some (.ref t.A_WebError)
  c_BadWeb : mg "BadWeb" = some (.ref t.A_BadWeb)
  c_BadText : mg "BadText" = some (.ref t.A_BadText)
  x_BadWeb : XCls K (t.A_BadWeb)
  x_BadText : XCls K (t.A_BadText)
  ki_BadWeb_BadText : PySem.W.kitOne K (.ref (t.A_BadWeb)) (.ref (t.A_BadText)) = some false
  ki_BadWeb_ValueError : PySem.W.kitOne K (.ref (t.A_BadWeb)) (.type "ValueError") = some true
  em_BadWeb : PySem.W.exmOne K (.ref (t.A_BadWeb)) (.ref (t.A_WebError)) = some true
  ki_BadText_BadWeb : PySem.W.kitOne K (.ref (t.A_BadText)) (.ref (t.A_BadWeb)) = some false
  ki_BadText_ValueError : PySem.W.kitOne K (.ref (t.A_BadText)) (.type "ValueError") = some true
  em_BadText : PySem.W.exmOne K (.ref (t.A_BadText)) (.ref (t.A_WebError)) = some true
  g_MOST_PLACES : ∃ tk, mg "MOST_PLACES" = some (.int 14 tk)
  g_MOST_TIES : ∃ tk, mg "MOST_TIES" = some (.int 30 tk)
  g_FIGURES : ∃ tk, mg "FIGURES" = some (.str "0123456789" tk)
  g_MOST_FIGURES : ∃ tk, mg "MOST_FIGURES" = some (.int 60 tk)
  n_ValueError : mg "ValueError" = none
  n_any : mg "any" = none
  n_int : mg "int" = none
  n_isinstance : mg "isinstance" = none
  n_len : mg "len" = none
  n_max : mg "max" = none
  n_min : mg "min" = none
  n_range : mg "range" = none
  n_str : mg "str" = none
  n_sum : mg "sum" = none
end My
namespace My
open PySem L2 PyProof.Rows
set_option maxHeartbeats 4000000
/-- a web beyond what a web keeps to is refused -/
def sp_refuse_bad_web (K : PySem.W.Frag) (B : Addr) : Sp := fun vs H Q E => ∃ (n : Int) (a : Addr) (kd : Bool) (xs : List V) (ps : List (Int × Int)), vs = [.int n, .ref a] ∧ SqK kd K H a xs ∧ PairsV H xs ps ∧ (∀ p ∈ ps, -(10 ^ 70) < p.1 ∧ p.1 < 10 ^ 70 ∧ -(10 ^ 70) < p.2 ∧ p.2 < 10 ^ 70) ∧
  (GoodW n ps → Q .non H) ∧ (¬ GoodW n ps → E (.ref B) none H)
section
variable {P : Program} {w : World} {K : PySem.W.Frag} {mg : Str → Option Value} {base : Heap} {t : Adr}
theorem sc_refuse_bad_web : FnScope ["places", "ties", "ends", "end"] ["places", "ties"] (defScope s_refuse_bad_web) := ⟨rfl, rfl, rfl, by decide +kernel, rfl, by decide +kernel, by decide +kernel⟩
theorem ok_refuse_bad_web (T : Txt K mg t) : FnOk P w K mg base (CXW P w) 1 t.a_refuse_bad_web t.d_refuse_bad_web ["places", "ties"] (sp_refuse_bad_web K t.A_BadWeb) := by
  refine T.f_refuse_bad_web.okX sc_refuse_bad_web (fun vs H Q E h => ?_) (fun cdv A outer s H vs Q E hr h => ?_)
  · obtain ⟨n, a, kd, xs, ps, rfl, _⟩ := h
    rfl
  · obtain ⟨n, a, kd, xs, ps, rfl, hS, hp, hbd, q, qe⟩ := h
    refine ⟨_, (pss_cons (ps_if (pt_not (pt_chain op_le op_le pe_int (pv 0) (pe_glob (v := V.int 14) rfl T.g_MOST_PLACES.choose_spec ⟨_, rfl⟩)))
      (pss_one (ps_raise T.x_BadWeb T.c_BadWeb (pa_cons (pe_fstr (pj_str (pj_int (pe_glob (v := V.int 14) rfl T.g_MOST_PLACES.choose_spec ⟨_, rfl⟩) (pj_str pj_nil)))) pa_nil)))
      pss_nil)
      (pss_cons (ps_if (pt_cmpR op_gt (pe_callB (call_lenK K) (by rfl) T.n_len Boot.«len» (pa_cons (pv 1) pa_nil)) (pe_glob (v := V.int 30) rfl T.g_MOST_TIES.choose_spec ⟨_, rfl⟩) (nomark _))
      (pss_one (ps_raise T.x_BadWeb T.c_BadWeb (pa_cons (pe_fstr (pj_str (pj_int (pe_glob (v := V.int 30) rfl T.g_MOST_TIES.choose_spec ⟨_, rfl⟩) (pj_str pj_nil)))) pa_nil)))
      pss_nil)
      (pss_one (ps_for PassesOwn.leaving rfl (pi_seqK K (pv 1)) (pg_name (i := 2) sc_refuse_bad_web.nd rfl (Or.inl rfl))
      (pss_one (ps_for PassesOwn.leaving rfl (pi_tupK K (pv 2)) (pg_name (i := 3) sc_refuse_bad_web.nd rfl (Or.inl rfl))
      (pss_one (ps_if (pt_not (pt_chain op_le op_lt pe_int (pv 3) (pv 0)))
      (pss_one (ps_raise T.x_BadWeb T.c_BadWeb (pa_cons (pe_fstr (pj_int (pv 3) (pj_str pj_nil))) pa_nil)))
      pss_nil)))))))), ?_⟩
    have one : 1 ≤ sizeLine := by decide
    refine ⟨_, rfl, _, _, rfl, rfl, _, rfl, ?_⟩
    refine itd2 (fun g1 => ?_) (fun g1 => ?_)
    · refine ⟨_, _, rfl, rfl, _, rfl, ?_⟩
      refine itn2 (fun g2 => ?_) (fun g2 => ?_)
      · refine ⟨_, rfl, a, xs, rfl, hS.or, _, _, rfl, rfl, _, rfl, ?_⟩
        rw [hp.1]
        refine itd2 (fun g3 => ?_) (fun g3 => ?_)
        · exact ⟨30, rfl, by decide, by decide, fun x => ⟨one, qe fun g => by have := g.2.2.1; omega⟩⟩
        · refine ⟨_, rfl, a, rfl, for_seq (k := kd) (K := K) (xs := xs) (fun i σ H2 => ∃ v v2, σ = [some (.int n), some (.ref a), v, v2] ∧ H2 = H ∧ ∀ j p, j < i → ps[j]? = some p → 0 ≤ p.1 ∧ p.1 < n ∧ 0 ≤ p.2 ∧ p.2 < n) ⟨none, none, rfl, rfl, fun j p hj => absurd hj (Nat.not_lt_zero j)⟩ (fun i σ H2 _ ⟨_, _, _, e, _⟩ => e ▸ hS) ?_ ?_⟩
          · rintro i x σ H2 hi ⟨v, v2, rfl, rfl, hg⟩
            obtain ⟨p, hpi, tt, rfl, ht⟩ := hp.at hi
            obtain ⟨e1, e2, e3, e4⟩ := hbd p (List.mem_of_getElem? hpi)
            have bad : ¬ (0 ≤ p.1 ∧ p.1 < n ∧ 0 ≤ p.2 ∧ p.2 < n) → E (.ref t.A_BadWeb) none H2 := fun z => qe fun g => z (g.2.2.2 p (List.mem_of_getElem? hpi))
            refine ⟨_, rfl, tt, rfl, ⟨_, SqT.of ht⟩, for_tup (K := K) (a := tt) (xs := [.int p.1, .int p.2]) (fun j σ H3 => ∃ v v2, σ = [some (.int n), some (.ref a), v, v2] ∧ H3 = H2 ∧ (1 ≤ j → 0 ≤ p.1 ∧ p.1 < n) ∧ (2 ≤ j → 0 ≤ p.2 ∧ p.2 < n)) ⟨_, _, rfl, rfl, fun z => by omega, fun z => by omega⟩ (fun j σ H3 _ ⟨_, _, _, e, _⟩ => e ▸ SqT.of ht) ?_ ?_⟩
            · rintro j y σ H3 hj ⟨v, v2, rfl, rfl, d1, d2⟩
              obtain ⟨z, rfl, z1, z2, zc⟩ : ∃ z : Int, y = .int z ∧ -(10 ^ 70) < z ∧ z < 10 ^ 70 ∧ ((j = 0 ∧ z = p.1) ∨ (j = 1 ∧ z = p.2)) := by
                match j, hj with
                | 0, hj => exact ⟨p.1, (Option.some.inj hj).symm, e1, e2, .inl ⟨rfl, rfl⟩⟩
                | 1, hj => exact ⟨p.2, (Option.some.inj hj).symm, e3, e4, .inr ⟨rfl, rfl⟩⟩
              refine ⟨_, rfl, _, _, rfl, rfl, _, rfl, ?_⟩
              refine itd2 (fun f1 => ?_) (fun f1 => ?_)
              · refine ⟨_, rfl, _, _, rfl, rfl, _, rfl, ?_⟩
                refine itn2 (fun f2 => ?_) (fun f2 => ?_)
                · exact ⟨_, _, rfl, rfl, fun _ => by omega, fun _ => by omega⟩
                · exact ⟨_, rfl, z, rfl, z1, z2, fun x => ⟨one, bad fun g => by omega⟩⟩
              · exact ⟨_, rfl, _, rfl, z, rfl, z1, z2, fun x => ⟨one, bad fun g => by omega⟩⟩
            · rintro σ H3 ⟨v, v2, rfl, rfl, d1, d2⟩
              refine ⟨_, _, rfl, rfl, fun j p' hj ej => ?_⟩
              by_cases hji : j < i
              · exact hg j p' hji ej
              · have : j = i := by omega
                subst this
                rw [hpi] at ej
                cases ej
                have := d1 (by show 1 ≤ 2; decide)
                have := d2 (by show 2 ≤ 2; decide)
                omega
          · rintro σ H2 ⟨v, v2, rfl, rfl, hg⟩
            refine q ⟨g1, g2, by omega, fun p hpm => ?_⟩
            obtain ⟨j, hj, ej⟩ := List.getElem_of_mem hpm
            exact hg j p (by rw [hp.1]; exact hj) (by rw [List.getElem?_eq_getElem hj, ej])
      · exact ⟨14, rfl, by decide, by decide, fun x => ⟨one, qe fun g => g2 g.2.1⟩⟩
    · exact ⟨_, rfl, 14, rfl, by decide, by decide, fun x => ⟨one, qe fun g => g1 g.1⟩⟩
end
end My
namespace My
open PySem L2 PyProof.Rows
set_option maxHeartbeats 4000000
/-- a Web stands at w in H', its list of ties new since H -/
def WebAtN (C : Addr) (H H' : Hp) (w : Addr) (n : Int) (ps : List (Int × Int)) : Prop := ∃ dx tl xs, H' w = some (.ins C dx (wf n tl)) ∧ H' tl = some (.lst xs) ∧ PairsV H' xs ps ∧ H tl = none
/-- a Web is made of good ties; its list and its pairs are its own -/
def sp_Web_init (K : PySem.W.Frag) (C B : Addr) : Sp := fun vs H Q E => ∃ (w dx : Addr) (n : Int) (a : Addr) (kd : Bool) (xs : List V) (ps : List (Int × Int)), vs = [.ref w, .int n, .ref a] ∧ H w = some (.ins C dx []) ∧ (∀ o, SqK kd K (upd H w o) a xs) ∧ PairsV H xs ps ∧ (∀ p ∈ ps, -(10 ^ 70) < p.1 ∧ p.1 < 10 ^ 70 ∧ -(10 ^ 70) < p.2 ∧ p.2 < 10 ^ 70) ∧
  (GoodW n ps → ∀ H' : Hp, WebAtN C H H' w n ps → (∀ b o, H b = some o → b ≠ w → H' b = some o) → Q .non H') ∧ (¬ GoodW n ps → E (.ref B) none H)
section
variable {P : Program} {w : World} {K : PySem.W.Frag} {mg : Str → Option Value} {base : Heap} {t : Adr}
theorem sc_Web___init : FnScope ["self", "places", "ties"] ["self", "places", "ties"] (defScope s_Web___init) := ⟨rfl, rfl, rfl, by decide +kernel, rfl, by decide +kernel, by decide +kernel⟩
theorem ok_Web___init (T : Txt K mg t) : FnOk P w K mg base (CXW P w) 2 t.a_Web___init t.d_Web___init ["self", "places", "ties"] (sp_Web_init K t.A_Web t.A_BadWeb) := by
  refine T.f_Web___init.okX sc_Web___init (fun vs H Q E h => ?_) (fun cdv A outer s H vs Q E hr h => ?_)
  · obtain ⟨w, dx, n, a, kd, xs, ps, rfl, _⟩ := h
    rfl
  · obtain ⟨w, dx, n, a, kd, xs, ps, rfl, hw, hS, hp, hbd, q0, qe⟩ := h
    have eH : upd H w (.ins t.A_Web dx []) = H := by
      funext b
      by_cases hb : b = w
      · subst hb; rw [upd_same, hw]
      · rw [upd_ne hb]
    have hS0 : SqK kd K H a xs := by have z := hS (.ins t.A_Web dx []); rw [eH] at z; exact z
    refine ⟨_, (pss_cons (ps_expr (pe_call (ok_refuse_bad_web T) (hr.mono (by decide)) rfl T.m_refuse_bad_web T.f_refuse_bad_web.kp T.b_refuse_bad_web .nil pxs (pa_cons (pv 1) (pa_cons (pv 2) pa_nil))))
      (pss_cons (ps_fld (pv 0) (pv 1) rfl)
      (pss_one (ps_fld (pv 0) (pe_lc rfl (sc0 := defScope s_Web___init) (N0 := ["self", "places", "ties"]) (N' := ["ends"]) (o := 1) (fr := []) ⟨rfl, by decide +kernel, by decide +kernel, by decide +kernel, rfl, by decide +kernel⟩ (pi_seqK K (pv 2)) (own_name (by decide)) (fun _ _ _ _ => (pg_name (i := 0) (show List.Nodup (["ends"] : List Str) by decide +kernel) rfl (Or.inl rfl))) (fun _ _ _ _ => pts_nil) (fun _ _ _ _ => (pe_tup (pa_cons (pe_ix (ix_tupK K) (pv 0) pe_int (fun _ _ => rfl)) (pa_cons (pe_ix (ix_tupK K) (pv 0) pe_int (fun _ _ => rfl)) pa_nil))))) rfl)))), ?_⟩
    refine ⟨_, rfl, _, rfl, n, a, kd, xs, ps, rfl, hS0, hp, hbd, fun g => ?_, qe⟩
    have q := q0 g
    refine ⟨_, rfl, _, rfl, w, _, dx, [], rfl, hw, T.cl_Web, T.n_Web_places, (by show 0 < 1000; decide), ?_⟩
    -- self.ties = [(ends[0], ends[1]) for ends in ties]
    have hp1 : PairsV (upd H w (.ins t.A_Web dx (putF "places" (.int n) []))) xs ps := ⟨hp.1, fun i p e => by
      obtain ⟨v, e1, tt, e2, e3⟩ := hp.2 i p e
      exact ⟨v, e1, tt, e2, by rw [upd_ne (ne_of e3 hw (fun z => nomatch z))]; exact e3⟩⟩
    have sx : xs.length < sizeLine := small60' (by rw [hp.1]; have := g.2.2.1; omega)
    refine ⟨_, rfl, a, rfl, lc_seq (k := kd) (K := K) (xs := xs) (fun i ys H2 => i ≤ xs.length ∧ ys.length = i ∧ Same (upd H w (.ins t.A_Web dx (putF "places" (.int n) []))) H2 ∧ PairsV H2 ys (ps.take i)) ⟨Nat.zero_le _, rfl, Same.refl _, PairsV.nil⟩ sx
      (fun i ys H2 _ ⟨_, hl, s2, _⟩ => ⟨(hS _).same s2, Nat.le_of_eq hl⟩) ?_ ?_⟩
    · rintro i x ys H2 hi ⟨h1, hl, s2, hy⟩ S hSS
      obtain ⟨p, hpi, tt, rfl, ht⟩ := hp1.at hi
      have ht2 := s2 _ _ ht
      refine nmY ?_
      refine ⟨_, rfl, tt, _, 0, .int p.1, rfl, rfl, SqT.of ht2, rfl, _, rfl, tt, _, 1, .int p.2, rfl, rfl, SqT.of ht2, rfl, (by show 2 ≤ sizeLine; decide), fun q hq => ?_⟩
      have hil : i < xs.length := (List.getElem?_eq_some_iff.mp hi).1
      refine hSS _ _ ⟨hil, by rw [List.length_append, hl]; rfl, same_new s2 hq, ?_⟩
      rw [List.take_succ, hpi]
      exact (hy.same (same_at hq)).snoc ⟨q, rfl, upd_same⟩
    · rintro ys H2 ⟨_, hl, s2, hy⟩ tl htl
      have hw2 := s2 w _ upd_same
      have nwt : w ≠ tl := ne_of_none hw2 htl
      refine ⟨_, rfl, w, _, dx, _, rfl, (by rw [upd_ne nwt]; exact hw2), T.cl_Web, T.n_Web_ties, (by show 1 < 1000; decide), ?_⟩
      have htl0 : H tl = none := by
        cases qq : H tl with
        | none => rfl
        | some oo =>
          have := s2 tl oo (by rw [upd_ne (Ne.symm nwt)]; exact qq)
          rw [htl] at this
          cases this
      refine q _ ⟨dx, tl, ys, upd_same, by rw [upd_ne (Ne.symm nwt), upd_same], ?_, htl0⟩ fun b ob e hb => ?_
      · have e1 : ps.take xs.length = ps := List.take_of_length_le (by rw [hp.1]; exact Nat.le_refl _)
        rw [e1] at hy
        refine ⟨hy.1, fun i p e => ?_⟩
        obtain ⟨v, e2, tt, e3, e4⟩ := hy.2 i p e
        exact ⟨v, e2, tt, e3, by rw [upd_ne (ne_of e4 hw2 (fun z => nomatch z)), upd_ne (ne_of_none e4 htl)]; exact e4⟩
      · have e2 := s2 b ob (by rw [upd_ne hb]; exact e)
        rw [upd_ne hb, upd_ne (ne_of_none e2 htl)]
        exact e2
end
end My
namespace My
open PySem L2 PyProof.Rows
set_option maxHeartbeats 4000000
/-- a word that is a number -/
def sp_is_number : Sp := fun vs H Q _ => ∃ w : Str, vs = [.str w] ∧ (w.cps.all fun c => decide (c < 128)) = true ∧ w.length ≤ 100000 ∧ ∀ H' : Hp, Same H H' → Q (.bl (isNumB w.cps.toList)) H'
theorem dec_txt (x y : Str) : decide (V.str x = V.str y) = decide (x.cps.toList = y.cps.toList) := decide_eq_decide.mpr ⟨fun e => by cases e; rfl, fun e => by rw [str_ext e]⟩
theorem figs_sub {cs : List Nat} {c : Nat} (h : c ∈ figs cs) : c ∈ cs := by
  unfold figs at h
  split at h
  · exact List.mem_of_mem_tail h
  · exact h
theorem figs_len (cs : List Nat) : (figs cs).length ≤ cs.length := by
  unfold figs
  split
  · rw [List.length_tail]; omega
  · exact Nat.le_refl _
theorem any_not {l : List Nat} {f : Nat → Bool} : (l.map fun c => !f c).any id = false ↔ ∀ c ∈ l, f c = true := by
  rw [List.any_eq_false]
  constructor
  · intro h c hc
    have := h (!f c) (List.mem_map.mpr ⟨c, hc, rfl⟩)
    cases e : f c with
    | true => rfl
    | false => rw [e] at this; exact absurd rfl this
  · intro h b hb
    obtain ⟨c, hc, rfl⟩ := List.mem_map.mp hb
    rw [h c hc]
    decide
section
variable {P : Program} {w : World} {K : PySem.W.Frag} {mg : Str → Option Value} {base : Heap} {t : Adr}
theorem sc_is_number : FnScope ["word", "figures"] ["word"] (defScope s_is_number) := ⟨rfl, rfl, rfl, by decide +kernel, rfl, by decide +kernel, by decide +kernel⟩
theorem ok_is_number (T : Txt K mg t) : FnOk P w K mg base CX0 1 t.a_is_number t.d_is_number ["word"] sp_is_number := by
  refine T.f_is_number.ok sc_is_number (fun vs H Q E h => ?_) (fun cdv A outer s H vs Q E hr h => ?_)
  · obtain ⟨w, rfl, _⟩ := h
    rfl
  · obtain ⟨w, rfl, ha, hl, q⟩ := h
    refine ⟨_, (pss_cons (ps_set (i := 1) sc_is_number.nd rfl (Or.inl rfl) (pe_ifExp (pt_val (pe_bmK K PySem.F.plainAttrs_str PySem.F.slot_str_startswith PySem.F.type_str_startswith mt_starts (pv 0) (pa_cons pe_str pa_nil))) (pe_slice sl_text (pv 0) (po_some pe_int) po_none) (pv 0)))
      (pss_cons (ps_if (PW.pt (pw_or (pt_not (pt_chain op_le op_le pe_int (pe_callB call_len_str (by rfl) T.n_len Boot.«len» (pa_cons (pv 1) pa_nil)) (pe_glob (v := V.int 60) rfl T.g_MOST_FIGURES.choose_spec ⟨_, rfl⟩))) (pw_or1 (pt_val (pe_callB (call_anyK K rfl) (by rfl) T.n_any Boot.«any» (pa_cons (pe_lc rfl (sc0 := defScope s_is_number) (N0 := ["word", "figures"]) (N' := ["sign"]) (o := 1) (fr := []) ⟨rfl, by decide +kernel, by decide +kernel, by decide +kernel, rfl, by decide +kernel⟩ (pi_text (pv 1)) (own_name (by decide)) (fun _ _ _ _ => (pg_name (i := 0) (show List.Nodup (["sign"] : List Str) by decide +kernel) rfl (Or.inl rfl))) (fun _ _ _ _ => pts_nil) (fun _ _ _ _ => (pe_cmpR op_notin_str (pv 0) (pe_glob (v := V.str "0123456789") rfl T.g_FIGURES.choose_spec ⟨_, rfl⟩) rfl))) pa_nil))))))
      (pss_one (ps_ret pe_bl))
      pss_nil)
      (pss_one (ps_ret (pe_or (pe_cmpR op_eq (pv 0) pe_str (nomark _)) (pe_one (pe_cmpR op_ne (pe_ix ix_str (pv 1) pe_int (fun _ _ => rfl)) pe_str (nomark _)))))))), ?_⟩
    have hw := str_len w
    have z1 : 100000 ≤ sizeLine := by decide
    refine contS (fun σ H' => H' = H ∧ ∃ F : Str, σ = [some (.str w), some (.str F)] ∧ F.cps.toList = figs w.cps.toList) ?_ ?_
    rotate_left
    · intro Kn hK
      refine ⟨_, rfl, rfl, _, _, rfl, rfl, _, rfl, ?_⟩
      rw [starts_eq]
      refine itd2 (fun hs => ?_) (fun hs => ?_)
      · have hpos : 1 ≤ w.cps.toList.length := by
          cases e : w.cps.toList with
          | nil => rw [e] at hs; cases hs
          | cons c r => simp
        have et := slice_tail hpos
        refine ⟨_, rfl, _, rfl, w, rfl, ?_, hK _ _ ⟨rfl, _, rfl, ?_⟩⟩
        · rw [str_len, et, List.length_tail]; omega
        · rw [et]; unfold figs; rw [if_pos hs]
      · refine ⟨_, rfl, hK _ _ ⟨rfl, _, rfl, ?_⟩⟩
        unfold figs; rw [if_neg hs]
    rintro σ H' ⟨rfl, F, rfl, hF⟩
    have hFl := str_len F
    have hfl := figs_len w.cps.toList
    have hFs : F.length ≤ 100000 := by rw [hFl, hF]; omega
    have hFa : (F.cps.all fun c => decide (c < 128)) = true := by
      rw [← Array.all_toList, List.all_eq_true] at ha ⊢
      intro c hc
      rw [hF] at hc
      exact ha c (figs_sub hc)
    have bad : ¬ (1 ≤ (figs w.cps.toList).length ∧ (figs w.cps.toList).length ≤ 60 ∧ ∀ c ∈ figs w.cps.toList, 48 ≤ c ∧ c ≤ 57) → ∀ H2 : Hp, Same H' H2 → Q (.bl false) H2 := fun h H2 s2 => by
      have e : isNumB w.cps.toList = false := decide_eq_false fun z => h ⟨z.1, z.2.1, z.2.2.1⟩
      have := q H2 s2
      rw [e] at this
      exact this
    refine ⟨_, rfl, F, rfl, by omega, _, _, rfl, rfl, _, rfl, ?_⟩
    refine itd2 (fun h1 => ?_) (fun h1 => ?_)
    rotate_left
    · refine ⟨_, rfl, ?_⟩
      refine iteT ?_
      refine iteT ?_
      exact bad (fun z => h1 (by have := z.1; rw [← hF, ← hFl] at this; omega)) _ (Same.refl _)
    refine ⟨_, _, rfl, rfl, _, rfl, ?_⟩
    refine itn2 (fun h60 => ?_) (fun h60 => ?_)
    rotate_left
    · refine iteT ?_
      exact bad (fun z => h60 (by have := z.2.1; rw [← hF, ← hFl] at this; omega)) _ (Same.refl _)
    refine ⟨_, rfl, F, rfl, hFa, lc_text (fun i ys H2 => H2 = H' ∧ ys = ((F.cps.toList.take i).map fun c => !decide (48 ≤ c ∧ c ≤ 57)).map V.bl) ⟨rfl, rfl⟩ (by show F.length < sizeLine; omega) (fun i ys H2 _ ⟨_, e⟩ => by rw [e, List.length_map, List.length_map, List.length_take]; omega) ?_ ?_⟩
    · rintro i c ys H2 hc ⟨rfl, rfl⟩ S hSS
      refine nmY ?_
      refine ⟨_, rfl, _, _, rfl, rfl, ?_⟩
      rw [figure_in]
      refine hSS _ _ ⟨rfl, ?_⟩
      have hc' : F.cps.toList[i]? = some c := by rw [Array.getElem?_toList]; exact hc
      rw [List.take_succ, hc', List.map_append, List.map_append]
      rfl
    rintro ys H2 ⟨rfl, rfl⟩ p hp
    rw [List.take_of_length_le (by rw [Array.length_toList]; exact Nat.le_refl _)]
    refine ⟨p, _, rfl, SqL.of upd_same, _, rfl, ?_⟩
    have s3 := same_at (o := .lst ((F.cps.toList.map fun c => !decide (48 ≤ c ∧ c ≤ 57)).map V.bl)) hp
    generalize upd H2 p (.lst ((F.cps.toList.map fun c => !decide (48 ≤ c ∧ c ≤ 57)).map V.bl)) = H3 at *
    cases hb : (F.cps.toList.map fun c => !decide (48 ≤ c ∧ c ≤ 57)).any id with
    | true =>
      refine iteT ?_
      refine bad (fun z => ?_) _ s3
      rw [← hF] at z
      rw [any_not.mpr fun c hc => decide_eq_true (z.2.2 c hc)] at hb
      cases hb
    | false =>
      refine iteF ?_
      have hall := any_not.mp hb
      rw [hF] at hall hFl
      show (_ : Prop)
      refine nx_mk ?_
      cases hf : figs w.cps.toList with
      | nil => rw [hf] at hFl; simp at hFl; omega
      | cons c r =>
        have hF0 : atI F.cps.toList 0 = some c := by rw [hF, hf]; exact atI_of (n := 0) (by decide) rfl
        refine ⟨_, rfl, rfl, _, rfl, ?_⟩
        rw [dec_txt]
        have e0 : (Str.ofString "0").cps.toList = [48] := by rfl
        rw [e0]
        have fin : ∀ b : Bool, (b = true ↔ w.cps.toList = [48] ∨ c ≠ 48) → Q (.bl b) H3 := fun b hb2 => by
          have e : isNumB w.cps.toList = b := by
            rw [Bool.eq_iff_iff, hb2]
            unfold isNumB
            rw [decide_eq_true_iff]
            constructor
            · rintro ⟨_, _, _, h⟩
              rcases h with h | h
              · exact .inl h
              · exact .inr fun e => h (by rw [hf, e]; rfl)
            · intro h
              refine ⟨by omega, by omega, fun x hx => of_decide_eq_true (hall x hx), ?_⟩
              rcases h with h | h
              · exact .inl h
              · exact .inr fun e => h (by rw [hf] at e; exact Option.some.inj e)
          have := q H3 s3
          rw [e] at this
          exact this
        refine itd2 (fun h0 => ?_) (fun h0 => ?_)
        · exact fin true ⟨fun _ => .inl h0, fun _ => rfl⟩
        · refine ⟨_, rfl, F, 0, c, rfl, rfl, by omega, hF0, rfl, ?_⟩
          rw [dec_txt, e0]
          refine fin _ ⟨fun h => .inr fun e => ?_, fun h => ?_⟩
          · rw [e] at h; exact absurd h (by decide)
          · rcases h with h | h
            · exact absurd h h0
            · rw [decide_eq_false (fun e => h (List.cons.inj e).1)]; rfl
end
end My
namespace My
open PySem L2 PyProof.Rows
set_option maxHeartbeats 4000000
/-- a number read, or refused -/
def sp_read_number (R : Addr) : Sp := fun vs H Q E => ∃ w : Str, vs = [.str w] ∧ (w.cps.all fun c => decide (c < 128)) = true ∧ w.length ≤ 100000 ∧
  (∀ i : Int, w = nT i → -(10 ^ 60) < i → i < 10 ^ 60 → ∀ H' : Hp, Same H H' → Q (.int i) H') ∧ ((¬ ∃ i : Int, w = nT i ∧ -(10 ^ 60) < i ∧ i < 10 ^ 60) → ∀ H' : Hp, Same H H' → E (.ref R) none H')
section
variable {P : Program} {w : World} {K : PySem.W.Frag} {mg : Str → Option Value} {base : Heap} {t : Adr}
theorem sc_read_number : FnScope ["word"] ["word"] (defScope s_read_number) := ⟨rfl, rfl, rfl, by decide +kernel, rfl, by decide +kernel, by decide +kernel⟩
theorem ok_read_number (T : Txt K mg t) : FnOk P w K mg base (CXW P w) 2 t.a_read_number t.d_read_number ["word"] (sp_read_number t.A_BadText) := by
  refine T.f_read_number.okX sc_read_number (fun vs H Q E h => ?_) (fun cdv A outer s H vs Q E hr h => ?_)
  · obtain ⟨w, rfl, _⟩ := h
    rfl
  · obtain ⟨w, rfl, ha, hl, q, qe⟩ := h
    refine ⟨_, (pss_cons (ps_if (pt_not (pt_val (pe_call (ok_is_number T) (hr.mono (by decide)) rfl T.m_is_number T.f_is_number.kp T.b_is_number .nil pass0 (pa_cons (pv 0) pa_nil))))
      (pss_one (ps_raise T.x_BadText T.c_BadText (pa_cons pe_str pa_nil)))
      pss_nil)
      (pss_one (ps_ret (pe_callTy call_intS (by rfl) T.n_int Boot.«int» (pa_cons (pv 0) pa_nil))))), ?_⟩
    refine ⟨_, rfl, w, rfl, ha, hl, fun H1 s1 => ⟨_, rfl, ?_⟩⟩
    by_cases hn : isNumB w.cps.toList = true
    · obtain ⟨i, rfl, h1, h2⟩ := num_is hn
      have hl := nT_len (k := 60) (by decide) h1 h2
      rw [hn]
      refine iteF ?_
      show (_ : Prop)
      refine nx_mk ?_
      exact ⟨_, rfl, nT i, i, rfl, nT_reads (k := 60) (by decide) (by decide) h1 h2, by omega, q i rfl h1 h2 H1 s1⟩
    · rw [Bool.eq_false_iff.mpr hn]
      refine iteT ?_
      exact ⟨by show 1 ≤ sizeLine; decide, qe (fun z => hn (num_iff.mpr z)) H1 s1⟩
end
end My
namespace My
open PySem L2 PyProof.Rows
set_option maxHeartbeats 4000000
/-- the numbers of a line, or it is refused -/
def sp_read_line (K : PySem.W.Frag) (R : Addr) : Sp := fun vs H Q E => ∃ (line name : Str) (many : Nat), vs = [.str line, .str name, .int many] ∧ (line.cps.all fun c => decide (c < 128)) = true ∧ line.length ≤ 90000 ∧ name.length ≤ 100 ∧ many ≤ 10 ∧
  (∀ l : List Int, LineIs line name many l → ∀ (r : Addr) (H' : Hp), Same H H' → H' r = some (.lst (IL l)) → Q (.ref r) H') ∧ ((¬ ∃ l, LineIs line name many l) → ∀ H' : Hp, Same H H' → E (.ref R) none H')
section
variable {P : Program} {w : World} {K : PySem.W.Frag} {mg : Str → Option Value} {base : Heap} {t : Adr}
theorem sc_read_line : FnScope ["line", "name", "many", "words"] ["line", "name", "many"] (defScope s_read_line) := ⟨rfl, rfl, rfl, by decide +kernel, rfl, by decide +kernel, by decide +kernel⟩
theorem ok_read_line (T : Txt K mg t) : FnOk P w K mg base (CXW P w) 3 t.a_read_line t.d_read_line ["line", "name", "many"] (sp_read_line K t.A_BadText) := by
  refine T.f_read_line.okX sc_read_line (fun vs H Q E h => ?_) (fun cdv A outer s H vs Q E hr h => ?_)
  · obtain ⟨line, name, many, rfl, _⟩ := h
    rfl
  · obtain ⟨line, name, many, rfl, ha, hl, hn, hm, q, qe⟩ := h
    refine ⟨_, (pss_cons (ps_set (i := 3) sc_read_line.nd rfl (Or.inl rfl) (pe_bmK K PySem.F.plainAttrs_str PySem.F.slot_str_split PySem.F.type_str_split mt_split (pv 0) (pa_cons pe_str pa_nil)))
      (pss_cons (ps_if (PW.pt (pw_or (pt_cmpR op_ne (pe_ix (ix_listK K) (pv 3) pe_int (fun _ _ => rfl)) (pv 1) (nomark _)) (pw_or1 (pt_cmpR op_ne (pe_callB (call_lenK K) (by rfl) T.n_len Boot.«len» (pa_cons (pv 3) pa_nil)) (pe_op op_add (pv 2) pe_int) (nomark _)))))
      (pss_one (ps_raise T.x_BadText T.c_BadText (pa_cons (pe_fstr (pj_str (pj_txt (pv 1) (pj_str pj_nil)))) pa_nil)))
      pss_nil)
      (pss_one (ps_ret (pe_lcX pxM rfl rfl rfl rfl (sc0 := defScope s_read_line) (N0 := ["line", "name", "many", "words"]) (N' := ["word"]) (o := 1) (fr := []) ⟨rfl, by decide +kernel, by decide +kernel, by decide +kernel, rfl, by decide +kernel⟩ (pi_listK K (pe_slice (sl_listK K) (pv 3) (po_some pe_int) po_none)) (own_name (by decide)) (fun _ _ _ _ => (pg_name (i := 0) (show List.Nodup (["word"] : List Str) by decide +kernel) rfl (Or.inl rfl))) (fun _ _ _ _ => pts_nil) (fun _ _ _ _ _ => (pe_callX (ok_read_number T) (hr.mono (by decide)) rfl T.m_read_number T.f_read_number.kp T.b_read_number .nil pxT (pa_cons (pv 0) pa_nil)))))))), ?_⟩
    have z1 : 100000 ≤ sizeLine := by decide
    have many1 := split_many line 32
    rw [← blank_eq] at many1
    have hpc : ∀ p ∈ Txt.split line blankS, (p.cps.all fun c => decide (c < 128)) = true ∧ p.length ≤ 90000 := fun p hp => by
      rw [blank_eq] at hp
      have := (split_piece hp).1
      exact ⟨split_ascii hp ha, by omega⟩
    have hne := split_ne line blankS
    refine ⟨_, rfl, rfl, _, _, rfl, rfl, rfl, by omega, ?_, fun p hp => ?_⟩
    · show (Txt.split _ blankS).length ≤ _
      omega
    have e : Txt.split line (Str.ofString " ") = Txt.split line blankS := rfl
    rw [e]
    have u1 := same_at (o := .lst (TL (Txt.split line blankS))) hp
    have hp1 : (upd H p (.lst (TL (Txt.split line blankS)))) p = some (.lst (TL (Txt.split line blankS))) := upd_same
    generalize upd H p (.lst (TL (Txt.split line blankS))) = H1 at *
    obtain ⟨w0, ws, hw⟩ : ∃ w0 ws, Txt.split line blankS = w0 :: ws := List.exists_cons_of_ne_nil hne
    rw [hw] at hp1 hpc many1
    refine nm ?_
    dsimp only
    refine ⟨_, rfl, p, _, 0, .str w0, rfl, rfl, SqL.of hp1, atI_of (n := 0) (by decide) rfl, _, rfl, rfl, _, rfl, ?_⟩
    have no : (¬ (w0 = name ∧ ws.length = many)) → ¬ ∃ l, LineIs line name many l := fun h ⟨l, e1, e2, _⟩ => by
      rw [hw] at e1
      obtain ⟨rfl, rfl⟩ := List.cons.inj e1
      exact h ⟨rfl, by rw [List.length_map]; exact e2⟩
    have raised : ∀ (h : ¬ (w0 = name ∧ ws.length = many)), E (.ref t.A_BadText) none H1 := fun h => qe (no h) H1 u1
    rw [dec_txt]
    by_cases hc : w0 = name
    · subst hc
      refine itn rfl ?_
      refine ⟨_, rfl, p, _, rfl, .inl (SqL.of hp1), _, rfl, _, _, rfl, rfl, rfl, _, rfl, ?_⟩
      rw [tl_length, List.length_cons, dec_int]
      refine itn2 (fun hc2 => ?_) (fun hc2 => ?_)
      · have hws : ws.length = many := by omega
        show (_ : Prop)
        refine nx_mk ?_
        refine ⟨_, rfl, _, rfl, p, _, rfl, SqL.of hp1, fun p2 hp2 => ?_⟩
        rw [cut_from2 (by decide)]
        have e2 : (TL (w0 :: ws)).drop (1 : Int).toNat = TL ws := rfl
        rw [e2]
        have u2 := same_at (o := .lst (TL ws)) hp2
        have hp3 : (upd H1 p2 (.lst (TL ws))) p2 = some (.lst (TL ws)) := upd_same
        generalize upd H1 p2 (.lst (TL ws)) = H2 at *
        refine ⟨p2, rfl, ⟨_, SqL.of hp3⟩, lc_list (K := K) (a := p2) (xs := TL ws) (fun i ys H3 => Same H2 H3 ∧ ∃ l : List Int, l.length = i ∧ ws.take i = l.map nT ∧ Told l ∧ ys = IL l) ⟨Same.refl _, [], rfl, rfl, (fun z hz => by cases hz), rfl⟩ (small60' (by rw [tl_length]; omega)) (fun i ys H3 _ ⟨e, l, e1, _, _, ey⟩ => ⟨SqL.of (e _ _ hp3), by rw [ey, il_length, e1]; exact Nat.le_refl _⟩) ?_ ?_⟩
        · rintro i v ys H3 hi ⟨s3, l, e1, e2, e3, rfl⟩ S hSS
          obtain ⟨x, rfl, hx⟩ := tl_get hi
          have hxp := hpc x (List.mem_cons_of_mem _ (List.mem_of_getElem? hx))
          refine nmY ?_
          refine ⟨_, rfl, x, rfl, hxp.1, by omega, fun z hz h1 h2 H4 s4 => hSS _ _ ⟨s3.trans s4, l ++ [z], by rw [List.length_append, e1]; rfl, ?_, ?_, (il_snoc _ _).symm⟩, fun hno H4 s4 => ?_⟩
          · rw [List.take_succ, hx, e2, hz, List.map_append]
            rfl
          · intro y hy
            rcases List.mem_append.mp hy with q1 | q1
            · exact e3 y q1
            · rw [List.mem_singleton.mp q1]; exact ⟨h1, h2⟩
          · refine qe (fun ⟨l', f1, f2, f3⟩ => hno ?_) H4 (u1.trans (u2.trans (s3.trans s4)))
            rw [hw] at f1
            obtain ⟨_, f1⟩ := List.cons.inj f1
            rw [f1, List.getElem?_map] at hx
            obtain ⟨z, hz, hz2⟩ := Option.map_eq_some_iff.mp hx
            have := f3 z (List.mem_of_getElem? hz)
            exact ⟨z, hz2.symm, this.1, this.2⟩
        · rintro ys H3 ⟨s3, l, e1, e2, e3, rfl⟩ p3 hp4
          rw [tl_length] at e1 e2
          rw [List.take_length] at e2
          refine q l ⟨by rw [hw, e2], by omega, e3⟩ p3 _ (u1.trans (u2.trans (s3.trans (same_at hp4)))) upd_same
      · exact ⟨_, rfl, w0, rfl, by omega, fun x => ⟨by show 1 ≤ sizeLine; omega, raised fun z => by omega⟩⟩
    · refine itnn (fun z => hc (str_ext z)) ?_
      refine iteT ?_
      exact ⟨_, rfl, name, rfl, by omega, fun x => ⟨by show 1 ≤ sizeLine; omega, raised fun z => hc z.1⟩⟩
end
end My
namespace My
open PySem L2 PyProof.Rows
set_option maxHeartbeats 4000000
/-- a web read, or refused -/
def sp_read_web (K : PySem.W.Frag) (BW BT : Addr) : Sp := fun vs H Q E => ∃ text : Str, vs = [.str text] ∧ (text.cps.all fun c => decide (c < 128)) = true ∧ text.length ≤ 90000 ∧
  (∀ (n : Int) (tr : List (List Int)), TextIs text n tr → GoodW n (prs tr) → ∀ (v : V) (H' : Hp), Same H H' → Q v H') ∧ (∀ (n : Int) (tr : List (List Int)), TextIs text n tr → ¬ GoodW n (prs tr) → ∀ H' : Hp, Same H H' → E (.ref BW) none H') ∧
  ((¬ ∃ n tr, TextIs text n tr) → ∀ H' : Hp, Same H H' → E (.ref BT) none H')
section
variable {P : Program} {w : World} {K : PySem.W.Frag} {mg : Str → Option Value} {base : Heap} {t : Adr}
theorem sc_read_web : FnScope ["text", "lines", "places", "ties"] ["text"] (defScope s_read_web) := ⟨rfl, rfl, rfl, by decide +kernel, rfl, by decide +kernel, by decide +kernel⟩
theorem ok_read_web (T : Txt K mg t) : FnOk P w K mg base (CXW P w) 4 t.a_read_web t.d_read_web ["text"] (sp_read_web K t.A_BadWeb t.A_BadText) := by
  refine T.f_read_web.okX sc_read_web (fun vs H Q E h => ?_) (fun cdv A outer s H vs Q E hr h => ?_)
  · obtain ⟨text, rfl, _⟩ := h
    rfl
  · obtain ⟨text, rfl, ha, hl, q, qw, qt⟩ := h
    refine ⟨_, (pss_cons (ps_set (i := 1) sc_read_web.nd rfl (Or.inl rfl) (pe_bmK K PySem.F.plainAttrs_str PySem.F.slot_str_split PySem.F.type_str_split mt_split (pv 0) (pa_cons pe_str pa_nil)))
      (pss_cons (ps_set (i := 2) sc_read_web.nd rfl (Or.inl rfl) (pe_call (ok_read_line T) (hr.mono (by decide)) rfl T.m_read_line T.f_read_line.kp T.b_read_line .nil pxs (pa_cons (pe_ix (ix_listK K) (pv 1) pe_int (fun _ _ => rfl)) (pa_cons pe_str (pa_cons pe_int pa_nil)))))
      (pss_cons (ps_lcX (i := 3) pxM rfl rfl rfl rfl sc_read_web.nd rfl rfl (sc0 := defScope s_read_web) (N0 := ["text", "lines", "places", "ties"]) (N' := ["line"]) (o := 1) (fr := []) ⟨rfl, by decide +kernel, by decide +kernel, by decide +kernel, rfl, by decide +kernel⟩ (pi_listK K (pe_slice (sl_listK K) (pv 1) (po_some pe_int) po_none)) (own_name (by decide)) (fun _ _ _ _ => (pg_name (i := 0) (show List.Nodup (["line"] : List Str) by decide +kernel) rfl (Or.inl rfl))) (fun _ _ _ _ => pts_nil) (fun _ _ _ _ _ => (pe_callX (ok_read_line T) (hr.mono (by decide)) rfl T.m_read_line T.f_read_line.kp T.b_read_line .nil pxT (pa_cons (pv 0) (pa_cons pe_str (pa_cons pe_int pa_nil))))))
      (pss_one (ps_ret (pe_tup (pa_cons (pe_make T.k_Web (ok_Web___init T) (hr.mono (by decide)) rfl T.c_Web T.b_Web___init .nil pxs (pa_cons (pe_ix (ix_listK K) (pv 2) pe_int (fun _ _ => rfl)) (pa_cons (pe_lc rfl (sc0 := defScope s_read_web) (N0 := ["text", "lines", "places", "ties"]) (N' := ["tie"]) (o := 1) (fr := []) ⟨rfl, by decide +kernel, by decide +kernel, by decide +kernel, rfl, by decide +kernel⟩ (pi_listK K (pv 3)) (own_name (by decide)) (fun _ _ _ _ => (pg_name (i := 0) (show List.Nodup (["tie"] : List Str) by decide +kernel) rfl (Or.inl rfl))) (fun _ _ _ _ => pts_nil) (fun _ _ _ _ => (pe_tup (pa_cons (pe_ix (ix_listK K) (pv 0) pe_int (fun _ _ => rfl)) (pa_cons (pe_ix (ix_listK K) (pv 0) pe_int (fun _ _ => rfl)) pa_nil))))) pa_nil))) (pa_cons (pe_lc rfl (sc0 := defScope s_read_web) (N0 := ["text", "lines", "places", "ties"]) (N' := ["tie"]) (o := 1) (fr := []) ⟨rfl, by decide +kernel, by decide +kernel, by decide +kernel, rfl, by decide +kernel⟩ (pi_listK K (pv 3)) (own_name (by decide)) (fun _ _ _ _ => (pg_name (i := 0) (show List.Nodup (["tie"] : List Str) by decide +kernel) rfl (Or.inl rfl))) (fun _ _ _ _ => pts_nil) (fun _ _ _ _ => (pe_ix (ix_listK K) (pv 0) pe_int (fun _ _ => rfl)))) pa_nil)))))))), ?_⟩
    have two : 2 ≤ sizeLine := by decide
    have z1 : 100000 ≤ sizeLine := by decide
    have many1 := split_many text 10
    rw [← nl_eq] at many1
    have hpc : ∀ p ∈ Txt.split text nlS, (p.cps.all fun c => decide (c < 128)) = true ∧ p.length ≤ 90000 := fun p hp => by
      rw [nl_eq] at hp
      have := (split_piece hp).1
      exact ⟨split_ascii hp ha, by omega⟩
    have hne := split_ne text nlS
    refine ⟨_, rfl, rfl, _, _, rfl, rfl, rfl, by omega, ?_, fun p hp => ?_⟩
    · show (Txt.split _ nlS).length ≤ _
      omega
    have e : Txt.split text (Str.ofString "\n") = Txt.split text nlS := rfl
    rw [e]
    have u1 := same_at (o := .lst (TL (Txt.split text nlS))) hp
    have hp1 : (upd H p (.lst (TL (Txt.split text nlS)))) p = some (.lst (TL (Txt.split text nlS))) := upd_same
    generalize upd H p (.lst (TL (Txt.split text nlS))) = H1 at *
    obtain ⟨w0, ws, hw⟩ : ∃ w0 ws, Txt.split text nlS = w0 :: ws := List.exists_cons_of_ne_nil hne
    rw [hw] at hp1 hpc many1
    have hwl : ws.length ≤ 90000 := by rw [List.length_cons] at many1; omega
    have hw0 := hpc w0 List.mem_cons_self
    refine nm ?_
    dsimp only
    refine ⟨_, rfl, p, _, 0, .str w0, rfl, rfl, SqL.of hp1, atI_of (n := 0) (by decide) rfl, w0, Str.ofString "places", 1, rfl, hw0.1, hw0.2, by decide, by decide, fun l0 hl0 pA H2 s2 hpA => ?_, fun hno H2 s2 => ?_⟩
    · obtain ⟨n, rfl⟩ : ∃ n, l0 = [n] := List.length_eq_one_iff.mp hl0.2.1
      refine nm ?_
      dsimp only
      have hp2 := s2 _ _ hp1
      refine ⟨_, rfl, _, rfl, p, _, rfl, SqL.of hp2, fun p2 hp3 => ?_⟩
      rw [cut_from2 (by decide)]
      have e2 : (TL (w0 :: ws)).drop (1 : Int).toNat = TL ws := rfl
      rw [e2]
      have u3 := same_at (o := .lst (TL ws)) hp3
      have h3 : (upd H2 p2 (.lst (TL ws))) p2 = some (.lst (TL ws)) := upd_same
      have hpA3 := u3 _ _ hpA
      generalize upd H2 p2 (.lst (TL ws)) = H3 at *
      have s03 := u1.trans (s2.trans u3)
      refine ⟨p2, rfl, ⟨_, SqL.of h3⟩, lc_list (K := K) (a := p2) (xs := TL ws) (fun i ys H4 => Same H3 H4 ∧ i ≤ ws.length ∧ ∃ R : List (List Int), R.length = i ∧ Bears (ListV H4) ys R ∧ ∀ (j : Nat) (line : Str) (l : List Int), ws[j]? = some line → R[j]? = some l → LineIs line (Str.ofString "tie") 3 l) ⟨Same.refl _, Nat.zero_le _, [], rfl, ⟨rfl, fun i a e => by simp at e⟩, fun j line l _ h => by simp at h⟩ (small60' (by rw [tl_length]; omega)) (fun i ys H4 _ ⟨e, hi, R, e1, h, _⟩ => ⟨SqL.of (e _ _ h3), by rw [h.1, e1]; exact Nat.le_refl _⟩) ?_ ?_⟩
      · rintro i v ys H4 hi ⟨s4, hil, R, e1, hB, hR⟩ S hSS
        obtain ⟨x, rfl, hx⟩ := tl_get hi
        have hi2 : i < ws.length := (List.getElem?_eq_some_iff.mp hx).1
        have hxp := hpc x (List.mem_cons_of_mem _ (List.mem_of_getElem? hx))
        refine nmY ?_
        refine ⟨_, rfl, x, Str.ofString "tie", 3, rfl, hxp.1, hxp.2, by decide, by decide, fun l hL r H5 s5 hr => hSS _ _ ⟨s4.trans s5, hi2, R ++ [l], by rw [List.length_append, e1]; rfl, ?_, fun j line m hj hm => ?_⟩, fun hno H5 s5 => ?_⟩
        · exact (hB.imp fun _ _ ⟨r, e, h⟩ => ⟨r, e, s5 _ _ h⟩).snoc ⟨r, rfl, hr⟩
        · by_cases hj2 : j < R.length
          · rw [List.getElem?_append_left hj2] at hm
            exact hR j line m hj hm
          · have hj3 := (List.getElem?_eq_some_iff.mp hm).1
            rw [List.length_append, List.length_singleton] at hj3
            obtain rfl : j = R.length := by omega
            rw [List.getElem?_append_right (Nat.le_refl _), Nat.sub_self] at hm
            obtain rfl : l = m := Option.some.inj hm
            rw [e1, hx] at hj
            obtain rfl : x = line := Option.some.inj hj
            exact hL
        · refine qt (fun ⟨n', tr, h', ts, f1, f2, f3, f4⟩ => hno ?_) H5 (s03.trans (s4.trans s5))
          rw [hw] at f1
          obtain ⟨_, rfl⟩ := List.cons.inj f1
          obtain ⟨m, hm⟩ : ∃ m, tr[i]? = some m := ⟨_, List.getElem?_eq_getElem (by omega)⟩
          exact ⟨m, f4 i x m hx hm⟩
      rintro ys H4 ⟨s4, _, R, e1, hB, hR⟩ p3 hp4
      rw [tl_length] at e1
      have hT : TextIs text n R := ⟨w0, ws, hw, hl0, e1.symm, hR⟩
      have u5 := same_at (o := .lst ys) hp4
      have h5 : (upd H4 p3 (.lst ys)) p3 = some (.lst ys) := upd_same
      have hB5 : Bears (ListV (upd H4 p3 (.lst ys))) ys R := hB.imp fun _ _ ⟨r, e, h⟩ => ⟨r, e, u5 _ _ h⟩
      have hpA5 := (s4.trans u5) _ _ hpA3
      have sH5 := s03.trans (s4.trans u5)
      generalize upd H4 p3 (.lst ys) = H5 at *
      have hyl := hB5.1
      have prl : (prs R).length = R.length := List.length_map ..
      refine nm ?_
      dsimp only
      have Rrow : ∀ (i : Nat) (row : List Int), R[i]? = some row → ∃ a b c, row = [a, b, c] ∧ (prs R)[i]? = some (a, b) ∧ Told [a, b, c] := fun i row h => by
        obtain ⟨line, hline⟩ : ∃ line, ws[i]? = some line := ⟨_, List.getElem?_eq_getElem (by rw [← e1]; exact (List.getElem?_eq_some_iff.mp h).1)⟩
        obtain ⟨f1, f2, f3⟩ := hR i line row hline h
        obtain ⟨a, b, c, rfl⟩ := three_of f2
        exact ⟨a, b, c, rfl, by unfold prs; rw [List.getElem?_map, h]; rfl, f3⟩
      have hbd : ∀ p ∈ prs R, -(10 ^ 70) < p.1 ∧ p.1 < 10 ^ 70 ∧ -(10 ^ 70) < p.2 ∧ p.2 < 10 ^ 70 := fun p hp => by
        obtain ⟨i, hi⟩ := List.getElem?_of_mem hp
        obtain ⟨row, hrow⟩ : ∃ row, R[i]? = some row := ⟨_, List.getElem?_eq_getElem (by rw [← prl]; exact (List.getElem?_eq_some_iff.mp hi).1)⟩
        obtain ⟨a, b, c, rfl, g1, g2⟩ := Rrow i row hrow
        rw [hi] at g1
        obtain rfl := Option.some.inj g1
        have k1 := g2 a (by simp)
        have k2 := g2 b (by simp)
        show -(10 ^ 70) < a ∧ a < 10 ^ 70 ∧ -(10 ^ 70) < b ∧ b < 10 ^ 70
        omega
      refine ⟨_, rfl, pA, _, 0, .int n, rfl, rfl, SqL.of hpA5, atI_of (n := 0) (by decide) rfl, _, rfl, p3, rfl, ⟨_, SqL.of h5⟩, lc_list (K := K) (a := p3) (xs := ys) (fun i us H6 => Same H5 H6 ∧ i ≤ ys.length ∧ PairsV H6 us ((prs R).take i)) ⟨Same.refl _, Nat.zero_le _, PairsV.nil⟩ (small60' (by omega)) (fun i us H6 _ ⟨e, hi, h⟩ => ⟨SqL.of (e _ _ h5), by rw [h.1, List.length_take]; omega⟩) ?_ ?_⟩
      · rintro i v us H6 hi ⟨s6, hil, hU⟩ S hSS
        obtain ⟨row, hrow, r, rfl, hr⟩ := hB5.at hi
        obtain ⟨a, b, c, rfl, hpp, _⟩ := Rrow i row hrow
        have hil' := (List.getElem?_eq_some_iff.mp hi).1
        refine nmY ?_
        refine ⟨_, rfl, r, _, 0, .int a, rfl, rfl, SqL.of (s6 _ _ hr), atI_of (n := 0) (by decide) rfl, _, rfl, r, _, 1, .int b, rfl, rfl, SqL.of (s6 _ _ hr), atI_of (n := 1) (by decide) rfl, two, fun c hc => hSS _ _ ⟨s6.trans (same_at hc), hil', ?_⟩⟩
        rw [List.take_succ, hpp]
        exact (hU.same (same_at hc)).snoc ⟨c, rfl, upd_same⟩
      rintro us H6 ⟨s6, _, hU⟩ lA hlA
      rw [hyl, ← prl, List.take_length] at hU
      have u7 := same_at (o := .lst us) hlA
      have h7 : (upd H6 lA (.lst us)) lA = some (.lst us) := upd_same
      have hU7 := hU.same u7
      have s57 := s6.trans u7
      generalize upd H6 lA (.lst us) = H7 at *
      intro x dx nx ndx nex
      have t1 : Same H7 (upd (upd H7 dx (.own x)) x (.ins t.A_Web dx [])) := same_new (same_at ndx) (by rw [upd_ne (Ne.symm nex)]; exact nx)
      refine ⟨x, dx, n, lA, false, us, prs R, rfl, upd_same, fun o => ?_, hU7.same t1, hbd, fun hG H8 hW' k3 => ⟨rfl, ?_⟩, fun h => qw n R hT h _ (sH5.trans (s57.trans t1))⟩
      · exact (same_upd nx t1).seq (SqL.of h7)
      have s8 : Same H7 H8 := fun b o e => k3 b o (t1 b o e) (ne_of_none e nx)
      have h8 := (s57.trans s8) _ _ h5
      have hB8 : Bears (ListV H8) ys R := hB5.imp fun _ _ ⟨r, e, h⟩ => ⟨r, e, (s57.trans s8) _ _ h⟩
      refine ⟨_, rfl, p3, rfl, ⟨_, SqL.of h8⟩, lc_list (K := K) (a := p3) (xs := ys) (fun i us H9 => H9 = H8 ∧ us.length = i) ⟨rfl, rfl⟩ (small60' (by omega)) (fun i us H9 _ ⟨e, h⟩ => ⟨e ▸ SqL.of h8, by omega⟩) ?_ ?_⟩
      · rintro i v us H9 hi ⟨rfl, hul⟩ S hSS
        obtain ⟨row, hrow, r, rfl, hr⟩ := hB8.at hi
        obtain ⟨a, b, c, rfl, _, _⟩ := Rrow i row hrow
        refine nmY ?_
        exact ⟨_, rfl, r, _, 2, .int c, rfl, rfl, SqL.of hr, atI_of (n := 2) (by decide) rfl, hSS _ _ ⟨rfl, by rw [List.length_append, hul]; rfl⟩⟩
      rintro us9 H9 ⟨rfl, _⟩ aA haA
      have u9 := same_at (o := .lst us9) haA
      have sH9 := sH5.trans (s57.trans s8)
      refine ⟨two, fun tA htA => ?_⟩
      exact q n R hT hG _ _ (sH9.trans (u9.trans (same_at htA)))
    · refine qt (fun ⟨n', tr, h', ts, f1, f2, f3, f4⟩ => hno ?_) H2 (u1.trans s2)
      rw [hw] at f1
      obtain ⟨rfl, _⟩ := List.cons.inj f1
      exact ⟨_, f2⟩
end
end My
namespace My
open PySem L2 PyProof.Rows
set_option maxHeartbeats 4000000
/-- a cell of the script, brought below 10 ** 60 -/
def sp_law_cell (K : PySem.W.Frag) : Sp := fun vs H Q _ => ∃ (a : Addr) (ns : List Int) (k : Int), vs = [.ref a, .int k] ∧ SqL K H a (IL ns) ∧ 0 ≤ k ∧ ∀ r : Int, 0 ≤ r → r < 10 ^ 60 → Q (.int r) H
section
variable {P : Program} {w : World} {K : PySem.W.Frag} {mg : Str → Option Value} {base : Heap} {t : Adr}
theorem sc_law_cell : FnScope ["script", "k"] ["script", "k"] (defScope s_law_cell) := ⟨rfl, rfl, rfl, by decide +kernel, rfl, by decide +kernel, by decide +kernel⟩
theorem ok_law_cell (T : Txt K mg t) : FnOk P w K mg base CX0 1 t.a_law_cell t.d_law_cell ["script", "k"] (sp_law_cell K) := by
  refine T.f_law_cell.ok sc_law_cell (fun vs H Q E h => ?_) (fun cdv A outer s H vs Q E hr h => ?_)
  · obtain ⟨a, ns, k, rfl, _⟩ := h
    rfl
  · obtain ⟨a, ns, k, rfl, hS, hk, q⟩ := h
    refine ⟨_, (pss_cons (ps_if (pt_cmpR op_lt (pv 1) (pe_callB (call_lenK K) (by rfl) T.n_len Boot.«len» (pa_cons (pv 0) pa_nil)) (nomark _))
      (pss_one (ps_ret (pe_op op_mod (pe_ix (ix_listK K) (pv 0) (pv 1) (fun _ _ => rfl)) (pe_op op_pow pe_int pe_int))))
      pss_nil)
      (pss_one (ps_ret pe_int))), ?_⟩
    refine ⟨_, rfl, _, rfl, a, _, rfl, .inl hS, _, _, rfl, rfl, _, rfl, ?_⟩
    refine ite2 (fun hc => ?_) (fun _ => ?_)
    · have hc := of_decide_eq_true hc
      rw [il_length] at hc
      obtain ⟨z, hz⟩ : ∃ z, ns[k.toNat]? = some z := ⟨_, List.getElem?_eq_getElem (by omega)⟩
      refine ⟨_, rfl, _, rfl, a, _, k, .int z, rfl, rfl, hS, atI_of (n := k.toNat) (by omega) (by rw [List.getElem?_map, hz]; rfl), _, _, rfl, rfl, ⟨by decide, by decide, by decide⟩, _, _, rfl, rfl, ?_, ?_⟩
      · show (0 : Int) < 10 ^ 60
        decide
      · exact q _ (Int.emod_nonneg _ (by decide)) (Int.emod_lt_of_pos _ (by decide))
    · exact q 0 (by decide) (by decide)
end
end My
namespace My
open PySem L2 PyProof.Rows
set_option maxHeartbeats 4000000
/-- a number stirred out of two -/
def sp_law_mixed : Sp := fun vs H Q _ => ∃ (c k : Int), vs = [.int c, .int k] ∧ ∀ r : Int, 0 ≤ r → r < 2147483587 → Q (.int r) H
section
variable {P : Program} {w : World} {K : PySem.W.Frag} {mg : Str → Option Value} {base : Heap} {t : Adr}
theorem sc_law_mixed : FnScope ["cell", "k", "first", "second"] ["cell", "k"] (defScope s_law_mixed) := ⟨rfl, rfl, rfl, by decide +kernel, rfl, by decide +kernel, by decide +kernel⟩
theorem ok_law_mixed (T : Txt K mg t) : FnOk P w K mg base CX0 1 t.a_law_mixed t.d_law_mixed ["cell", "k"] sp_law_mixed := by
  refine T.f_law_mixed.ok sc_law_mixed (fun vs H Q E h => ?_) (fun cdv A outer s H vs Q E hr h => ?_)
  · obtain ⟨c, k, rfl, _⟩ := h
    rfl
  · obtain ⟨c, k, rfl, q⟩ := h
    refine ⟨_, (pss_cons (ps_set (i := 2) sc_law_mixed.nd rfl (Or.inl rfl) (pe_op op_mod (pe_op op_mul (pe_op op_add (pe_op op_add (pv 0) (pe_op op_mul pe_int (pv 1))) pe_int) pe_int) pe_int))
      (pss_cons (ps_set (i := 3) sc_law_mixed.nd rfl (Or.inl rfl) (pe_op op_mod (pe_op op_add (pe_op op_add (pe_op op_mul (pv 2) (pv 2)) (pe_op op_mul pe_int (pv 1))) pe_int) pe_int))
      (pss_one (ps_ret (pe_op op_fdiv (pe_op op_mod (pe_op op_mul (pv 3) (pv 3)) pe_int) pe_int))))), ?_⟩
    refine ⟨_, rfl, _, rfl, _, _, rfl, rfl, .inl ⟨by decide, by decide⟩, _, _, rfl, rfl, _, _, rfl, rfl, _, _, rfl, rfl, .inr ⟨by decide, by decide⟩, _, _, rfl, rfl, (by show (0 : Int) < 2147483647; decide), ?_⟩
    have f0 : 0 ≤ ((c + 7919 * k + 1) * 48271) % 2147483647 := Int.emod_nonneg _ (by decide)
    have f1 : ((c + 7919 * k + 1) * 48271) % 2147483647 < 2147483647 := Int.emod_lt_of_pos _ (by decide)
    refine ⟨_, rfl, _, rfl, _, _, rfl, rfl, .inl ⟨by omega, by omega⟩, _, rfl, _, _, rfl, rfl, .inl ⟨by decide, by decide⟩, _, _, rfl, rfl, _, _, rfl, rfl, _, _, rfl, rfl, (by show (0 : Int) < 2147483629; decide), ?_⟩
    generalize ((c + 7919 * k + 1) * 48271) % 2147483647 = u at *
    have g0 : 0 ≤ (u * u + 40692 * k + 3) % 2147483629 := Int.emod_nonneg _ (by decide)
    have g1 : (u * u + 40692 * k + 3) % 2147483629 < 2147483629 := Int.emod_lt_of_pos _ (by decide)
    refine ⟨_, rfl, _, rfl, _, _, rfl, rfl, .inl ⟨by omega, by omega⟩, _, _, rfl, rfl, (by show (0 : Int) < 2147483587; decide), _, _, rfl, rfl, ⟨by decide, by decide⟩, ?_⟩
    generalize (u * u + 40692 * k + 3) % 2147483629 = v at *
    have h0 : 0 ≤ (v * v) % 2147483587 := Int.emod_nonneg _ (by decide)
    have h1 : (v * v) % 2147483587 < 2147483587 := Int.emod_lt_of_pos _ (by decide)
    generalize (v * v) % 2147483587 = x at *
    exact q _ (by omega) (by omega)
end
end My
namespace My
open PySem L2 PyProof.Rows
set_option maxHeartbeats 4000000
theorem all_snoc {p : Int → Prop} {l : List Int} {x : Int} (h : ∀ z ∈ l, p z) (hx : p x) : ∀ z ∈ l ++ [x], p z := fun z hz => by
  rcases List.mem_append.mp hz with q | q
  · exact h z q
  · rw [List.mem_singleton.mp q]; exact hx
/-- so many numbers, none below nought -/
def sp_law_draws (K : PySem.W.Frag) : Sp := fun vs H Q _ => ∃ (a : Addr) (ns : List Int) (st c : Nat) (way : Int), vs = [.ref a, .int st, .int c, .int way] ∧ SqL K H a (IL ns) ∧ ns.length ≤ 63 ∧ st ≤ 63 ∧ c ≤ 100 ∧
  ∀ (l : Addr) (ds : List Int) (H' : Hp), Same H H' → H l = none → H' l = some (.lst (IL ds)) → ds.length = c → (∀ z ∈ ds, 0 ≤ z) → Q (.ref l) H'
section
variable {P : Program} {w : World} {K : PySem.W.Frag} {mg : Str → Option Value} {base : Heap} {t : Adr}
theorem sc_law_draws : FnScope ["script", "start", "count", "way", "total", "folded", "k", "at", "told"] ["script", "start", "count", "way"] (defScope s_law_draws) := ⟨rfl, rfl, rfl, by decide +kernel, rfl, by decide +kernel, by decide +kernel⟩
theorem ok_law_draws (T : Txt K mg t) : FnOk P w K mg base CX0 2 t.a_law_draws t.d_law_draws ["script", "start", "count", "way"] (sp_law_draws K) := by
  refine T.f_law_draws.ok sc_law_draws (fun vs H Q E h => ?_) (fun cdv A outer s H vs Q E hr h => ?_)
  · obtain ⟨a, ns, st, c, way, rfl, _⟩ := h
    rfl
  · obtain ⟨a, ns, st, c, way, rfl, hS, hn, hst, hc, q⟩ := h
    refine ⟨_, (pss_cons (ps_set (i := 4) sc_law_draws.nd rfl (Or.inl rfl) (pe_op op_mod (pe_callB (call_sumK K rfl) (by rfl) T.n_sum Boot.«sum» (pa_cons (pe_lc rfl (sc0 := defScope s_law_draws) (N0 := ["script", "start", "count", "way", "total", "folded", "k", "at", "told"]) (N' := ["cell"]) (o := 1) (fr := []) ⟨rfl, by decide +kernel, by decide +kernel, by decide +kernel, rfl, by decide +kernel⟩ (pi_listK K (pe_slice (sl_listK K) (pv 0) (po_some (pv 1)) po_none)) (own_name (by decide)) (fun _ _ _ _ => (pg_name (i := 0) (show List.Nodup (["cell"] : List Str) by decide +kernel) rfl (Or.inl rfl))) (fun _ _ _ _ => pts_nil) (fun _ _ _ _ => (pe_op op_mod (pv 0) (pe_op op_pow pe_int pe_int)))) pa_nil)) (pe_op op_pow pe_int pe_int)))
      (pss_cons (ps_lc (i := 5) rfl sc_law_draws.nd rfl rfl (sc0 := defScope s_law_draws) (N0 := ["script", "start", "count", "way", "total", "folded", "k", "at", "told"]) (N' := ["k"]) (o := 1) (fr := []) ⟨rfl, by decide +kernel, by decide +kernel, by decide +kernel, rfl, by decide +kernel⟩ (pi_range1 rfl T.n_range (pa_cons (pv 2) pa_nil)) (own_name (by decide)) (fun _ _ _ _ => (pg_name (i := 0) (show List.Nodup (["k"] : List Str) by decide +kernel) rfl (Or.inl rfl))) (fun _ _ _ _ => pts_nil) (fun _ _ _ _ => (pe_op op_add (pe_op op_mul pe_int (pv 0)) pe_int)))
      (pss_cons (ps_for PassesOwn.never rfl (pi_range2 rfl T.n_range (pa_cons (pv 1) (pa_cons (pe_callB (call_lenK K) (by rfl) T.n_len Boot.«len» (pa_cons (pv 0) pa_nil)) pa_nil))) (pg_name (i := 6) sc_law_draws.nd rfl (Or.inl rfl))
      (pss_cons (ps_set (i := 7) sc_law_draws.nd rfl (Or.inl rfl) (pe_op op_mod (pv 6) (pe_callB (call_max2 rfl) (by rfl) T.n_max Boot.«max» (pa_cons pe_int (pa_cons (pv 2) pa_nil)))))
      (pss_one (ps_if (pt_cmpR op_gt (pv 2) pe_int (nomark _))
      (pss_one (ps_asg (pe_op op_mod (pe_op op_add (pe_op op_mul (pe_ix (ix_listK K) (pv 5) (pv 7) (fun _ _ => rfl)) pe_int) (pe_ix (ix_listK K) (pv 0) (pv 6) (fun _ _ => rfl))) (pe_op op_pow pe_int pe_int)) (pg_sub (pv 5) (pv 7) set_list)))
      pss_nil))))
      (pss_cons (ps_set (i := 8) sc_law_draws.nd rfl (Or.inl rfl) (pe_lst pa_nil))
      (pss_cons (ps_for PassesOwn.never rfl (pi_range1 rfl T.n_range (pa_cons (pv 2) pa_nil)) (pg_name (i := 6) sc_law_draws.nd rfl (Or.inl rfl))
      (pss_one (ps_if (PW.pt (pw_and (pt_cmpR op_eq (pv 3) pe_int (nomark _)) (pw_and1 (pt_cmpR op_gt (pv 4) pe_int (nomark _)))))
      (pss_cons (ps_expr (pe_bmK K PySem.F.plainAttrs_list PySem.F.slot_list_append PySem.F.type_list_append mt_append (pv 8) (pa_cons (pe_op op_mod (pv 4) pe_int) pa_nil)))
      (pss_one (ps_set (i := 4) sc_law_draws.nd rfl (Or.inl rfl) (pe_op op_fdiv (pv 4) pe_int))))
      (pss_one (ps_expr (pe_bmK K PySem.F.plainAttrs_list PySem.F.slot_list_append PySem.F.type_list_append mt_append (pv 8) (pa_cons (pe_call (ok_law_mixed T) (hr.mono (by decide)) rfl T.m_law_mixed T.f_law_mixed.kp T.b_law_mixed .nil pass0 (pa_cons (pe_ix (ix_listK K) (pv 5) (pv 6) (fun _ _ => rfl)) (pa_cons (pv 6) pa_nil))) pa_nil)))))))
      (pss_one (ps_ret (pv 8)))))))), ?_⟩
    -- total = sum([cell % 10 ** 60 for cell in script[start:]]) % 10 ** 60
    refine ⟨_, rfl, _, rfl, (st : Int), rfl, a, IL ns, rfl, hS, fun l1 hl1 => ?_⟩
    have s1 : Same H (upd H l1 (.lst (cutV (IL ns) (some (st : Int)) none))) := same_at hl1
    obtain ⟨ms, hms, hml⟩ : ∃ ms : List Int, cutV (IL ns) (some (st : Int)) none = IL ms ∧ ms.length ≤ 63 := by
      refine ⟨(ns.drop (HT.sIx (IL ns).length 0 (some (st : Int)))).take (HT.sIx (IL ns).length (IL ns).length none - HT.sIx (IL ns).length 0 (some (st : Int))), ?_, ?_⟩
      · unfold cutV
        rw [il_take, il_drop]
      · rw [List.length_take, List.length_drop]
        omega
    refine ⟨l1, rfl, ⟨_, SqL.of upd_same⟩, lc_list (K := K) (a := l1) (xs := cutV (IL ns) (some (st : Int)) none) (fun i ys H2 => H2 = upd H l1 (.lst (cutV (IL ns) (some (st : Int)) none)) ∧ ∃ rs : List Int, ys = IL rs ∧ rs.length = i ∧ i ≤ ms.length) ⟨rfl, [], rfl, rfl, Nat.zero_le _⟩ (by rw [hms, il_length]; exact small60' (by omega))
      (fun i ys H2 _ ⟨e, rs, ey, el, _⟩ => ⟨e ▸ SqL.of upd_same, by rw [ey, il_length]; omega⟩) ?_ ?_⟩
    · rintro i x ys H2 hi ⟨rfl, rs, rfl, el, hil⟩ S hSS
      rw [hms] at hi
      obtain ⟨z, rfl, hz⟩ := il_get hi
      have hlt := (List.getElem?_eq_some_iff.mp hz).1
      refine nmY ?_
      refine ⟨_, rfl, _, _, rfl, rfl, ⟨by decide, by decide, by decide⟩, _, _, rfl, rfl, (by show (0 : Int) < 10 ^ 60; decide), ?_⟩
      refine hSS _ _ ⟨rfl, rs ++ [z % 10 ^ 60], ?_, ?_, hlt⟩
      · exact (il_snoc _ _).symm
      · rw [List.length_append, el]; rfl
    · rintro ys H2 ⟨rfl, rs, rfl, el, _⟩ l2 hl2
      have s2 := same_new (o := .lst (IL rs)) s1 hl2
      refine ⟨l2, rs, rfl, SqL.of upd_same, _, _, rfl, rfl, ⟨by decide, by decide, by decide⟩, _, _, rfl, rfl, (by show (0 : Int) < 10 ^ 60; decide), ?_⟩
      have t0 : 0 ≤ rs.sum % (10 : Int) ^ ((60 : Int).toNat) := Int.emod_nonneg _ (by decide)
      -- folded = [7 * k + 5 for k in range(count)]
      refine ⟨_, rfl, (c : Int), rfl, by omega, by omega, lc_range (lo := 0) (n := ((c : Int)).toNat) (fun i ys H3 => H3 = upd (upd H l1 (.lst (cutV (IL ns) (some (st : Int)) none))) l2 (.lst (IL rs)) ∧ ∃ fs : List Int, ys = IL fs ∧ fs.length = i) ⟨rfl, [], rfl, rfl⟩ (small60' (by omega))
        (fun i ys H3 _ ⟨_, fs, e, el⟩ => by rw [e, il_length]; omega) ?_ ?_⟩
      · rintro i ys H3 hi ⟨rfl, fs, rfl, el2⟩ S hSS
        refine nmY ?_
        refine ⟨_, rfl, _, _, rfl, rfl, .inl ⟨by decide, by decide⟩, _, _, rfl, rfl, ?_⟩
        refine hSS _ _ ⟨rfl, fs ++ [7 * (0 + (i : Int)) + 5], ?_, ?_⟩
        · exact (il_snoc _ _).symm
        · rw [List.length_append, el2]; rfl
      · rintro ys H3 ⟨rfl, fs, rfl, el2⟩ l3 hl3
        have s3 := same_new (o := .lst (IL fs)) s2 hl3
        have hl30 : H l3 = none := s2.free hl3
        -- for k in range(start, len(script))
        refine ⟨_, rfl, _, rfl, a, _, rfl, .inl (s3.seq hS), (st : Int), ((IL ns).length : Int), rfl, ⟨by omega, by omega, by omega, by rw [il_length]; omega⟩, ?_⟩
        refine for_range (lo := (st : Int)) (n := (((IL ns).length : Int) - (st : Int)).toNat) (fun j σ H4 => ∃ (fs : List Int) (v6 v7 : Option V), σ = [some (.ref a), some (.int st), some (.int c), some (.int way), some (.int (rs.sum % (10 : Int) ^ ((60 : Int).toNat))), some (.ref l3), v6, v7, none] ∧ Same H H4 ∧ H4 l3 = some (.lst (IL fs)) ∧ fs.length = c)
          ⟨fs, none, none, rfl, s3, upd_same, by rw [el2]; simp⟩ ?_ ?_
        · rintro j σ H4 hj ⟨gs, v6, v7, rfl, s4, h4, eg⟩
          rw [il_length] at hj
          refine ⟨_, rfl, _, rfl, _, _, rfl, _, _, rfl, rfl, ?_, ?_⟩
          · show (0 : Int) < if (c : Int) > 1 then (c : Int) else 1
            split <;> omega
          · refine ⟨_, rfl, _, _, rfl, rfl, _, rfl, ?_⟩
            refine itd2 (fun hc0 => ?_) (fun hc0 => ?_)
            · have hmax : (if (c : Int) > 1 then (c : Int) else 1) = (c : Int) := by split <;> omega
              have at0 : 0 ≤ ((st : Int) + (j : Int)) % (c : Int) := Int.emod_nonneg _ (by omega)
              have at1 : ((st : Int) + (j : Int)) % (c : Int) < (c : Int) := Int.emod_lt_of_pos _ hc0
              rw [hmax]
              generalize hat : ((st : Int) + (j : Int)) % (c : Int) = at' at *
              obtain ⟨f, hf⟩ : ∃ f, gs[at'.toNat]? = some f := ⟨_, List.getElem?_eq_getElem (by omega)⟩
              obtain ⟨z, hz⟩ : ∃ z, ns[st + j]? = some z := ⟨_, List.getElem?_eq_getElem (by omega)⟩
              refine ⟨_, rfl, _, rfl, l3, _, _, _, rfl, rfl, SqL.of h4, atI_of (n := at'.toNat) (by omega) (by rw [List.getElem?_map, hf]; rfl), _, _, rfl, rfl, .inr ⟨by decide, by decide⟩, _, rfl, _, rfl, a, _, _, _, rfl, rfl, s4.seq hS, atI_of (n := st + j) (by omega) (by rw [List.getElem?_map, hz]; rfl), _, _, rfl, rfl, _, _, rfl, rfl, ⟨by decide, by decide, by decide⟩, _, _, rfl, rfl, (by show (0 : Int) < 10 ^ 60; decide), ?_⟩
              refine ⟨_, rfl, _, rfl, l3, _, _, at'.toNat, rfl, rfl, h4, ?_, ?_⟩
              · rw [hat]
                unfold ixN
                rw [if_pos at0, if_pos (by rw [il_length]; omega)]
              · refine ⟨gs.set at'.toNat ((f * 31 + z) % (10 : Int) ^ ((60 : Int).toNat)), _, _, rfl, same_upd hl30 s4, ?_, by rw [List.length_set]; exact eg⟩
                rw [upd_same, il_set]
            · exact ⟨gs, _, _, rfl, s4, h4, eg⟩
        · rintro σ H4 ⟨gs, v6, v7, rfl, s4, h4, eg⟩
          -- told = []
          refine ⟨Nat.zero_le _, fun l5 hl5 => ?_⟩
          have hl50 : H l5 = none := s4.free hl5
          have n35 : l3 ≠ l5 := ne_of_none h4 hl5
          refine ⟨_, rfl, (c : Int), rfl, by omega, by omega, for_range (lo := 0) (n := ((c : Int)).toNat) (fun j σ H6 => ∃ (tot : Int) (ds : List Int) (v6 v7 : Option V), σ = [some (.ref a), some (.int st), some (.int c), some (.int way), some (.int tot), some (.ref l3), v6, v7, some (.ref l5)] ∧ Same H H6 ∧ H6 l3 = some (.lst (IL gs)) ∧ H6 l5 = some (.lst (IL ds)) ∧ ds.length = j ∧ (∀ z ∈ ds, 0 ≤ z) ∧ 0 ≤ tot)
            ⟨_, [], _, _, rfl, same_new s4 hl5, by rw [upd_ne n35]; exact h4, upd_same, rfl, fun z hz => (by cases hz), t0⟩ ?_ ?_⟩
          · rintro j σ H6 hj ⟨tot, ds, w6, w7, rfl, s6, h63, h65, edl, hds, htot⟩
            have jc : j < c := by omega
            have app : ∀ r : Int, (upd H6 l5 (.lst (IL ds ++ [.int r]))) l5 = some (.lst (IL (ds ++ [r]))) := fun r => by rw [upd_same, il_snoc]
            have dlen : (IL ds).length < sizeLine := by rw [il_length]; exact small60' (by omega)
            obtain ⟨f, hf⟩ : ∃ f, gs[j]? = some f := ⟨_, List.getElem?_eq_getElem (by omega)⟩
            refine ⟨_, rfl, rfl, _, rfl, ?_⟩
            refine itd2 (fun hw => ?_) (fun hw => ?_)
            · refine ⟨_, rfl, _, _, rfl, rfl, _, rfl, ?_⟩
              refine itd2 (fun htp => ?_) (fun htp => ?_)
              · refine ⟨_, rfl, .inl ⟨rfl, _, SqL.of h65⟩, _, rfl, _, _, rfl, rfl, (by show (0 : Int) < 210; decide), l5, _, _, rfl, rfl, h65, dlen, ?_⟩
                refine ⟨_, rfl, _, _, rfl, rfl, ⟨by decide, by decide⟩, ?_⟩
                refine ⟨_, ds ++ [tot % 210], _, _, rfl, same_upd hl50 s6, by rw [upd_ne n35]; exact h63, app _, by rw [List.length_append, edl]; rfl, all_snoc hds (Int.emod_nonneg _ (by decide)), ?_⟩
                omega
              · refine ⟨_, rfl, .inl ⟨rfl, _, SqL.of h65⟩, _, rfl, _, rfl, l3, _, _, _, rfl, rfl, SqL.of h63, atI_of (n := j) (by omega) (by rw [List.getElem?_map, hf]; rfl), _, rfl, _, _, rfl, fun r r0 r1 => ?_⟩
                refine ⟨l5, _, _, rfl, rfl, h65, dlen, ?_⟩
                exact ⟨_, ds ++ [r], _, _, rfl, same_upd hl50 s6, by rw [upd_ne n35]; exact h63, app _, by rw [List.length_append, edl]; rfl, all_snoc hds r0, htot⟩
            · refine ⟨_, rfl, .inl ⟨rfl, _, SqL.of h65⟩, _, rfl, _, rfl, l3, _, _, _, rfl, rfl, SqL.of h63, atI_of (n := j) (by omega) (by rw [List.getElem?_map, hf]; rfl), _, rfl, _, _, rfl, fun r r0 r1 => ?_⟩
              refine ⟨l5, _, _, rfl, rfl, h65, dlen, ?_⟩
              exact ⟨_, ds ++ [r], _, _, rfl, same_upd hl50 s6, by rw [upd_ne n35]; exact h63, app _, by rw [List.length_append, edl]; rfl, all_snoc hds r0, htot⟩
          · rintro σ H6 ⟨tot, ds, w6, w7, rfl, s6, h63, h65, edl, hds, htot⟩
            exact ⟨_, rfl, q l5 ds H6 s6 hl50 h65 (by omega) hds⟩
end
end My
namespace My
open PySem L2 PyProof.Rows
set_option maxHeartbeats 4000000
theorem PairsV.good {H : Hp} {xs : List V} {ps : List (Int × Int)} {v : V} {p : Int × Int} {n : Int} (h : ∀ p ∈ ps, 0 ≤ p.1 ∧ p.1 < n ∧ 0 ≤ p.2 ∧ p.2 < n) (hp : 0 ≤ p.1 ∧ p.1 < n ∧ 0 ≤ p.2 ∧ p.2 < n) : ∀ q ∈ ps ++ [p], 0 ≤ q.1 ∧ q.1 < n ∧ 0 ≤ q.2 ∧ q.2 < n := fun q hq => by
  rcases List.mem_append.mp hq with z | z
  · exact h q z
  · rw [List.mem_singleton.mp z]; exact hp
/-- as many ties as draws, their ends places -/
def sp_law_ties (K : PySem.W.Frag) : Sp := fun vs H Q _ => ∃ (a : Addr) (ds : List Int) (n : Int) (hang : Bool), vs = [.ref a, .int n, .bl hang] ∧ SqL K H a (IL ds) ∧ ds.length ≤ 100 ∧ (∀ z ∈ ds, 0 ≤ z) ∧ 1 ≤ n ∧ n ≤ 1000 ∧
  ∀ (l : Addr) (xs : List V) (ps : List (Int × Int)) (H' : Hp), Same H H' → H l = none → H' l = some (.lst xs) → PairsV H' xs ps → ps.length = ds.length → (∀ p ∈ ps, 0 ≤ p.1 ∧ p.1 < n ∧ 0 ≤ p.2 ∧ p.2 < n) → Q (.ref l) H'
section
variable {P : Program} {w : World} {K : PySem.W.Frag} {mg : Str → Option Value} {base : Heap} {t : Adr}
theorem sc_law_ties : FnScope ["draws", "places", "hang", "ties", "k", "one", "other", "ends", "turn"] ["draws", "places", "hang"] (defScope s_law_ties) := ⟨rfl, rfl, rfl, by decide +kernel, rfl, by decide +kernel, by decide +kernel⟩
theorem ok_law_ties (T : Txt K mg t) : FnOk P w K mg base CX0 1 t.a_law_ties t.d_law_ties ["draws", "places", "hang"] (sp_law_ties K) := by
  refine T.f_law_ties.ok sc_law_ties (fun vs H Q E h => ?_) (fun cdv A outer s H vs Q E hr h => ?_)
  · obtain ⟨a, ds, n, hang, rfl, _⟩ := h
    rfl
  · obtain ⟨a, ds, n, hang, rfl, hS, hdl, hds, n1, n2, q⟩ := h
    refine ⟨_, (pss_cons (ps_set (i := 3) sc_law_ties.nd rfl (Or.inl rfl) (pe_lst pa_nil))
      (pss_cons (ps_for PassesOwn.never rfl (pi_range1 rfl T.n_range (pa_cons (pe_callB (call_lenK K) (by rfl) T.n_len Boot.«len» (pa_cons (pv 0) pa_nil)) pa_nil)) (pg_name (i := 4) sc_law_ties.nd rfl (Or.inl rfl))
      (pss_cons (ps_set (i := 5) sc_law_ties.nd rfl (Or.inl rfl) (pe_op op_mod (pe_ix (ix_listK K) (pv 0) (pv 4) (fun _ _ => rfl)) (pv 1)))
      (pss_cons (ps_set (i := 6) sc_law_ties.nd rfl (Or.inl rfl) (pe_op op_mod (pe_op op_fdiv (pe_ix (ix_listK K) (pv 0) (pv 4) (fun _ _ => rfl)) (pv 1)) (pv 1)))
      (pss_cons (ps_if (PW.pt (pw_and (pt_val (pv 2)) (pw_and1 (pt_cmpR op_lt (pv 4) (pe_op op_sub (pv 1) pe_int) (nomark _)))))
      (pss_cons (ps_set (i := 7) sc_law_ties.nd rfl (Or.inl rfl) (pe_tup (pa_cons (pe_op op_mod (pe_ix (ix_listK K) (pv 0) (pv 4) (fun _ _ => rfl)) (pe_op op_add (pv 4) pe_int)) (pa_cons (pe_op op_add (pv 4) pe_int) pa_nil))))
      (pss_cons (ps_set (i := 5) sc_law_ties.nd rfl (Or.inl rfl) (pe_ix (ix_tupK K) (pv 7) (pe_op op_mod (pe_op op_fdiv (pe_ix (ix_listK K) (pv 0) (pv 4) (fun _ _ => rfl)) pe_int) pe_int) (fun _ _ => rfl)))
      (pss_one (ps_set (i := 6) sc_law_ties.nd rfl (Or.inl rfl) (pe_ix (ix_tupK K) (pv 7) (pe_op op_sub pe_int (pe_op op_mod (pe_op op_fdiv (pe_ix (ix_listK K) (pv 0) (pv 4) (fun _ _ => rfl)) pe_int) pe_int)) (fun _ _ => rfl))))))
      pss_nil)
      (pss_one (ps_expr (pe_bmK K PySem.F.plainAttrs_list PySem.F.slot_list_append PySem.F.type_list_append mt_append (pv 3) (pa_cons (pe_tup (pa_cons (pv 5) (pa_cons (pv 6) pa_nil))) pa_nil))))))))
      (pss_cons (ps_set (i := 8) sc_law_ties.nd rfl (Or.inl rfl) (pe_op op_mod (pe_callB (call_sumK K rfl) (by rfl) T.n_sum Boot.«sum» (pa_cons (pv 0) pa_nil)) (pe_callB (call_max2 rfl) (by rfl) T.n_max Boot.«max» (pa_cons pe_int (pa_cons (pe_callB (call_lenK K) (by rfl) T.n_len Boot.«len» (pa_cons (pv 3) pa_nil)) pa_nil)))))
      (pss_one (ps_ret (pe_op op_cat (pe_slice (sl_listK K) (pv 3) (po_some (pv 8)) po_none) (pe_slice (sl_listK K) (pv 3) po_none (po_some (pv 8))))))))), ?_⟩
    refine ⟨Nat.zero_le _, fun l hl => ?_⟩
    refine ⟨_, rfl, a, _, rfl, .inl ((same_at hl).seq hS), _, rfl, by omega, by rw [il_length]; omega, for_range (lo := 0) (n := ((IL ds).length : Int).toNat) (fun i σ H2 => ∃ (xs : List V) (ps : List (Int × Int)) (v4 v5 v6 v7 : Option V), σ = [some (.ref a), some (.int n), some (.bl hang), some (.ref l), v4, v5, v6, v7, none] ∧ Same H H2 ∧ H2 l = some (.lst xs) ∧ PairsV H2 xs ps ∧ ps.length = i ∧ ∀ p ∈ ps, 0 ≤ p.1 ∧ p.1 < n ∧ 0 ≤ p.2 ∧ p.2 < n)
      ⟨[], [], none, none, none, none, rfl, same_at hl, upd_same, PairsV.nil, rfl, fun p hp => (by cases hp)⟩ ?_ ?_⟩
    · rintro i σ H2 hi ⟨xs, ps, v4, v5, v6, v7, rfl, s2, h2, hP, hlp, hb⟩
      have hi' : i < ds.length := by rw [il_length] at hi; omega
      obtain ⟨d, hd⟩ : ∃ d, ds[i]? = some d := ⟨_, List.getElem?_eq_getElem hi'⟩
      have d0 : 0 ≤ d := hds d (List.mem_of_getElem? hd)
      have iD : atI (IL ds) (0 + (i : Int)) = some (.int d) := atI_of (n := i) (by omega) (il_at hd)
      have xl : xs.length < sizeLine := small60' (by rw [hP.1]; omega)
      -- the tie that is put behind
      have put : ∀ (x y : Int) (H3 : Hp) (r : Addr), Same H2 H3 → H3 r = none → 0 ≤ x → x < n → 0 ≤ y → y < n → ∀ u5 u6 u7 : Option V, ∃ (xs' : List V) (ps' : List (Int × Int)) (v4 v5 v6 v7 : Option V),
          ([some (.ref a), some (.int n), some (.bl hang), some (.ref l), some (.int (0 + (i : Int))), u5, u6, u7, none] : List (Option V)) = [some (.ref a), some (.int n), some (.bl hang), some (.ref l), v4, v5, v6, v7, none] ∧
          Same H (upd (upd H3 r (.tup [.int x, .int y])) l (.lst (xs ++ [.ref r]))) ∧ (upd (upd H3 r (.tup [.int x, .int y])) l (.lst (xs ++ [.ref r]))) l = some (.lst xs') ∧ PairsV (upd (upd H3 r (.tup [.int x, .int y])) l (.lst (xs ++ [.ref r]))) xs' ps' ∧ ps'.length = i + 1 ∧ ∀ p ∈ ps', 0 ≤ p.1 ∧ p.1 < n ∧ 0 ≤ p.2 ∧ p.2 < n := by
        intro x y H3 r s3 hr x0 x1 y0 y1 u5 u6 u7
        have h3 := s3 _ _ h2
        have s4 := same_new (o := .tup [.int x, .int y]) s3 hr
        have nlr : l ≠ r := ne_of_none h3 hr
        refine ⟨xs ++ [.ref r], ps ++ [(x, y)], _, _, _, _, rfl, same_upd hl (s2.trans s4), upd_same, ?_, by rw [List.length_append, hlp]; rfl, PairsV.good (H := H) (xs := []) (v := .non) hb ⟨x0, x1, y0, y1⟩⟩
        have hP4 : PairsV (upd H3 r (.tup [.int x, .int y])) (xs ++ [.ref r]) (ps ++ [(x, y)]) := (hP.same s4).snoc ⟨r, rfl, upd_same⟩
        refine ⟨hP4.1, fun j p e => ?_⟩
        obtain ⟨v, e1, tt, e2, e3⟩ := hP4.2 j p e
        exact ⟨v, e1, tt, e2, by rw [upd_ne (ne_of e3 (s4 _ _ h2) (fun z => nomatch z))]; exact e3⟩
      refine ⟨_, rfl, _, rfl, a, _, _, _, rfl, rfl, s2.seq hS, iD, _, rfl, _, _, rfl, rfl, (by show 0 < n; omega), ?_⟩
      refine ⟨_, rfl, _, rfl, a, _, _, _, rfl, rfl, s2.seq hS, iD, _, rfl, _, _, rfl, rfl, ⟨by show 0 < n; omega, by show n < 1073741824; omega⟩, _, rfl, _, _, rfl, rfl, (by show 0 < n; omega), ?_⟩
      have o0 : 0 ≤ d % n := Int.emod_nonneg _ (by omega)
      have o1 : d % n < n := Int.emod_lt_of_pos _ (by omega)
      have q0 : 0 ≤ d / n % n := Int.emod_nonneg _ (by omega)
      have q1 : d / n % n < n := Int.emod_lt_of_pos _ (by omega)
      refine ⟨_, rfl, _, rfl, ?_⟩
      refine itb (fun hh => ?_) (fun hh => ?_)
      · refine ⟨_, rfl, _, rfl, _, _, rfl, rfl, _, _, rfl, rfl, _, rfl, ?_⟩
        refine itd2 (fun hk => ?_) (fun hk => ?_)
        · have k1 : (0 : Int) < 0 + (i : Int) + 1 := by omega
          have r0 : 0 ≤ d % (0 + (i : Int) + 1) := Int.emod_nonneg _ (by omega)
          have r1 : d % (0 + (i : Int) + 1) < 0 + (i : Int) + 1 := Int.emod_lt_of_pos _ k1
          refine ⟨_, rfl, _, rfl, a, _, _, _, rfl, rfl, s2.seq hS, iD, _, rfl, _, _, rfl, rfl, _, _, rfl, rfl, k1, _, rfl, _, _, rfl, rfl, (by show 2 ≤ sizeLine; decide), fun e he => ?_⟩
          have se := same_at (o := .tup [.int (d % (0 + (i : Int) + 1)), .int (0 + (i : Int) + 1)]) he
          have m0 : 0 ≤ d / 105 % 2 := Int.emod_nonneg _ (by decide)
          have m1 : d / 105 % 2 < 2 := Int.emod_lt_of_pos _ (by decide)
          obtain ⟨x, hx, x0, x1⟩ : ∃ x : Int, atI ([.int (d % (0 + (i : Int) + 1)), .int (0 + (i : Int) + 1)] : List V) (d / 105 % 2) = some (.int x) ∧ 0 ≤ x ∧ x < n := by
            rcases (by omega : d / 105 % 2 = 0 ∨ d / 105 % 2 = 1) with e | e
            · rw [e]; exact ⟨_, rfl, r0, by omega⟩
            · rw [e]; exact ⟨_, rfl, by omega, by omega⟩
          obtain ⟨y, hy, y0, y1⟩ : ∃ y : Int, atI ([.int (d % (0 + (i : Int) + 1)), .int (0 + (i : Int) + 1)] : List V) (1 - d / 105 % 2) = some (.int y) ∧ 0 ≤ y ∧ y < n := by
            rcases (by omega : d / 105 % 2 = 0 ∨ d / 105 % 2 = 1) with e | e
            · rw [e]; exact ⟨_, rfl, by omega, by omega⟩
            · rw [e]; exact ⟨_, rfl, r0, by omega⟩
          have c2 : CDiv d 105 := ⟨by decide, by decide⟩
          refine ⟨_, rfl, _, rfl, _, rfl, a, _, _, _, rfl, rfl, (s2.trans se).seq hS, iD, _, _, rfl, rfl, c2, _, _, rfl, rfl, (by show (0 : Int) < 2; decide), e, _, _, _, rfl, rfl, SqT.of upd_same, hx, ?_⟩
          refine ⟨_, rfl, _, rfl, _, rfl, a, _, _, _, rfl, rfl, (s2.trans se).seq hS, iD, _, _, rfl, rfl, c2, _, _, rfl, rfl, (by show (0 : Int) < 2; decide), _, _, rfl, rfl, e, _, _, _, rfl, rfl, SqT.of upd_same, hy, ?_⟩
          refine ⟨_, rfl, .inl ⟨rfl, _, SqL.of (se _ _ h2)⟩, _, rfl, _, rfl, (by show 2 ≤ sizeLine; decide), fun r hr => ?_⟩
          exact ⟨l, xs, _, rfl, rfl, (same_new se hr) _ _ h2, xl, put x y _ r se hr x0 x1 y0 y1 _ _ _⟩
        · refine ⟨_, rfl, .inl ⟨rfl, _, SqL.of h2⟩, _, rfl, _, rfl, (by show 2 ≤ sizeLine; decide), fun r hr => ?_⟩
          exact ⟨l, xs, _, rfl, rfl, (same_at hr) _ _ h2, xl, put _ _ _ r (Same.refl _) hr o0 o1 q0 q1 _ _ _⟩
      · refine ⟨_, rfl, .inl ⟨rfl, _, SqL.of h2⟩, _, rfl, _, rfl, (by show 2 ≤ sizeLine; decide), fun r hr => ?_⟩
        exact ⟨l, xs, _, rfl, rfl, (same_at hr) _ _ h2, xl, put _ _ _ r (Same.refl _) hr o0 o1 q0 q1 _ _ _⟩
    · rintro σ H2 ⟨xs, ps, v4, v5, v6, v7, rfl, s2, h2, hP, hlp, hb⟩
      have hlp : ps.length = ds.length := by rw [hlp, il_length]; simp
      refine ⟨_, rfl, a, ds, rfl, s2.seq hS, _, rfl, l, xs, rfl, .inl (SqL.of h2), _, _, rfl, _, _, rfl, rfl, ?_, ?_⟩
      · show (0 : Int) < if (xs.length : Int) > 1 then (xs.length : Int) else 1
        split <;> omega
      · generalize hT : ds.sum % (if (xs.length : Int) > 1 then (xs.length : Int) else 1) = T0
        have T1 : 0 ≤ T0 := by rw [← hT]; exact Int.emod_nonneg _ (by split <;> omega)
        have T2 : T0.toNat ≤ xs.length := by
          have : T0 < (if (xs.length : Int) > 1 then (xs.length : Int) else 1) := by rw [← hT]; exact Int.emod_lt_of_pos _ (by split <;> omega)
          split at this <;> omega
        have e1 : cutV xs (some T0) none = xs.drop T0.toNat := cut_from T1 T2
        have e2 : cutV xs none (some T0) = xs.take T0.toNat := cut_to T1 T2
        refine ⟨_, rfl, _, rfl, T0, congrArg V.int hT, l, xs, rfl, SqL.of h2, fun r1 hr1 => ?_⟩
        have s3 := same_at (o := .lst (cutV xs (some T0) none)) hr1
        refine ⟨_, rfl, _, rfl, T0, congrArg V.int hT, l, xs, rfl, SqL.of (s3 _ _ h2), fun r2 hr2 => ?_⟩
        have s4 := same_new (o := .lst (cutV xs none (some T0))) s3 hr2
        have n12 : r1 ≠ r2 := ne_of_none upd_same hr2
        refine ⟨r1, r2, _, _, rfl, rfl, by rw [upd_ne n12, upd_same], upd_same, ?_, fun r hr => ?_⟩
        · rw [e1, e2, List.length_drop, List.length_take]
          exact small60 (by rw [hP.1]; omega)
        · have s5 := same_new (o := .lst (cutV xs (some T0) none ++ cutV xs none (some T0))) s4 hr
          refine q r _ (ps.drop T0.toNat ++ ps.take T0.toNat) _ (s2.trans s5) ((s2.trans s4).free hr) upd_same ?_ ?_ fun p hp => ?_
          · have z := ((hP.same s5).drop T0.toNat).app ((hP.same s5).take T0.toNat)
            rw [← e1, ← e2] at z
            exact z
          · rw [List.length_append, List.length_drop, List.length_take, ← hP.1]
            have := hP.1
            omega
          · rcases List.mem_append.mp hp with z | z
            · exact hb p (List.mem_of_mem_drop z)
            · exact hb p (List.mem_of_mem_take z)
end
end My
namespace My
open PySem L2 PyProof.Rows
set_option maxHeartbeats 4000000
/-- a web's places and ties -/
def sp_law_web (K : PySem.W.Frag) : Sp := fun vs H Q _ => ∃ (a : Addr) (ns : List Int) (most count : Int), vs = [.ref a, .int most, .int count] ∧ SqL K H a (IL ns) ∧ ns.length ≤ 63 ∧ 1 ≤ most ∧ most ≤ 14 ∧ 0 ≤ count ∧ count ≤ 30 ∧
  ∀ (r l : Addr) (n : Int) (xs : List V) (ps : List (Int × Int)) (H' : Hp), Same H H' → H' r = some (.tup [.int n, .ref l]) → H l = none → H' l = some (.lst xs) → PairsV H' xs ps → GoodW n ps → n ≤ most → (ps.length : Int) ≤ count → Q (.ref r) H'
section
variable {P : Program} {w : World} {K : PySem.W.Frag} {mg : Str → Option Value} {base : Heap} {t : Adr}
theorem sc_law_web : FnScope ["script", "most", "count", "head", "places", "many", "draws"] ["script", "most", "count"] (defScope s_law_web) := ⟨rfl, rfl, rfl, by decide +kernel, rfl, by decide +kernel, by decide +kernel⟩
theorem ok_law_web (T : Txt K mg t) : FnOk P w K mg base CX0 3 t.a_law_web t.d_law_web ["script", "most", "count"] (sp_law_web K) := by
  refine T.f_law_web.ok sc_law_web (fun vs H Q E h => ?_) (fun cdv A outer s H vs Q E hr h => ?_)
  · obtain ⟨a, ns, most, count, rfl, _⟩ := h
    rfl
  · obtain ⟨a, ns, most, count, rfl, hS, hn, m1, m2, c1, c2, q⟩ := h
    refine ⟨_, (pss_cons (ps_set (i := 3) sc_law_web.nd rfl (Or.inl rfl) (pe_call (ok_law_cell T) (hr.mono (by decide)) rfl T.m_law_cell T.f_law_cell.kp T.b_law_cell .nil pass0 (pa_cons (pv 0) (pa_cons pe_int pa_nil))))
      (pss_cons (ps_set (i := 4) sc_law_web.nd rfl (Or.inl rfl) (pe_op op_add pe_int (pe_op op_mod (pv 3) (pv 1))))
      (pss_cons (ps_set (i := 5) sc_law_web.nd rfl (Or.inl rfl) (pe_callB (call_min2 rfl) (by rfl) T.n_min Boot.«min» (pa_cons (pv 2) (pa_cons (pe_op op_add (pe_op op_mod (pe_op op_fdiv (pv 3) (pv 1)) (pe_op op_add (pv 2) pe_int)) (pe_op op_mul (pe_op op_mod (pe_op op_fdiv (pv 3) pe_int) pe_int) (pv 4))) pa_nil))))
      (pss_cons (ps_set (i := 6) sc_law_web.nd rfl (Or.inl rfl) (pe_call (ok_law_draws T) (hr.mono (by decide)) rfl T.m_law_draws T.f_law_draws.kp T.b_law_draws .nil pass0 (pa_cons (pv 0) (pa_cons pe_int (pa_cons (pv 5) (pa_cons (pe_op op_mod (pe_op op_fdiv (pv 3) pe_int) pe_int) pa_nil))))))
      (pss_one (ps_ret (pe_tup (pa_cons (pv 4) (pa_cons (pe_call (ok_law_ties T) (hr.mono (by decide)) rfl T.m_law_ties T.f_law_ties.kp T.b_law_ties .nil pass0 (pa_cons (pv 6) (pa_cons (pv 4) (pa_cons (pe_cmpR op_gt (pe_op op_mod (pe_op op_fdiv (pv 3) pe_int) pe_int) pe_int (nomark _)) pa_nil)))) pa_nil))))))))), ?_⟩
    refine ⟨_, rfl, a, ns, 0, rfl, hS, by decide, fun hd h0 h1 => ?_⟩
    have n0 : 0 ≤ hd % most := Int.emod_nonneg _ (by omega)
    have n1 : hd % most < most := Int.emod_lt_of_pos _ (by omega)
    refine ⟨_, rfl, _, rfl, _, _, rfl, rfl, (by show 0 < most; omega), _, _, rfl, rfl, ?_⟩
    refine ⟨_, rfl, _, rfl, _, rfl, _, _, rfl, rfl, ⟨by show 0 < most; omega, by show most < 1073741824; omega⟩, _, rfl, _, _, rfl, rfl, _, _, rfl, rfl, (by show 0 < count + 1; omega), _, rfl, _, _, rfl, rfl, ⟨by decide, by decide⟩, _, _, rfl, rfl, (by show (0 : Int) < 2; decide), _, rfl, _, _, rfl, rfl, .inr ⟨by show -(2 ^ 64) < 1 + hd % most; omega, by show 1 + hd % most < 2 ^ 64; omega⟩, _, _, rfl, rfl, _, _, rfl, ?_⟩
    have e0 : 0 ≤ hd / most % (count + 1) := Int.emod_nonneg _ (by omega)
    have f0 : 0 ≤ hd / 97 % 2 := Int.emod_nonneg _ (by decide)
    have g0 : 0 ≤ hd / 97 % 2 * (1 + hd % most) := Int.mul_nonneg f0 (by omega)
    obtain ⟨c, hc⟩ : ∃ c : Nat, (if hd / most % (count + 1) + hd / 97 % 2 * (1 + hd % most) < count then hd / most % (count + 1) + hd / 97 % 2 * (1 + hd % most) else count) = (c : Int) :=
      ⟨(if hd / most % (count + 1) + hd / 97 % 2 * (1 + hd % most) < count then hd / most % (count + 1) + hd / 97 % 2 * (1 + hd % most) else count).toNat, by split <;> omega⟩
    have k1 : (c : Int) ≤ count := by rw [← hc]; split <;> omega
    refine ⟨_, rfl, _, rfl, _, rfl, _, _, rfl, rfl, ⟨by decide, by decide⟩, _, _, rfl, rfl, (by show (0 : Int) < 2; decide), a, ns, 1, c, _, congrArg (fun z : Int => [V.ref a, V.int 1, V.int z, V.int (hd / 194 % 2)]) hc, hS, hn, by decide, by omega, fun l ds H1 s1 hl0 hl1 edl hds => ?_⟩
    refine ⟨_, rfl, _, rfl, _, rfl, _, rfl, _, _, rfl, rfl, ⟨by decide, by decide⟩, _, _, rfl, rfl, (by show (0 : Int) < 3; decide), _, _, rfl, rfl, l, ds, _, _, rfl, SqL.of hl1, by omega, hds, (by show 1 ≤ 1 + hd % most; omega), (by show 1 + hd % most ≤ 1000; omega), fun l2 xs ps H2 s2 hl20 hl21 hP ePl hb => ?_⟩
    refine ⟨(by show 2 ≤ sizeLine; decide), fun r hr => ?_⟩
    have s3 := same_at (o := .tup [.int (1 + hd % most), .ref l2]) hr
    exact q r l2 (1 + hd % most) xs ps _ ((s1.trans s2).trans s3) upd_same (s1.free hl20) (s3 _ _ hl21) (hP.same s3) ⟨by omega, by omega, by omega, hb⟩ (by omega) (by omega)
end
end My
namespace My
open PySem L2 PyProof.Rows
set_option maxHeartbeats 4000000
/-- lengths, drawn -/
def sp_law_lengths (K : PySem.W.Frag) : Sp := fun vs H Q _ => ∃ (a : Addr) (ns : List Int) (c : Nat), vs = [.ref a, .int c] ∧ SqL K H a (IL ns) ∧ ns.length ≤ 63 ∧ c ≤ 30 ∧
  ∀ (r : Addr) (l : List Int) (H' : Hp), Same H H' → H r = none → H' r = some (.lst (IL l)) → l.length = c → Told l → Q (.ref r) H'
section
variable {P : Program} {w : World} {K : PySem.W.Frag} {mg : Str → Option Value} {base : Heap} {t : Adr}
theorem sc_law_lengths : FnScope ["script", "count", "folded", "k", "told", "m"] ["script", "count"] (defScope s_law_lengths) := ⟨rfl, rfl, rfl, by decide +kernel, rfl, by decide +kernel, by decide +kernel⟩
theorem ok_law_lengths (T : Txt K mg t) : FnOk P w K mg base CX0 2 t.a_law_lengths t.d_law_lengths ["script", "count"] (sp_law_lengths K) := by
  refine T.f_law_lengths.ok sc_law_lengths (fun vs H Q E h => ?_) (fun cdv A outer s H vs Q E hr h => ?_)
  · obtain ⟨a, ns, c, rfl, _⟩ := h
    rfl
  · obtain ⟨a, ns, c, rfl, hA, hn63, hc, q⟩ := h
    refine ⟨_, (pss_cons (ps_lc (i := 2) rfl sc_law_lengths.nd rfl rfl (sc0 := defScope s_law_lengths) (N0 := ["script", "count", "folded", "k", "told", "m"]) (N' := ["k"]) (o := 1) (fr := []) ⟨rfl, by decide +kernel, by decide +kernel, by decide +kernel, rfl, by decide +kernel⟩ (pi_range1 rfl T.n_range (pa_cons (pv 1) pa_nil)) (own_name (by decide)) (fun _ _ _ _ => (pg_name (i := 0) (show List.Nodup (["k"] : List Str) by decide +kernel) rfl (Or.inl rfl))) (fun _ _ _ _ => pts_nil) (fun _ _ _ _ => (pe_op op_add (pe_op op_mul pe_int (pv 0)) pe_int)))
      (pss_cons (ps_for PassesOwn.never rfl (pi_range1 rfl T.n_range (pa_cons (pe_callB (call_lenK K) (by rfl) T.n_len Boot.«len» (pa_cons (pv 0) pa_nil)) pa_nil)) (pg_name (i := 3) sc_law_lengths.nd rfl (Or.inl rfl))
      (pss_one (ps_if (pt_cmpR op_gt (pv 1) pe_int (nomark _))
      (pss_one (ps_asg (pe_op op_mod (pe_op op_add (pe_op op_mul (pe_ix (ix_listK K) (pv 2) (pe_op op_mod (pv 3) (pv 1)) (fun _ _ => rfl)) pe_int) (pe_ix (ix_listK K) (pv 0) (pv 3) (fun _ _ => rfl))) (pe_op op_pow pe_int pe_int)) (pg_sub (pv 2) (pe_op op_mod (pv 3) (pv 1)) set_list)))
      pss_nil)))
      (pss_cons (ps_set (i := 4) sc_law_lengths.nd rfl (Or.inl rfl) (pe_lst pa_nil))
      (pss_cons (ps_for PassesOwn.never rfl (pi_range1 rfl T.n_range (pa_cons (pv 1) pa_nil)) (pg_name (i := 3) sc_law_lengths.nd rfl (Or.inl rfl))
      (pss_cons (ps_set (i := 5) sc_law_lengths.nd rfl (Or.inl rfl) (pe_call (ok_law_mixed T) (hr.mono (by decide)) rfl T.m_law_mixed T.f_law_mixed.kp T.b_law_mixed .nil pass0 (pa_cons (pe_ix (ix_listK K) (pv 2) (pv 3) (fun _ _ => rfl)) (pa_cons (pe_op op_add pe_int (pv 3)) pa_nil))))
      (pss_one (ps_expr (pe_bmK K PySem.F.plainAttrs_list PySem.F.slot_list_append PySem.F.type_list_append mt_append (pv 4) (pa_cons (pe_ix (ix_listK K) (pe_lst (pa_cons (pe_op op_mod (pe_op op_fdiv (pv 5) pe_int) pe_int) (pa_cons (pe_op op_sub (pe_op op_mod (pe_op op_fdiv (pv 5) pe_int) pe_int) pe_int) (pa_cons pe_int (pa_cons (pe_op op_sub (pe_op op_mod (pe_ix (ix_listK K) (pv 2) (pv 3) (fun _ _ => rfl)) (pe_op op_mul pe_int (pe_op op_pow pe_int pe_int))) (pe_op op_pow pe_int pe_int)) pa_nil))))) (pe_op op_mod (pv 5) pe_int) (fun _ _ => rfl)) pa_nil))))))
      (pss_one (ps_ret (pv 4))))))), ?_⟩
    have four : 4 ≤ sizeLine := by decide
    refine ⟨_, rfl, (c : Int), rfl, by omega, by omega, lc_range (lo := 0) (n := ((c : Int)).toNat) (fun i ys H3 => H3 = H ∧ ∃ fs : List Int, ys = IL fs ∧ fs.length = i) ⟨rfl, [], rfl, rfl⟩ (small60' (by omega)) (fun i ys H3 _ ⟨_, fs, e, el⟩ => by rw [e, il_length]; omega) ?_ ?_⟩
    · rintro i ys H3 hi ⟨rfl, fs, rfl, el2⟩ S hSS
      refine nmY ?_
      refine ⟨_, rfl, _, _, rfl, rfl, .inl ⟨by decide, by decide⟩, _, _, rfl, rfl, ?_⟩
      refine hSS _ _ ⟨rfl, fs ++ [5 * (0 + (i : Int)) + 2], ?_, ?_⟩
      · exact (il_snoc _ _).symm
      · rw [List.length_append, el2]; rfl
    rintro ys H3 ⟨rfl, fs, rfl, el2⟩ l3 hl3
    have s3 := same_at (o := .lst (IL fs)) hl3
    refine nm ?_
    dsimp only
    refine ⟨_, rfl, a, _, rfl, .inl (s3.seq hA), _, rfl, by omega, by rw [il_length]; omega, for_range (lo := 0) (n := ((IL ns).length : Int).toNat) (fun j σ H4 => ∃ (fs : List Int) (v3 : Option V), σ = [some (.ref a), some (.int c), some (.ref l3), v3, none, none] ∧ Same H3 H4 ∧ H4 l3 = some (.lst (IL fs)) ∧ fs.length = c) ⟨fs, none, rfl, s3, upd_same, by rw [el2]; omega⟩ ?_ ?_⟩
    · rintro j σ H4 hj ⟨gs, v3, rfl, s4, h4, eg⟩
      rw [il_length] at hj
      refine nm ?_
      dsimp only
      refine ⟨_, rfl, _, _, rfl, rfl, _, rfl, ?_⟩
      refine itd2 (fun hc0 => ?_) (fun _ => ⟨gs, _, rfl, s4, h4, eg⟩)
      have at0 : 0 ≤ (0 + (j : Int)) % (c : Int) := Int.emod_nonneg _ (by omega)
      have at1 : (0 + (j : Int)) % (c : Int) < (c : Int) := Int.emod_lt_of_pos _ hc0
      generalize hat : (0 + (j : Int)) % (c : Int) = at' at *
      obtain ⟨f, hf⟩ : ∃ f, gs[at'.toNat]? = some f := ⟨_, List.getElem?_eq_getElem (by omega)⟩
      obtain ⟨z, hz⟩ : ∃ z, ns[j]? = some z := ⟨_, List.getElem?_eq_getElem (by omega)⟩
      refine ⟨_, rfl, _, rfl, _, rfl, _, _, rfl, rfl, hc0, l3, _, _, _, rfl, rfl, SqL.of h4, by rw [hat]; exact atI_of (n := at'.toNat) (by omega) (il_at hf), _, _, rfl, rfl, .inr ⟨by decide, by decide⟩, _, rfl, _, rfl, a, _, _, _, rfl, rfl, s4.seq hA, atI_of (n := j) (by omega) (il_at hz), _, _, rfl, rfl, _, _, rfl, rfl, ⟨by decide, by decide, by decide⟩, _, _, rfl, rfl, (by show (0 : Int) < 10 ^ 60; decide), ?_⟩
      refine ⟨_, rfl, _, rfl, _, rfl, _, _, rfl, rfl, hc0, l3, _, _, at'.toNat, rfl, rfl, h4, ?_, ?_⟩
      · rw [hat]
        unfold ixN
        rw [if_pos at0, if_pos (by rw [il_length]; omega)]
      · refine ⟨gs.set at'.toNat ((f * 7 + z) % (10 : Int) ^ ((60 : Int).toNat)), _, rfl, same_upd hl3 s4, ?_, by rw [List.length_set]; exact eg⟩
        rw [upd_same, il_set]
    rintro σ H4 ⟨gs, v3, rfl, s4, h4, eg⟩
    refine ⟨Nat.zero_le _, fun l5 hl5 => ?_⟩
    have n35 : l3 ≠ l5 := ne_of_none h4 hl5
    have hl50 : H3 l5 = none := s4.free hl5
    have u5 := same_at (o := .lst []) hl5
    have s5 := s4.trans u5
    have h35 := u5 _ _ h4
    have h55 : (upd H4 l5 (.lst [])) l5 = some (.lst (IL [])) := upd_same
    generalize upd H4 l5 (.lst []) = H5 at *
    refine nm ?_
    dsimp only
    refine ⟨_, rfl, _, rfl, by omega, by omega, for_range (lo := 0) (n := ((c : Int)).toNat) (fun j σ H6 => ∃ (L : List Int) (v3 v5 : Option V), σ = [some (.ref a), some (.int c), some (.ref l3), v3, some (.ref l5), v5] ∧ Same H3 H6 ∧ H6 l3 = some (.lst (IL gs)) ∧ H6 l5 = some (.lst (IL L)) ∧ L.length = j ∧ Told L) ⟨[], v3, none, rfl, s5, h35, h55, rfl, fun z hz => (by cases hz)⟩ ?_ ?_⟩
    rotate_left
    · rintro σ H6 ⟨L, w3, w5, rfl, s6, _, h56, hL, hT⟩
      exact ⟨_, rfl, q l5 L H6 s6 hl50 h56 (by omega) hT⟩
    rintro j σ H6 hj ⟨L, w3, w5, rfl, s6, h36, h56, hL, hT⟩
    obtain ⟨f, hf⟩ : ∃ f, gs[j]? = some f := ⟨_, List.getElem?_eq_getElem (by omega)⟩
    have hfa : atI (IL gs) (0 + (j : Int)) = some (.int f) := atI_of (n := j) (by omega) (il_at hf)
    refine nm ?_
    dsimp only
    refine ⟨_, rfl, _, rfl, l3, _, _, _, rfl, rfl, SqL.of h36, hfa, _, rfl, _, _, rfl, rfl, _, _, rfl, fun m m0 m1 => ?_⟩
    refine nm ?_
    dsimp only
    have d8 : 0 ≤ m / 8 := by omega
    refine ⟨_, rfl, .inl ⟨rfl, _, SqL.of h56⟩, _, rfl, _, _, rfl, rfl, ⟨by decide, by decide⟩, _, _, rfl, rfl, (by show (0 : Int) < 5; decide), _, rfl, _, _, rfl, rfl, ⟨by decide, by decide⟩, _, _, rfl, rfl, (by show (0 : Int) < 19; decide), _, _, rfl, rfl, _, rfl, _, rfl, l3, _, _, _, rfl, rfl, SqL.of h36, hfa, _, _, rfl, rfl, ⟨by decide, by decide, by decide⟩, _, _, rfl, rfl, .inl ⟨by decide, by decide⟩, _, _, rfl, rfl, (by show (0 : Int) < 2 * 10 ^ 59; decide), _, _, rfl, rfl, ⟨by decide, by decide, by decide⟩, _, _, rfl, rfl, four, fun c4 hc4 => ?_⟩
    obtain ⟨x, hx, hxb⟩ : ∃ x : Int, atI (IL [m / 8 % 5, m / 8 % 19 - 9, 1, f % (2 * 10 ^ (59 : Int).toNat) - 10 ^ (59 : Int).toNat]) (m % 4) = some (.int x) ∧ (-(10 ^ 60) < x ∧ x < (10 : Int) ^ 60) := by
      have p59 : (10 : Int) ^ (59 : Int).toNat = 10 ^ 59 := rfl
      have e4 : 0 ≤ f % (2 * 10 ^ 59) ∧ f % (2 * 10 ^ 59) < 2 * 10 ^ 59 := ⟨Int.emod_nonneg _ (by decide), Int.emod_lt_of_pos _ (by decide)⟩
      rcases (by omega : m % 4 = 0 ∨ m % 4 = 1 ∨ m % 4 = 2 ∨ m % 4 = 3) with e | e | e | e <;> rw [e]
      · exact ⟨_, rfl, by omega⟩
      · exact ⟨_, rfl, by omega⟩
      · exact ⟨_, rfl, by omega⟩
      · refine ⟨_, rfl, ?_⟩
        rw [p59]
        omega
    have w1 := same_at (o := .lst (IL [m / 8 % 5, m / 8 % 19 - 9, 1, f % (2 * 10 ^ (59 : Int).toNat) - 10 ^ (59 : Int).toNat])) hc4
    refine ⟨_, rfl, _, _, rfl, rfl, (by show (0 : Int) < 4; decide), c4, _, _, .int x, rfl, rfl, SqL.of upd_same, hx, ?_⟩
    refine ⟨l5, _, _, rfl, rfl, w1 _ _ h56, small60' (by rw [il_length]; omega), L ++ [x], _, _, rfl, same_upd hl50 (s6.trans w1), ?_, by rw [upd_same, il_snoc], by rw [List.length_append, hL]; rfl, fun z hz => (List.mem_append.mp hz).elim (hT z) fun h => by rw [List.mem_singleton.mp h]; exact hxb⟩
    rw [upd_ne n35]
    exact w1 _ _ h36
end
end My
namespace My
open PySem L2 PyProof.Rows
set_option maxHeartbeats 4000000
/-- the text of a web, written here -/
def sp_law_text (K : PySem.W.Frag) : Sp := fun vs H Q _ => ∃ (n : Int) (a b : Addr) (xs : List V) (ps : List (Int × Int)) (ls : List Int), vs = [.int n, .ref a, .ref b] ∧ SqL K H a xs ∧ PairsV H xs ps ∧ SqL K H b (IL ls) ∧ GoodW n ps ∧ ls.length = ps.length ∧ Told ls ∧ ∀ H' : Hp, Same H H' → Q (.str (textT n ps ls)) H'
section
variable {P : Program} {w : World} {K : PySem.W.Frag} {mg : Str → Option Value} {base : Heap} {t : Adr}
theorem sc_law_text : FnScope ["places", "ties", "lengths", "lines", "k", "words"] ["places", "ties", "lengths"] (defScope s_law_text) := ⟨rfl, rfl, rfl, by decide +kernel, rfl, by decide +kernel, by decide +kernel⟩
theorem ok_law_text (T : Txt K mg t) : FnOk P w K mg base CX0 1 t.a_law_text t.d_law_text ["places", "ties", "lengths"] (sp_law_text K) := by
  refine T.f_law_text.ok sc_law_text (fun vs H Q E h => ?_) (fun cdv A outer s H vs Q E hr h => ?_)
  · obtain ⟨n, a, b, xs, ps, ls, rfl, _⟩ := h
    rfl
  · obtain ⟨n, a, b, xs, ps, ls, rfl, hA, hP, hB, hG, hl, hT, q⟩ := h
    refine ⟨_, (pss_cons (ps_set (i := 3) sc_law_text.nd rfl (Or.inl rfl) (pe_lst (pa_cons (pe_op op_add_str pe_str (pe_callTy call_strI (by rfl) T.n_str Boot.«str» (pa_cons (pv 0) pa_nil))) pa_nil)))
      (pss_cons (ps_for PassesOwn.never rfl (pi_range1 rfl T.n_range (pa_cons (pe_callB (call_lenK K) (by rfl) T.n_len Boot.«len» (pa_cons (pv 1) pa_nil)) pa_nil)) (pg_name (i := 4) sc_law_text.nd rfl (Or.inl rfl))
      (pss_cons (ps_set (i := 5) sc_law_text.nd rfl (Or.inl rfl) (pe_lst (pa_cons pe_str (pa_cons (pe_callTy call_strI (by rfl) T.n_str Boot.«str» (pa_cons (pe_ix (ix_tupK K) (pe_ix (ix_listK K) (pv 1) (pv 4) (fun _ _ => rfl)) pe_int (fun _ _ => rfl)) pa_nil)) (pa_cons (pe_callTy call_strI (by rfl) T.n_str Boot.«str» (pa_cons (pe_ix (ix_tupK K) (pe_ix (ix_listK K) (pv 1) (pv 4) (fun _ _ => rfl)) pe_int (fun _ _ => rfl)) pa_nil)) pa_nil)))))
      (pss_one (ps_expr (pe_bmK K PySem.F.plainAttrs_list PySem.F.slot_list_append PySem.F.type_list_append mt_append (pv 3) (pa_cons (pe_bmK K PySem.F.plainAttrs_str PySem.F.slot_str_join PySem.F.type_str_join (mt_joinK K) pe_str (pa_cons (pe_op op_cat (pv 5) (pe_lst (pa_cons (pe_callTy call_strI (by rfl) T.n_str Boot.«str» (pa_cons (pe_ix (ix_listK K) (pv 2) (pv 4) (fun _ _ => rfl)) pa_nil)) pa_nil))) pa_nil)) pa_nil))))))
      (pss_one (ps_ret (pe_bmK K PySem.F.plainAttrs_str PySem.F.slot_str_join PySem.F.type_str_join (mt_joinK K) pe_str (pa_cons (pv 3) pa_nil)))))), ?_⟩
    have hxl := hP.1
    have hp30 := hG.2.2.1
    have hn1 := hG.1
    have hn2 := hG.2.1
    have one : 1 ≤ sizeLine := by decide
    have three : 3 ≤ sizeLine := by decide
    have z1 : 100000 ≤ sizeLine := by decide
    have nl := nT_len (i := n) (k := 60) (by decide) (by omega) (by omega)
    refine ⟨_, rfl, n, rfl, by omega, by omega, _, _, rfl, rfl, ?_, one, fun d hd => ?_⟩
    · show 7 + (nT n).length ≤ _
      omega
    have u1 := same_at (o := .lst (TL (webT n (ps.take 0) (ls.take 0)))) hd
    refine nm ?_
    dsimp only
    refine ⟨_, rfl, a, _, rfl, .inl (u1.seq hA), _, rfl, by omega, by omega, for_range (lo := 0) (n := (xs.length : Int).toNat) (fun i σ H4 => ∃ (v4 v5 : Option V), σ = [some (.int n), some (.ref a), some (.ref b), some (.ref d), v4, v5] ∧ Same H H4 ∧ H4 d = some (.lst (TL (webT n (ps.take i) (ls.take i))))) ⟨none, none, rfl, u1, upd_same⟩ ?_ ?_⟩
    · rintro i σ H4 hi ⟨v4, v5, rfl, s4, h4⟩
      have hi2 : i < ps.length := by omega
      obtain ⟨v, hv⟩ : ∃ v, xs[i]? = some v := ⟨_, List.getElem?_eq_getElem (by omega)⟩
      obtain ⟨p, hp, tt, rfl, htt⟩ := hP.at hv
      obtain ⟨l, hll⟩ : ∃ l, ls[i]? = some l := ⟨_, List.getElem?_eq_getElem (by omega)⟩
      have htold := web_told hG hT hp hll
      have b1 := htold p.1 (by simp)
      have b2 := htold p.2 (by simp)
      have b3 := htold l (by simp)
      refine nm ?_
      dsimp only
      have ia : atI xs (0 + (i : Int)) = some (.ref tt) := atI_of (n := i) (by omega) hv
      refine ⟨_, rfl, _, rfl, a, _, _, .ref tt, rfl, rfl, s4.seq hA, ia, tt, _, 0, .int p.1, rfl, rfl, SqT.of (s4 _ _ htt), rfl, p.1, rfl, by omega, by omega, _, rfl, _, rfl, a, _, _, .ref tt, rfl, rfl, s4.seq hA, ia, tt, _, 1, .int p.2, rfl, rfl, SqT.of (s4 _ _ htt), rfl, p.2, rfl, by omega, by omega, three, fun c hc => ?_⟩
      have u2 := same_at (o := .lst (TL [Str.ofString "tie", nT p.1, nT p.2])) hc
      have s5 := s4.trans u2
      have h5 := u2 _ _ h4
      have hc5 : (upd H4 c (.lst (TL [Str.ofString "tie", nT p.1, nT p.2]))) c = some (.lst (TL [Str.ofString "tie", nT p.1, nT p.2])) := upd_same
      refine nm ?_
      dsimp only
      change tDrop _ _ _ (upd H4 c (.lst (TL [Str.ofString "tie", nT p.1, nT p.2])))
      generalize upd H4 c (.lst (TL [Str.ofString "tie", nT p.1, nT p.2])) = H5 at *
      refine ⟨_, rfl, .inl ⟨rfl, _, SqL.of h5⟩, rfl, _, rfl, _, rfl, _, rfl, b, _, _, .int l, rfl, rfl, s5.seq hB, atI_of (n := i) (by omega) (il_at hll), l, rfl, by omega, by omega, one, fun c2 hc2 => ?_⟩
      have u3 := same_at (o := .lst (TL [nT l])) hc2
      refine ⟨c, c2, _, TL [nT l], rfl, rfl, u3 _ _ hc5, upd_same, (show 3 + 1 ≤ sizeLine by decide), fun c3 hc3 => ?_⟩
      have u4 := same_at (o := .lst (TL [Str.ofString "tie", nT p.1, nT p.2] ++ TL [nT l])) hc3
      have u34 := u3.trans u4
      have wl : (webT n (ps.take i) (ls.take i)).length ≤ 31 := by rw [web_len (by rw [List.length_take, List.length_take]; omega), List.length_take]; omega
      refine ⟨_, c3, [Str.ofString "tie", nT p.1, nT p.2, nT l], rfl, rfl, SqL.of upd_same, ?_, ?_⟩
      · show JoinOk blankS _ = true
        rw [blank_eq]
        refine join_ok (B := 61) (fun a ha => ?_) (by show 4 * 61 + 4 ≤ _; decide)
        rcases List.mem_cons.mp ha with e | e
        · rw [e]; decide
        · exact told_len htold a e
      refine ⟨d, _, _, rfl, rfl, u34 _ _ h5, small60' (by rw [tl_length]; omega), _, _, rfl, same_upd hd (s5.trans u34), ?_⟩
      rw [upd_same]
      show some (HO.lst (TL (webT n (ps.take i) (ls.take i)) ++ [.str (lineT p l)])) = _
      rw [tl_snoc, webT_succ hp hll]
    rintro σ H4 ⟨v4, v5, rfl, s4, h4⟩
    rw [show (xs.length : Int).toNat = ps.length by omega, List.take_length, ← hl, List.take_length] at h4
    refine ⟨rfl, _, rfl, _, d, _, rfl, rfl, SqL.of h4, ?_, q H4 s4⟩
    show JoinOk nlS _ = true
    rw [nl_eq]
    exact join_ok (B := 400) (web_lens hG hT) (by rw [web_len hl]; omega)
end
end My
namespace My
open PySem L2 PyProof.Rows
set_option maxHeartbeats 4000000
/-- what is told of a text -/
def KindsIs (text : Str) (bs : List Bool) : Prop := (∃ n tr, TextIs text n tr ∧ GoodW n (prs tr) ∧ bs = []) ∨ (∃ n tr, TextIs text n tr ∧ ¬ GoodW n (prs tr) ∧ bs = [false, true, true]) ∨ ((¬ ∃ n tr, TextIs text n tr) ∧ bs = [true, false, true])
def sp_law_kinds (K : PySem.W.Frag) : Sp := fun vs H Q _ => ∃ text : Str, vs = [.str text] ∧ (text.cps.all fun c => decide (c < 128)) = true ∧ text.length ≤ 90000 ∧ ∀ (bs : List Bool) (r : Addr) (H' : Hp), KindsIs text bs → Same H H' → H r = none → H' r = some (.lst (bs.map V.bl)) → Q (.ref r) H'
section
variable {P : Program} {w : World} {K : PySem.W.Frag} {mg : Str → Option Value} {base : Heap} {t : Adr}
theorem sc_law_kinds : FnScope ["text", "kinds", "e"] ["text"] (defScope s_law_kinds) := ⟨rfl, rfl, rfl, by decide +kernel, rfl, by decide +kernel, by decide +kernel⟩
theorem ok_law_kinds (T : Txt K mg t) : FnOk P w K mg base CX0 5 t.a_law_kinds t.d_law_kinds ["text"] (sp_law_kinds K) := by
  refine T.f_law_kinds.ok sc_law_kinds (fun vs H Q E h => ?_) (fun cdv A outer s H vs Q E hr h => ?_)
  · obtain ⟨text, rfl, _⟩ := h
    rfl
  · obtain ⟨text, rfl, ha, hl, q⟩ := h
    refine ⟨_, (pss_cons (ps_set (i := 1) sc_law_kinds.nd rfl (Or.inl rfl) (pe_lst pa_nil))
      (pss_cons (ps_try (i := 2) rfl rfl rfl sc_law_kinds.nd rfl rfl T.c_WebError rfl (fun R _ => (pss_one (ps_expr (pe_callX (ok_read_web T) (hr.mono (by decide)) rfl T.m_read_web T.f_read_web.kp T.b_read_web .nil pxT (pa_cons (pv 0) pa_nil))))) (fun e C oe _ hoe => (pss_one (ps_set (i := 1) sc_law_kinds.nd rfl (Or.inl rfl) (pe_lst (pa_cons (pe_callB (call_isiX K (List.mem_append_right _ (List.mem_singleton.mpr rfl)) hoe) (by rfl) T.n_isinstance Boot.«isinstance» (pa_cons (pv 2) (pa_cons (pe_glob (v := V.ref t.A_BadText) rfl T.c_BadText rfl) pa_nil))) (pa_cons (pe_callB (call_isiX K (List.mem_append_right _ (List.mem_singleton.mpr rfl)) hoe) (by rfl) T.n_isinstance Boot.«isinstance» (pa_cons (pv 2) (pa_cons (pe_glob (v := V.ref t.A_BadWeb) rfl T.c_BadWeb rfl) pa_nil))) (pa_cons (pe_callB (call_isiX K (List.mem_append_right _ (List.mem_singleton.mpr rfl)) hoe) (by rfl) T.n_isinstance Boot.«isinstance» (pa_cons (pv 2) (pa_cons (pe_bltn (v := V.ty "ValueError") rfl T.n_ValueError Boot.«ValueError» rfl) pa_nil))) pa_nil))))))))
      (pss_one (ps_ret (pv 1))))), ?_⟩
    have three : 3 ≤ sizeLine := by decide
    refine ⟨Nat.zero_le _, fun kl hkl => ?_⟩
    have s0 := same_at (o := .lst []) hkl
    refine ⟨_, rfl, text, rfl, ha, hl, fun n tr hT hG v H1 s1 => ?_, fun n tr hT hG H1 s1 => ⟨_, rfl, T.em_BadWeb, fun e he => ?_⟩, fun hno H1 s1 => ⟨_, rfl, T.em_BadText, fun e he => ?_⟩⟩
    · exact ⟨_, rfl, q [] kl H1 (.inl ⟨n, tr, hT, hG, rfl⟩) (s0.trans s1) hkl (s1 _ _ upd_same)⟩
    · refine ⟨_, rfl, _, _, _, rfl, fun z h => h, T.x_BadWeb, T.ki_BadWeb_BadText, _, rfl, _, _, _, rfl, fun z h => h, T.x_BadWeb, kit_same, _, rfl, _, _, _, rfl, fun z h => h, T.x_BadWeb, T.ki_BadWeb_ValueError, three, fun kk hkk => ?_⟩
      exact ⟨_, rfl, q [false, true, true] kk _ (.inr (.inl ⟨n, tr, hT, hG, rfl⟩)) (same_new (s0.trans s1) hkk) ((s0.trans s1).free hkk) upd_same⟩
    · refine ⟨_, rfl, _, _, _, rfl, fun z h => h, T.x_BadText, kit_same, _, rfl, _, _, _, rfl, fun z h => h, T.x_BadText, T.ki_BadText_BadWeb, _, rfl, _, _, _, rfl, fun z h => h, T.x_BadText, T.ki_BadText_ValueError, three, fun kk hkk => ?_⟩
      exact ⟨_, rfl, q [true, false, true] kk _ (.inr (.inr ⟨hno, rfl⟩)) (same_new (s0.trans s1) hkk) ((s0.trans s1).free hkk) upd_same⟩
end
end My
namespace My
open PySem L2 PyProof.Rows
set_option maxHeartbeats 4000000
/-- a line spoilt -/
def sp_law_bad_line (K : PySem.W.Frag) : Sp := fun vs H Q _ => ∃ (line : Str) (m : Int) (i : Nat) (l : List Int), vs = [.str line, .int m] ∧ 0 ≤ m ∧ m < 10 ^ 30 ∧ LineIs line (nmOf i) (mnOf i) l ∧ ∀ (x : Str) (H' : Hp), Spo i x → Same H H' → Q (.str x) H'
section
variable {P : Program} {w : World} {K : PySem.W.Frag} {mg : Str → Option Value} {base : Heap} {t : Adr}
theorem sc_law_bad_line : FnScope ["line", "m", "words", "at", "odd"] ["line", "m"] (defScope s_law_bad_line) := ⟨rfl, rfl, rfl, by decide +kernel, rfl, by decide +kernel, by decide +kernel⟩
theorem ok_law_bad_line (T : Txt K mg t) : FnOk P w K mg base CX0 1 t.a_law_bad_line t.d_law_bad_line ["line", "m"] (sp_law_bad_line K) := by
  refine T.f_law_bad_line.ok sc_law_bad_line (fun vs H Q E h => ?_) (fun cdv A outer s H vs Q E hr h => ?_)
  · obtain ⟨line, m, i, l, rfl, _⟩ := h
    rfl
  · obtain ⟨line, m, i, l, rfl, hm0, hm1, hL, q⟩ := h
    refine ⟨_, (@pss_cons _ _ _ _ _ (@ps_set _ _ 2 _ _ _ _ sc_law_bad_line.nd rfl (Or.inl rfl) (pe_bmK K PySem.F.plainAttrs_str PySem.F.slot_str_split PySem.F.type_str_split mt_split (pv 0) (pa_cons pe_str pa_nil)) rfl (.inl rfl))
      (@pss_cons _ _ _ _ _ (@ps_set _ _ 3 _ _ _ _ sc_law_bad_line.nd rfl (Or.inl rfl) (@pe_op _ _ _ _ _ _ _ _ op_add pe_int (@pe_op _ _ _ _ _ _ _ _ op_mod (@pe_op _ _ _ _ _ _ _ _ op_fdiv (pv 1) pe_int) (@pe_op _ _ _ _ _ _ _ _ op_sub (pe_callB (call_lenK K) (by rfl) T.n_len Boot.«len» (pa_cons (pv 2) pa_nil)) pe_int))) rfl (.inl rfl))
      (@pss_cons _ _ _ _ _ (@ps_set _ _ 4 _ _ _ _ sc_law_bad_line.nd rfl (Or.inl rfl) (@pe_ix _ _ _ _ _ _ _ (ix_listK K) (@pe_lst9 _ _ _ _ _ _ _ _ _ _ _ _ _ _ _ _ _ _ _ _ pe_str pe_str pe_str pe_str pe_str pe_str pe_str (@pe_op _ _ _ _ _ _ _ _ op_repS pe_str pe_int) pe_str rfl rfl rfl rfl rfl rfl rfl rfl rfl) (@pe_op _ _ _ _ _ _ _ _ op_mod (@pe_op _ _ _ _ _ _ _ _ op_fdiv (pv 1) pe_int) pe_int) (fun _ _ => rfl)) rfl (.inl rfl))
      (@pss_cons _ _ _ _ _ (@ps_if _ _ _ _ _ _ _ _ (pt_cmpR op_eq (@pe_op _ _ _ _ _ _ _ _ op_mod (pv 1) pe_int) pe_int (nomark _))
      (@pss_one _ _ _ (@ps_ret _ _ _ _ (pe_bmK K PySem.F.plainAttrs_str PySem.F.slot_str_join PySem.F.type_str_join (mt_joinK K) pe_str (pa_cons (@pe_op _ _ _ _ _ _ _ _ op_cat (@pe_op _ _ _ _ _ _ _ _ op_cat (pe_slice (sl_listK K) (pv 2) po_none (po_some (pv 3))) (@pe_lst1 _ _ _ _ (pv 4) rfl)) (pe_slice (sl_listK K) (pv 2) (po_some (@pe_op _ _ _ _ _ _ _ _ op_add (pv 3) pe_int)) po_none)) pa_nil))))
      pss_nil)
      (@pss_cons _ _ _ _ _ (@ps_if _ _ _ _ _ _ _ _ (pt_cmpR op_eq (@pe_op _ _ _ _ _ _ _ _ op_mod (pv 1) pe_int) pe_int (nomark _))
      (@pss_one _ _ _ (@ps_ret _ _ _ _ (pe_bmK K PySem.F.plainAttrs_str PySem.F.slot_str_join PySem.F.type_str_join (mt_joinK K) pe_str (pa_cons (@pe_op _ _ _ _ _ _ _ _ op_cat (pv 2) (@pe_lst1 _ _ _ _ pe_str rfl)) pa_nil))))
      pss_nil)
      (@pss_cons _ _ _ _ _ (@ps_if _ _ _ _ _ _ _ _ (pt_cmpR op_eq (@pe_op _ _ _ _ _ _ _ _ op_mod (pv 1) pe_int) pe_int (nomark _))
      (@pss_one _ _ _ (@ps_ret _ _ _ _ (pe_bmK K PySem.F.plainAttrs_str PySem.F.slot_str_join PySem.F.type_str_join (mt_joinK K) pe_str (pa_cons (pe_slice (sl_listK K) (pv 2) po_none (po_some (pe_un un_neg pe_int))) pa_nil))))
      pss_nil)
      (@pss_cons _ _ _ _ _ (@ps_if _ _ _ _ _ _ _ _ (pt_cmpR op_eq (@pe_op _ _ _ _ _ _ _ _ op_mod (pv 1) pe_int) pe_int (nomark _))
      (@pss_one _ _ _ (@ps_ret _ _ _ _ (pe_bmK K PySem.F.plainAttrs_str PySem.F.slot_str_join PySem.F.type_str_join (mt_joinK K) pe_str (pa_cons (@pe_op _ _ _ _ _ _ _ _ op_cat (@pe_op _ _ _ _ _ _ _ _ op_cat (pe_slice (sl_listK K) (pv 2) po_none (po_some (pv 3))) (@pe_lst1 _ _ _ _ pe_str rfl)) (pe_slice (sl_listK K) (pv 2) (po_some (pv 3)) po_none)) pa_nil))))
      pss_nil)
      (@pss_cons _ _ _ _ _ (@ps_if _ _ _ _ _ _ _ _ (pt_cmpR op_eq (@pe_op _ _ _ _ _ _ _ _ op_mod (pv 1) pe_int) pe_int (nomark _))
      (@pss_one _ _ _ (@ps_ret _ _ _ _ (pe_bm0K K PySem.F.plainAttrs_str PySem.F.slot_str_upper PySem.F.type_str_upper mt_upper (pv 0))))
      pss_nil)
      (@pss_cons _ _ _ _ _ (@ps_if _ _ _ _ _ _ _ _ (pt_cmpR op_eq (@pe_op _ _ _ _ _ _ _ _ op_mod (pv 1) pe_int) pe_int (nomark _))
      (@pss_one _ _ _ (@ps_ret _ _ _ _ (@pe_op _ _ _ _ _ _ _ _ op_add_str pe_str (pv 0))))
      pss_nil)
      (@pss_cons _ _ _ _ _ (@ps_if _ _ _ _ _ _ _ _ (pt_cmpR op_eq (@pe_op _ _ _ _ _ _ _ _ op_mod (pv 1) pe_int) pe_int (nomark _))
      (@pss_one _ _ _ (@ps_ret _ _ _ _ (@pe_op _ _ _ _ _ _ _ _ op_add_str (pv 0) pe_str)))
      pss_nil)
      (@pss_one _ _ _ (@ps_ret _ _ _ _ pe_str)))))))))))), ?_⟩
    have z1 : 100000 ≤ sizeLine := by decide
    have one : 1 ≤ sizeLine := by decide
    have hlen := (line_cl hL).2
    have hmy := line_many hL
    have mm := mn_le i
    have hne := split_ne line blankS
    have hwd : ∀ w ∈ Txt.split line blankS, w.length ≤ 61 := fun w hw => (line_word hL w hw).1.2
    refine ⟨_, rfl, rfl, _, _, rfl, rfl, rfl, by omega, ?_, fun p hp => ?_⟩
    · show (Txt.split _ blankS).length ≤ _
      omega
    have e : Txt.split line (Str.ofString " ") = Txt.split line blankS := rfl
    rw [e]
    have s1 := same_at (o := .lst (TL (Txt.split line blankS))) hp
    have h1 : (upd H p (.lst (TL (Txt.split line blankS)))) p = some (.lst (TL (Txt.split line blankS))) := upd_same
    generalize upd H p (.lst (TL (Txt.split line blankS))) = H1 at *
    refine nm ?_
    dsimp only
    refine ⟨_, rfl, _, _, rfl, rfl, ⟨by decide, by decide⟩, _, rfl, p, _, rfl, .inl (SqL.of h1), _, _, rfl, rfl, _, _, rfl, rfl, ?_, _, _, rfl, rfl, ?_⟩
    · rw [tl_length, hmy]
      omega
    refine nm ?_
    dsimp only
    rw [tl_length, hmy]
    obtain ⟨j, hj, j1, j2⟩ : ∃ j : Nat, 1 + m / 8 % (((mnOf i + 1 : Nat) : Int) - 1) = (j : Int) ∧ 1 ≤ j ∧ j ≤ mnOf i := by
      have a := Int.emod_nonneg (m / 8) (show ((mnOf i + 1 : Nat) : Int) - 1 ≠ 0 by omega)
      have b := Int.emod_lt_of_pos (m / 8) (show 0 < ((mnOf i + 1 : Nat) : Int) - 1 by omega)
      exact ⟨(1 + m / 8 % (((mnOf i + 1 : Nat) : Int) - 1)).toNat, by omega, by omega, by omega⟩
    rw [hj]
    have hrep : (repT (Str.ofString "7") 61).length ≤ 61 := by decide +kernel
    refine ⟨_, 61, rfl, rfl, by decide, by decide, by decide, by decide, Nat.le_trans hrep (by omega), (by show 9 ≤ sizeLine; omega), fun a hA => ?_⟩
    have s2 := s1.trans (same_at (o := .lst (TL oddL)) hA)
    have h2 := same_at (o := .lst (TL oddL)) hA _ _ h1
    have h2a : (upd H1 a (.lst (TL oddL))) a = some (.lst (TL oddL)) := upd_same
    obtain ⟨w, hw, hin⟩ : ∃ w : Str, atI (TL oddL) (m / 64 % 9) = some (.str w) ∧ w ∈ oddL := by
      have b : (m / 64 % 9).toNat < oddL.length := by show _ < 9; omega
      have e : oddL[(m / 64 % 9).toNat]? = some oddL[(m / 64 % 9).toNat] := List.getElem?_eq_getElem b
      refine ⟨_, atI_of (n := (m / 64 % 9).toNat) (by omega) ?_, List.getElem_mem b⟩
      unfold TL
      rw [List.getElem?_map, e]
      rfl
    refine ⟨_, rfl, _, _, rfl, rfl, ⟨by decide, by decide⟩, _, _, rfl, rfl, (by show (0 : Int) < 9; decide), a, _, _, .str w, rfl, rfl, SqL.of h2a, hw, ?_⟩
    refine nm ?_
    dsimp only
    change tSeq _ _ _ _ (upd H1 a (.lst (TL oddL)))
    generalize upd H1 a (.lst (TL oddL)) = H2 at *
    refine ⟨_, rfl, _, _, rfl, rfl, (by show (0 : Int) < 8; decide), rfl, _, rfl, ?_⟩
    rw [dec_int]
    refine itd2 (fun hc => ?_) (fun hc => ?_)
    · refine ⟨rfl, _, rfl, _, rfl, _, rfl, p, _, rfl, SqL.of h2, fun a1 ha1 => ?_⟩
      rw [tl_cut_to (by omega), Int.toNat_natCast]
      have u1 := same_at (o := .lst (TL ((Txt.split line blankS).take j))) ha1
      have k1 : (upd H2 a1 (.lst (TL ((Txt.split line blankS).take j)))) a1 = some (.lst (TL ((Txt.split line blankS).take j))) := upd_same
      have h3 := u1 _ _ h2
      have s3 := s2.trans u1
      generalize upd H2 a1 (.lst (TL ((Txt.split line blankS).take j))) = H3 at *
      refine ⟨_, rfl, one, fun a2 ha2 => ?_⟩
      have u2 := same_at (o := .lst (TL [w])) ha2
      have h4 := u2 _ _ h3
      have s4 := s3.trans u2
      refine ⟨a1, a2, _, TL [w], rfl, rfl, u2 _ _ k1, upd_same, (by rw [tl_length, List.length_take]; show _ + 1 ≤ _; omega), fun a3 ha3 => ?_⟩
      rw [tl_app]
      have ha3 : (upd H3 a2 (.lst (TL [w]))) a3 = none := ha3
      have u3 := same_at (o := .lst (TL ((Txt.split line blankS).take j ++ [w]))) ha3
      have h5 := u3 _ _ h4
      have s5 := s4.trans u3
      have k3 : (upd (upd H3 a2 (.lst (TL [w]))) a3 (.lst (TL ((Txt.split line blankS).take j ++ [w])))) a3 = some (.lst (TL ((Txt.split line blankS).take j ++ [w]))) := upd_same
      change tSl _ _ _ _ _ (upd (upd H3 a2 (.lst (TL [w]))) a3 (.lst (TL ((Txt.split line blankS).take j ++ [w])))) _
      generalize upd (upd H3 a2 (.lst (TL [w]))) a3 (.lst (TL ((Txt.split line blankS).take j ++ [w]))) = H5 at *
      refine ⟨_, rfl, _, rfl, _, _, rfl, rfl, _, rfl, p, _, rfl, SqL.of h5, fun a4 ha4 => ?_⟩
      rw [tl_cut_from (by omega)]
      have u4 := same_at (o := .lst (TL ((Txt.split line blankS).drop ((j : Int) + 1).toNat))) ha4
      refine ⟨a3, a4, _, _, rfl, rfl, u4 _ _ k3, upd_same, (by rw [tl_length, tl_length, List.length_append, List.length_take, List.length_drop]; show _ + 1 + _ ≤ _; omega), fun a5 ha5 => ?_⟩
      rw [tl_app]
      have u5 := same_at (o := .lst (TL ((Txt.split line blankS).take j ++ [w] ++ (Txt.split line blankS).drop ((j : Int) + 1).toNat))) ha5
      refine ⟨_, a5, _, rfl, rfl, SqL.of upd_same, ?_, ?_⟩
      · refine words_ok (fun x hx => ?_) (by simp only [List.length_append, List.length_take, List.length_drop, List.length_singleton]; omega)
        rcases List.mem_append.mp hx with hx | hx
        · rcases List.mem_append.mp hx with hx | hx
          · exact hwd x (List.mem_of_mem_take hx)
          · rw [List.mem_singleton.mp hx]; exact (odd_ok w hin).2.1
        · exact hwd x (List.mem_of_mem_drop hx)
      · exact q _ _ (spo_odd hL j1 j2 hin) ((s5.trans u4).trans u5)
    refine ⟨_, rfl, _, _, rfl, rfl, (by show (0 : Int) < 8; decide), rfl, _, rfl, ?_⟩
    rw [dec_int]
    refine itd2 (fun hc1 => ?_) (fun hc1 => ?_)
    · refine ⟨rfl, _, rfl, one, fun a2 ha2 => ?_⟩
      have u2 := same_at (o := .lst (TL [Str.ofString "1"])) ha2
      refine ⟨p, a2, _, TL [Str.ofString "1"], rfl, rfl, u2 _ _ h2, upd_same, (by rw [tl_length]; show _ + 1 ≤ _; omega), fun a3 ha3 => ?_⟩
      rw [tl_app]
      have u3 := same_at (o := .lst (TL (Txt.split line blankS ++ [Str.ofString "1"]))) ha3
      refine ⟨_, a3, _, rfl, rfl, SqL.of upd_same, ?_, q _ _ (spo_more hL) ((s2.trans u2).trans u3)⟩
      refine words_ok (fun x hx => ?_) (by rw [List.length_append, List.length_singleton]; omega)
      rcases List.mem_append.mp hx with hx | hx
      · exact hwd x hx
      · rw [List.mem_singleton.mp hx]; decide
    refine ⟨_, rfl, _, _, rfl, rfl, (by show (0 : Int) < 8; decide), rfl, _, rfl, ?_⟩
    rw [dec_int]
    refine itd2 (fun hc2 => ?_) (fun hc2 => ?_)
    · refine ⟨rfl, _, rfl, _, rfl, _, rfl, p, _, rfl, SqL.of h2, fun a1 ha1 => ?_⟩
      have ec : cutV (TL (Txt.split line blankS)) none (some (-1)) = _ := tl_cut_last hne
      rw [ec]
      have u1 := same_at (o := .lst (TL ((Txt.split line blankS).take ((Txt.split line blankS).length - 1)))) ha1
      refine ⟨_, a1, _, rfl, rfl, SqL.of upd_same, ?_, q _ _ (spo_less hL) (s2.trans u1)⟩
      exact words_ok (fun x hx => hwd x (List.mem_of_mem_take hx)) (by rw [List.length_take]; omega)
    refine ⟨_, rfl, _, _, rfl, rfl, (by show (0 : Int) < 8; decide), rfl, _, rfl, ?_⟩
    rw [dec_int]
    refine itd2 (fun hc3 => ?_) (fun hc3 => ?_)
    · refine ⟨rfl, _, rfl, _, rfl, _, rfl, p, _, rfl, SqL.of h2, fun a1 ha1 => ?_⟩
      rw [tl_cut_to (by omega), Int.toNat_natCast]
      have u1 := same_at (o := .lst (TL ((Txt.split line blankS).take j))) ha1
      have k1 : (upd H2 a1 (.lst (TL ((Txt.split line blankS).take j)))) a1 = some (.lst (TL ((Txt.split line blankS).take j))) := upd_same
      have h3 := u1 _ _ h2
      have s3 := s2.trans u1
      generalize upd H2 a1 (.lst (TL ((Txt.split line blankS).take j))) = H3 at *
      refine ⟨one, fun a2 ha2 => ?_⟩
      have u2 := same_at (o := .lst (TL [Str.empty])) ha2
      have h4 := u2 _ _ h3
      have s4 := s3.trans u2
      refine ⟨a1, a2, _, TL [Str.empty], rfl, rfl, u2 _ _ k1, upd_same, (by rw [tl_length, List.length_take]; show _ + 1 ≤ _; omega), fun a3 ha3 => ?_⟩
      rw [tl_app]
      have ha3 : (upd H3 a2 (.lst (TL [Str.empty]))) a3 = none := ha3
      have u3 := same_at (o := .lst (TL ((Txt.split line blankS).take j ++ [Str.empty]))) ha3
      have h5 := u3 _ _ h4
      have s5 := s4.trans u3
      have k3 : (upd (upd H3 a2 (.lst (TL [Str.empty]))) a3 (.lst (TL ((Txt.split line blankS).take j ++ [Str.empty])))) a3 = some (.lst (TL ((Txt.split line blankS).take j ++ [Str.empty]))) := upd_same
      change tSl _ _ _ _ _ (upd (upd H3 a2 (.lst (TL [Str.empty]))) a3 (.lst (TL ((Txt.split line blankS).take j ++ [Str.empty])))) _
      generalize upd (upd H3 a2 (.lst (TL [Str.empty]))) a3 (.lst (TL ((Txt.split line blankS).take j ++ [Str.empty]))) = H5 at *
      refine ⟨_, rfl, _, rfl, _, rfl, p, _, rfl, SqL.of h5, fun a4 ha4 => ?_⟩
      rw [tl_cut_from (by omega)]
      have u4 := same_at (o := .lst (TL ((Txt.split line blankS).drop (j : Int).toNat))) ha4
      refine ⟨a3, a4, _, _, rfl, rfl, u4 _ _ k3, upd_same, (by rw [tl_length, tl_length, List.length_append, List.length_take, List.length_drop]; show _ + 1 + _ ≤ _; omega), fun a5 ha5 => ?_⟩
      rw [tl_app]
      have u5 := same_at (o := .lst (TL ((Txt.split line blankS).take j ++ [Str.empty] ++ (Txt.split line blankS).drop (j : Int).toNat))) ha5
      refine ⟨_, a5, _, rfl, rfl, SqL.of upd_same, ?_, ?_⟩
      · refine words_ok (fun x hx => ?_) (by simp only [List.length_append, List.length_take, List.length_drop, List.length_singleton]; omega)
        rcases List.mem_append.mp hx with hx | hx
        · rcases List.mem_append.mp hx with hx | hx
          · exact hwd x (List.mem_of_mem_take hx)
          · rw [List.mem_singleton.mp hx]; decide
        · exact hwd x (List.mem_of_mem_drop hx)
      · exact q _ _ (spo_gap hL (by omega)) ((s5.trans u4).trans u5)
    refine ⟨_, rfl, _, _, rfl, rfl, (by show (0 : Int) < 8; decide), rfl, _, rfl, ?_⟩
    rw [dec_int]
    refine itd2 (fun hc4 => ?_) (fun hc4 => ?_)
    · have hu := (upper_cl (line_cl hL)).2
      exact ⟨_, rfl, rfl, _, rfl, rfl, decide_eq_false (by omega), q _ _ (spo_upper hL) s2⟩
    refine ⟨_, rfl, _, _, rfl, rfl, (by show (0 : Int) < 8; decide), rfl, _, rfl, ?_⟩
    rw [dec_int]
    refine itd2 (fun hc5 => ?_) (fun hc5 => ?_)
    · exact ⟨_, rfl, _, _, rfl, rfl, (by show 1 + _ ≤ _; omega), q _ _ (spo_ahead hL) s2⟩
    refine ⟨_, rfl, _, _, rfl, rfl, (by show (0 : Int) < 8; decide), rfl, _, rfl, ?_⟩
    rw [dec_int]
    refine itd2 (fun hc6 => ?_) (fun hc6 => ?_)
    · exact ⟨_, rfl, _, _, rfl, rfl, (by show _ + 1 ≤ _; omega), q _ _ (spo_behind hL) s2⟩
    exact q _ _ (spo_none i) s2
end
end My
namespace My
open PySem L2 PyProof.Rows
set_option maxHeartbeats 4000000
/-- lines spoilt -/
def sp_law_bad_text (K : PySem.W.Frag) : Sp := fun vs H Q _ => ∃ (a : Addr) (m : Int) (ls : List Str) (n : Int) (tr : List (List Int)), vs = [.ref a, .int m] ∧ H a = some (.lst (TL ls)) ∧ LsIs ls n tr ∧ ls.length ≤ 100 ∧ 0 ≤ m ∧ m < 10 ^ 30 ∧ ∀ (us : List Str) (r : Addr) (H' : Hp), NoLs us → us ≠ [] → (∀ x ∈ us, Cl 400 x) → us.length ≤ 101 → Same H H' → H' r = some (.lst (TL us)) → Q (.ref r) H'
section
variable {P : Program} {w : World} {K : PySem.W.Frag} {mg : Str → Option Value} {base : Heap} {t : Adr}
theorem sc_law_bad_text : FnScope ["lines", "m", "at"] ["lines", "m"] (defScope s_law_bad_text) := ⟨rfl, rfl, rfl, by decide +kernel, rfl, by decide +kernel, by decide +kernel⟩
theorem ok_law_bad_text (T : Txt K mg t) : FnOk P w K mg base CX0 2 t.a_law_bad_text t.d_law_bad_text ["lines", "m"] (sp_law_bad_text K) := by
  refine T.f_law_bad_text.ok sc_law_bad_text (fun vs H Q E h => ?_) (fun cdv A outer s H vs Q E hr h => ?_)
  · obtain ⟨a, m, ls, n, tr, rfl, _⟩ := h
    rfl
  · obtain ⟨a, m, ls, n, tr, rfl, hA, hL, hl, hm0, hm1, q⟩ := h
    refine ⟨_, (pss_cons (ps_if (pt_cmpR op_eq (pe_op op_mod (pv 1) pe_int) pe_int (nomark _))
      (pss_one (ps_ret (pe_op op_cat (pe_slice (sl_listK K) (pv 0) (po_some pe_int) po_none) (pe_lst1 pe_str))))
      pss_nil)
      (pss_cons (ps_if (pt_cmpR op_eq (pe_op op_mod (pv 1) pe_int) pe_int (nomark _))
      (pss_one (ps_ret (pe_op op_cat (pv 0) (pe_lst1 pe_str))))
      pss_nil)
      (pss_cons (ps_set (i := 2) sc_law_bad_text.nd rfl (Or.inl rfl) (pe_op op_mod (pe_op op_fdiv (pv 1) pe_int) (pe_callB (call_lenK K) (by rfl) T.n_len Boot.«len» (pa_cons (pv 0) pa_nil))))
      (pss_one (ps_ret (pe_op op_cat (pe_op op_cat (pe_slice (sl_listK K) (pv 0) po_none (po_some (pv 2))) (pe_lst1 (pe_call (ok_law_bad_line T) (hr.mono (by decide)) rfl T.m_law_bad_line T.f_law_bad_line.kp T.b_law_bad_line .nil pass0 (pa_cons (pe_ix (ix_listK K) (pv 0) (pv 2) (fun _ _ => rfl)) (pa_cons (pe_op op_fdiv (pv 1) pe_int) pa_nil))))) (pe_slice (sl_listK K) (pv 0) (po_some (pe_op op_add (pv 2) pe_int)) po_none))))))), ?_⟩
    have z1 : 100000 ≤ sizeLine := by decide
    have one : 1 ≤ sizeLine := by decide
    have hcl := hL.cl
    have hmy := hL.many
    refine ⟨_, rfl, _, _, rfl, rfl, (by show (0 : Int) < 5; decide), rfl, _, rfl, ?_⟩
    rw [dec_int]
    refine itd2 (fun hc => ?_) (fun hc => ?_)
    · refine ⟨_, rfl, _, rfl, a, _, rfl, SqL.of hA, fun a1 ha1 => ?_⟩
      rw [tl_cut_from (by decide)]
      have u1 := same_at (o := .lst (TL (ls.drop (1 : Int).toNat))) ha1
      have k1 : (upd H a1 (.lst (TL (ls.drop (1 : Int).toNat)))) a1 = some (.lst (TL (ls.drop (1 : Int).toNat))) := upd_same
      refine ⟨one, fun a2 ha2 => ?_⟩
      have u2 := same_at (o := .lst (TL [Str.ofString "tie 0 0 1"])) ha2
      refine ⟨a1, a2, _, TL [Str.ofString "tie 0 0 1"], rfl, rfl, u2 _ _ k1, upd_same, (by rw [tl_length, List.length_drop]; show _ + 1 ≤ _; omega), fun a3 ha3 => ?_⟩
      rw [tl_app]
      have u3 := same_at (o := .lst (TL (ls.drop (1 : Int).toNat ++ [Str.ofString "tie 0 0 1"]))) ha3
      refine q _ a3 _ (no_cut hL) (by simp) (fun x hx => ?_) (by rw [List.length_append, List.length_drop]; show _ + 1 ≤ _; omega) ((u1.trans u2).trans u3) upd_same
      rcases List.mem_append.mp hx with hx | hx
      · exact hcl x (List.mem_of_mem_drop hx)
      · rw [List.mem_singleton.mp hx]; exact cl_tie001
    refine ⟨_, rfl, _, _, rfl, rfl, (by show (0 : Int) < 5; decide), rfl, _, rfl, ?_⟩
    rw [dec_int]
    refine itd2 (fun hc2 => ?_) (fun hc2 => ?_)
    · refine ⟨_, rfl, one, fun a2 ha2 => ?_⟩
      have u2 := same_at (o := .lst (TL [Str.ofString "places 1"])) ha2
      refine ⟨a, a2, _, TL [Str.ofString "places 1"], rfl, rfl, u2 _ _ hA, upd_same, (by rw [tl_length]; show _ + 1 ≤ _; omega), fun a3 ha3 => ?_⟩
      rw [tl_app]
      have u3 := same_at (o := .lst (TL (ls ++ [Str.ofString "places 1"]))) ha3
      refine q _ a3 _ (no_more hL) (by simp) (fun x hx => ?_) (by rw [List.length_append]; show _ + 1 ≤ _; omega) (u2.trans u3) upd_same
      rcases List.mem_append.mp hx with hx | hx
      · exact hcl x hx
      · rw [List.mem_singleton.mp hx]; exact cl_places1
    refine ⟨_, rfl, _, _, rfl, rfl, ⟨by decide, by decide⟩, _, rfl, a, _, rfl, .inl (SqL.of hA), _, _, rfl, rfl, (by rw [tl_length]; omega), ?_⟩
    refine nm ?_
    dsimp only
    rw [tl_length]
    obtain ⟨j, hj, j2⟩ : ∃ j : Nat, m / 5 % (ls.length : Int) = (j : Int) ∧ j < ls.length := by
      have a := Int.emod_nonneg (m / 5) (show (ls.length : Int) ≠ 0 by omega)
      have b := Int.emod_lt_of_pos (m / 5) (show 0 < (ls.length : Int) by omega)
      exact ⟨(m / 5 % (ls.length : Int)).toNat, by omega, by omega⟩
    rw [hj]
    obtain ⟨x, hx, _, hx2⟩ := tl_pick (l := ls) (i := (j : Int)) (by omega) (by omega)
    rw [Int.toNat_natCast] at hx2
    obtain ⟨l, hl2⟩ := hL.at hx2
    refine ⟨_, rfl, _, rfl, _, rfl, a, _, rfl, SqL.of hA, fun a1 ha1 => ?_⟩
    rw [tl_cut_to (by omega), Int.toNat_natCast]
    have u1 := same_at (o := .lst (TL (ls.take j))) ha1
    have k1 : (upd H a1 (.lst (TL (ls.take j)))) a1 = some (.lst (TL (ls.take j))) := upd_same
    have h1 := u1 _ _ hA
    generalize upd H a1 (.lst (TL (ls.take j))) = H1 at *
    refine ⟨_, rfl, _, rfl, a, _, _, .str x, rfl, rfl, SqL.of h1, hx, _, rfl, _, _, rfl, rfl, ⟨by decide, by decide⟩, x, m / 40, j, l, rfl, by omega, by omega, hl2, fun y H2 hy s2 => ⟨one, fun a2 ha2 => ?_⟩⟩
    have u2 := same_at (o := .lst (TL [y])) ha2
    refine ⟨a1, a2, _, TL [y], rfl, rfl, u2 _ _ (s2 _ _ k1), upd_same, (by rw [tl_length, List.length_take]; show _ + 1 ≤ _; omega), fun a3 ha3 => ?_⟩
    rw [tl_app]
    have ha3 : (upd H2 a2 (.lst (TL [y]))) a3 = none := ha3
    have u3 := same_at (o := .lst (TL (ls.take j ++ [y]))) ha3
    have k3 : (upd (upd H2 a2 (.lst (TL [y]))) a3 (.lst (TL (ls.take j ++ [y])))) a3 = some (.lst (TL (ls.take j ++ [y]))) := upd_same
    have s4 := ((u1.trans s2).trans u2).trans u3
    have h4 := (s2.trans (u2.trans u3)) _ _ h1
    change tSl _ _ _ _ _ (upd (upd H2 a2 (.lst (TL [y]))) a3 (.lst (TL (ls.take j ++ [y])))) _
    generalize upd (upd H2 a2 (.lst (TL [y]))) a3 (.lst (TL (ls.take j ++ [y]))) = H4 at *
    refine ⟨_, rfl, _, rfl, _, _, rfl, rfl, _, rfl, a, _, rfl, SqL.of h4, fun a4 ha4 => ?_⟩
    rw [tl_cut_from (by omega)]
    have u4 := same_at (o := .lst (TL (ls.drop ((j : Int) + 1).toNat))) ha4
    refine ⟨a3, a4, _, _, rfl, rfl, u4 _ _ k3, upd_same, (by rw [tl_length, tl_length, List.length_append, List.length_take, List.length_drop]; show _ + 1 + _ ≤ _; omega), fun a5 ha5 => ?_⟩
    rw [tl_app]
    have u5 := same_at (o := .lst (TL (ls.take j ++ [y] ++ ls.drop ((j : Int) + 1).toNat))) ha5
    refine q _ a5 _ (no_at j2 hy) (by simp) (fun z hz => ?_) (by rw [List.length_append, List.length_append, List.length_take, List.length_drop]; show _ + 1 + _ ≤ _; omega) ((s4.trans u4).trans u5) upd_same
    rcases List.mem_append.mp hz with hz | hz
    · rcases List.mem_append.mp hz with hz | hz
      · exact hcl z (List.mem_of_mem_take hz)
      · rw [List.mem_singleton.mp hz]; exact hy.1
    · exact hcl z (List.mem_of_mem_drop hz)
end
end My
namespace My
open PySem L2 PyProof.Rows
set_option maxHeartbeats 4000000
/-- a web spoilt -/
def sp_law_bad_web (K : PySem.W.Frag) : Sp := fun vs H Q _ => ∃ (a : Addr) (n m : Int) (ls : List Str) (tr : List (List Int)), vs = [.ref a, .int n, .int m] ∧ H a = some (.lst (TL ls)) ∧ LsIs ls n tr ∧ GoodW n (prs tr) ∧ 0 ≤ m ∧ m < 10 ^ 30 ∧ ∀ (us : List Str) (n' : Int) (tr' : List (List Int)) (r : Addr) (H' : Hp), LsIs us n' tr' → ¬ GoodW n' (prs tr') → us.length ≤ 100 → Same H H' → H' r = some (.lst (TL us)) → Q (.ref r) H'
section
variable {P : Program} {w : World} {K : PySem.W.Frag} {mg : Str → Option Value} {base : Heap} {t : Adr}
theorem sc_law_bad_web : FnScope ["lines", "places", "m", "odd", "at"] ["lines", "places", "m"] (defScope s_law_bad_web) := ⟨rfl, rfl, rfl, by decide +kernel, rfl, by decide +kernel, by decide +kernel⟩
theorem ok_law_bad_web (T : Txt K mg t) : FnOk P w K mg base CX0 1 t.a_law_bad_web t.d_law_bad_web ["lines", "places", "m"] (sp_law_bad_web K) := by
  refine T.f_law_bad_web.ok sc_law_bad_web (fun vs H Q E h => ?_) (fun cdv A outer s H vs Q E hr h => ?_)
  · obtain ⟨a, n, m, ls, tr, rfl, _⟩ := h
    rfl
  · obtain ⟨a, n, m, ls, tr, rfl, hA, hL, hG, hm0, hm1, q⟩ := h
    refine ⟨_, (@pss_cons _ _ _ _ _ (@ps_set _ _ 3 _ _ _ _ sc_law_bad_web.nd rfl (Or.inl rfl) (@pe_ix _ _ _ _ _ _ _ (ix_listK K) (@pe_lst4 _ _ _ _ _ _ _ _ _ _ (@pe_op _ _ _ _ _ _ _ _ op_add_str (@pe_op _ _ _ _ _ _ _ _ op_add_str pe_str (pe_callTy call_strI (by rfl) T.n_str Boot.«str» (pa_cons (pv 1) pa_nil))) pe_str) pe_str pe_str (@pe_op _ _ _ _ _ _ _ _ op_add_str (@pe_op _ _ _ _ _ _ _ _ op_add_str pe_str (pe_callTy call_strI (by rfl) T.n_str Boot.«str» (pa_cons (@pe_op _ _ _ _ _ _ _ _ op_add (pv 1) (pv 2)) pa_nil))) pe_str) rfl rfl rfl rfl) (@pe_op _ _ _ _ _ _ _ _ op_mod (@pe_op _ _ _ _ _ _ _ _ op_fdiv (pv 2) pe_int) pe_int) (fun _ _ => rfl)) rfl (.inl rfl))
      (@pss_cons _ _ _ _ _ (@ps_if _ _ _ _ _ _ _ _ (pt_cmpR op_eq (@pe_op _ _ _ _ _ _ _ _ op_mod (pv 2) pe_int) pe_int (nomark _))
      (@pss_one _ _ _ (@ps_ret _ _ _ _ (@pe_op _ _ _ _ _ _ _ _ op_cat (@pe_lst1 _ _ _ _ (@pe_ix _ _ _ _ _ _ _ (ix_listK K) (@pe_lst3 _ _ _ _ _ _ _ _ pe_str pe_str pe_str rfl rfl rfl) (@pe_op _ _ _ _ _ _ _ _ op_mod (@pe_op _ _ _ _ _ _ _ _ op_fdiv (pv 2) pe_int) pe_int) (fun _ _ => rfl)) rfl) (pe_slice (sl_listK K) (pv 0) (po_some pe_int) po_none))))
      pss_nil)
      (@pss_cons _ _ _ _ _ (@ps_if _ _ _ _ _ _ _ _ (pt_cmpR op_eq (@pe_op _ _ _ _ _ _ _ _ op_mod (pv 2) pe_int) pe_int (nomark _))
      (@pss_one _ _ _ (@ps_ret _ _ _ _ (@pe_op _ _ _ _ _ _ _ _ op_cat (pv 0) (@pe_op _ _ _ _ _ _ _ _ op_rep (@pe_lst1 _ _ _ _ pe_str rfl) pe_int))))
      pss_nil)
      (@pss_cons _ _ _ _ _ (@ps_set _ _ 4 _ _ _ _ sc_law_bad_web.nd rfl (Or.inl rfl) (@pe_op _ _ _ _ _ _ _ _ op_add pe_int (@pe_op _ _ _ _ _ _ _ _ op_mod (@pe_op _ _ _ _ _ _ _ _ op_fdiv (pv 2) pe_int) (pe_callB (call_lenK K) (by rfl) T.n_len Boot.«len» (pa_cons (pv 0) pa_nil)))) rfl (.inl rfl))
      (@pss_one _ _ _ (@ps_ret _ _ _ _ (@pe_op _ _ _ _ _ _ _ _ op_cat (@pe_op _ _ _ _ _ _ _ _ op_cat (pe_slice (sl_listK K) (pv 0) po_none (po_some (pv 4))) (@pe_lst1 _ _ _ _ (pv 3) rfl)) (pe_slice (sl_listK K) (pv 0) (po_some (pv 4)) po_none)))))))), ?_⟩
    have z1 : 100000 ≤ sizeLine := by decide
    have one : 1 ≤ sizeLine := by decide
    have hmy := hL.many
    have g1 := hG.1
    have g2 := hG.2.1
    have g3 := hG.2.2.1
    rw [prs_len] at g3
    have n1 := nT_len (i := n) (k := 60) (by decide) (by omega) (by omega)
    have n2 := nT_len (i := n + m) (k := 60) (by decide) (by omega) (by omega)
    have ln1 : (Str.ofString "tie 0 " ++ nT n).length = 6 + (nT n).length := by rw [str_len, Str.cps_append, Array.toList_append, List.length_append, ← str_len, ← str_len]; rfl
    have ln2 : (Str.ofString "tie " ++ nT (n + m)).length = 4 + (nT (n + m)).length := by rw [str_len, Str.cps_append, Array.toList_append, List.length_append, ← str_len, ← str_len]; rfl
    refine ⟨_, rfl, n, rfl, by omega, by omega, _, _, rfl, rfl, (by show 6 + (nT n).length ≤ _; omega), _, _, rfl, rfl, (by show (Str.ofString "tie 0 " ++ nT n).length + 2 ≤ _; omega), _, rfl, _, rfl, _, _, rfl, rfl, n + m, rfl, by omega, by omega, _, _, rfl, rfl, (by show 4 + (nT (n + m)).length ≤ _; omega), _, _, rfl, rfl, (by show (Str.ofString "tie " ++ nT (n + m)).length + 4 ≤ _; omega), (by show 4 ≤ sizeLine; omega), fun a1 ha1 => ?_⟩
    have u1 := same_at (o := .lst (TL (oddW n m))) ha1
    have k1 : (upd H a1 (.lst (TL (oddW n m)))) a1 = some (.lst (TL (oddW n m))) := upd_same
    have h1 := u1 _ _ hA
    obtain ⟨w, hw, hin, _⟩ := tl_pick (l := oddW n m) (i := m / 4 % 4) (by omega) (by show _ < (4 : Int); omega)
    refine ⟨_, rfl, _, _, rfl, rfl, ⟨by decide, by decide⟩, _, _, rfl, rfl, (by show (0 : Int) < 4; decide), a1, _, _, .str w, rfl, rfl, SqL.of k1, hw, ?_⟩
    refine nm ?_
    dsimp only
    change tSeq _ _ _ _ (upd H a1 (.lst (TL (oddW n m))))
    generalize upd H a1 (.lst (TL (oddW n m))) = H1 at *
    refine ⟨_, rfl, _, _, rfl, rfl, (by show (0 : Int) < 4; decide), rfl, _, rfl, ?_⟩
    rw [dec_int]
    refine itd2 (fun hc => ?_) (fun hc => ?_)
    · refine ⟨(by show 3 ≤ sizeLine; omega), fun a2 ha2 => ?_⟩
      have u2 := same_at (o := .lst (TL oddP)) ha2
      have k2 : (upd H1 a2 (.lst (TL oddP))) a2 = some (.lst (TL oddP)) := upd_same
      have h2 := u2 _ _ h1
      have s2 := u1.trans u2
      obtain ⟨y, hy, yin, _⟩ := tl_pick (l := oddP) (i := m / 4 % 3) (by omega) (by show _ < (3 : Int); omega)
      refine ⟨_, rfl, _, _, rfl, rfl, ⟨by decide, by decide⟩, _, _, rfl, rfl, (by show (0 : Int) < 3; decide), a2, _, _, .str y, rfl, rfl, SqL.of k2, hy, one, fun a3 ha3 => ?_⟩
      have ha3 : (upd H1 a2 (.lst (TL oddP))) a3 = none := ha3
      have u3 := same_at (o := .lst (TL [y])) ha3
      have k3 : (upd (upd H1 a2 (.lst (TL oddP))) a3 (.lst (TL [y]))) a3 = some (.lst (TL [y])) := upd_same
      have h3 := u3 _ _ h2
      have s3 := s2.trans u3
      change tSl _ _ _ _ _ (upd (upd H1 a2 (.lst (TL oddP))) a3 (.lst (TL [y]))) _
      generalize upd (upd H1 a2 (.lst (TL oddP))) a3 (.lst (TL [y])) = H3 at *
      refine ⟨_, rfl, _, rfl, a, _, rfl, SqL.of h3, fun a4 ha4 => ?_⟩
      rw [tl_cut_from (by decide)]
      have u4 := same_at (o := .lst (TL (ls.drop (1 : Int).toNat))) ha4
      refine ⟨a3, a4, TL [y], _, rfl, rfl, u4 _ _ k3, upd_same, (by rw [tl_length, tl_length, List.length_drop]; show 1 + _ ≤ _; omega), fun a5 ha5 => ?_⟩
      rw [tl_app]
      have u5 := same_at (o := .lst (TL ([y] ++ ls.drop (1 : Int).toNat))) ha5
      obtain ⟨b, hb, hbg⟩ := odd_places y yin
      exact q _ _ _ a5 _ (hL.places hb) (hbg _) (by rw [List.length_append, List.length_drop]; show 1 + _ ≤ _; omega) ((s3.trans u4).trans u5) upd_same
    refine ⟨_, rfl, _, _, rfl, rfl, (by show (0 : Int) < 4; decide), rfl, _, rfl, ?_⟩
    rw [dec_int]
    refine itd2 (fun hc2 => ?_) (fun hc2 => ?_)
    · refine ⟨_, rfl, one, fun a2 ha2 => ?_⟩
      have u2 := same_at (o := .lst (TL [Str.ofString "tie 0 0 1"])) ha2
      refine ⟨a2, 31, TL [Str.ofString "tie 0 0 1"], rfl, rfl, upd_same, by decide, by decide, (by show 31 ≤ sizeLine; omega), fun a3 ha3 => ?_⟩
      have er : (List.replicate (31 : Int).toNat (TL [Str.ofString "tie 0 0 1"])).flatten = TL (List.replicate 31 (Str.ofString "tie 0 0 1")) := rfl
      rw [er]
      have u3 := same_at (o := .lst (TL (List.replicate 31 (Str.ofString "tie 0 0 1")))) ha3
      refine ⟨a, a3, _, _, rfl, rfl, (u2.trans u3) _ _ h1, upd_same, (by rw [tl_length, tl_length, List.length_replicate]; omega), fun a4 ha4 => ?_⟩
      rw [tl_app]
      have u4 := same_at (o := .lst (TL (ls ++ List.replicate 31 (Str.ofString "tie 0 0 1")))) ha4
      refine q _ _ _ a4 _ (hL.more tie001 31) (fun g => ?_) (by rw [List.length_append, List.length_replicate]; omega) (((u1.trans u2).trans u3).trans u4) upd_same
      have := g.2.2.1
      rw [prs_len, List.length_append, List.length_replicate] at this
      omega
    refine ⟨_, rfl, _, _, rfl, rfl, ⟨by decide, by decide⟩, _, rfl, a, _, rfl, .inl (SqL.of h1), _, _, rfl, rfl, (by rw [tl_length]; omega), _, _, rfl, rfl, ?_⟩
    refine nm ?_
    dsimp only
    rw [tl_length]
    obtain ⟨j, hj⟩ : ∃ j : Nat, 1 + m / 16 % (ls.length : Int) = ((j + 1 : Nat) : Int) := by
      have a := Int.emod_nonneg (m / 16) (show (ls.length : Int) ≠ 0 by omega)
      exact ⟨(m / 16 % (ls.length : Int)).toNat, by omega⟩
    rw [hj]
    refine ⟨_, rfl, _, rfl, _, rfl, a, _, rfl, SqL.of h1, fun a2 ha2 => ?_⟩
    rw [tl_cut_to (by omega), Int.toNat_natCast]
    have u2 := same_at (o := .lst (TL (ls.take (j + 1)))) ha2
    have k2 : (upd H1 a2 (.lst (TL (ls.take (j + 1))))) a2 = some (.lst (TL (ls.take (j + 1)))) := upd_same
    have h2 := u2 _ _ h1
    have s2 := u1.trans u2
    generalize upd H1 a2 (.lst (TL (ls.take (j + 1)))) = H2 at *
    refine ⟨_, rfl, one, fun a3 ha3 => ?_⟩
    have u3 := same_at (o := .lst (TL [w])) ha3
    refine ⟨a2, a3, _, TL [w], rfl, rfl, u3 _ _ k2, upd_same, (by rw [tl_length, List.length_take]; show _ + 1 ≤ _; omega), fun a4 ha4 => ?_⟩
    rw [tl_app]
    have ha4 : (upd H2 a3 (.lst (TL [w]))) a4 = none := ha4
    have u4 := same_at (o := .lst (TL (ls.take (j + 1) ++ [w]))) ha4
    have k4 : (upd (upd H2 a3 (.lst (TL [w]))) a4 (.lst (TL (ls.take (j + 1) ++ [w])))) a4 = some (.lst (TL (ls.take (j + 1) ++ [w]))) := upd_same
    have h4 := (u3.trans u4) _ _ h2
    have s4 := s2.trans (u3.trans u4)
    change tSl _ _ _ _ _ (upd (upd H2 a3 (.lst (TL [w]))) a4 (.lst (TL (ls.take (j + 1) ++ [w])))) _
    generalize upd (upd H2 a3 (.lst (TL [w]))) a4 (.lst (TL (ls.take (j + 1) ++ [w]))) = H4 at *
    refine ⟨_, rfl, _, rfl, _, rfl, a, _, rfl, SqL.of h4, fun a5 ha5 => ?_⟩
    rw [tl_cut_from (by omega), Int.toNat_natCast]
    have u5 := same_at (o := .lst (TL (ls.drop (j + 1)))) ha5
    refine ⟨a4, a5, _, _, rfl, rfl, u5 _ _ k4, upd_same, (by rw [tl_length, tl_length, List.length_append, List.length_take, List.length_drop]; show _ + 1 + _ ≤ _; omega), fun a6 ha6 => ?_⟩
    rw [tl_app]
    have u6 := same_at (o := .lst (TL (ls.take (j + 1) ++ [w] ++ ls.drop (j + 1)))) ha6
    obtain ⟨c, d, hcd, hbad⟩ := odd_end g1 g2 hm0 (by omega) w hin
    exact q _ _ _ a6 _ (hL.put hcd j) (prs_bad hbad) (by rw [List.length_append, List.length_append, List.length_take, List.length_drop]; show _ + 1 + _ ≤ _; omega) ((s4.trans u5).trans u6) upd_same
end
end My
namespace My
open PySem L2 PyProof.Rows
set_option maxHeartbeats 4000000
def sp_law (K : PySem.W.Frag) : Sp := fun vs H Q _ => ∃ (a : Addr) (ns : List Int), vs = [.ref a] ∧ SqL K H a (IL ns) ∧ ns.length ≤ 63 ∧ ∀ H', Q (.bl true) H'
theorem kinds_good {text : Str} {bs : List Bool} {n : Int} {tr : List (List Int)} (h : KindsIs text bs) (k : LsIs (Txt.split text nlS) n tr) (g : GoodW n (prs tr)) : bs = [] := by
  rcases h with ⟨_, _, _, _, e⟩ | ⟨n', tr', ht, hg, _⟩ | ⟨hno, _⟩
  · exact e
  · obtain ⟨rfl, rfl⟩ := LsIs.uniq k ht
    exact absurd g hg
  · exact absurd ⟨n, tr, k⟩ hno
theorem kinds_bad {text : Str} {bs : List Bool} {n : Int} {tr : List (List Int)} (h : KindsIs text bs) (k : LsIs (Txt.split text nlS) n tr) (g : ¬ GoodW n (prs tr)) : bs = [false, true, true] := by
  rcases h with ⟨n', tr', ht, hg, _⟩ | ⟨_, _, _, _, e⟩ | ⟨hno, _⟩
  · obtain ⟨rfl, rfl⟩ := LsIs.uniq k ht
    exact absurd hg g
  · exact e
  · exact absurd ⟨n, tr, k⟩ hno
theorem kinds_none {text : Str} {bs : List Bool} (h : KindsIs text bs) (k : NoLs (Txt.split text nlS)) : bs = [true, false, true] := by
  rcases h with ⟨n, tr, ht, _⟩ | ⟨n, tr, ht, _⟩ | ⟨_, e⟩
  · exact absurd ⟨n, tr, ht⟩ k
  · exact absurd ⟨n, tr, ht⟩ k
  · exact e
section
variable {P : Program} {w : World} {K : PySem.W.Frag} {mg : Str → Option Value} {base : Heap} {t : Adr}
theorem sc_law : FnScope ["script", "places", "ties", "text", "k", "m", "lines", "due"] ["script"] (defScope s_law) := ⟨rfl, rfl, rfl, by decide +kernel, rfl, by decide +kernel, by decide +kernel⟩
theorem ok_law (T : Txt K mg t) : FnOk P w K mg base CX0 12 t.a_law t.d_law ["script"] (sp_law K) := by
  refine T.f_law.ok sc_law (fun vs H Q E h => ?_) (fun cdv A outer s H vs Q E hr h => ?_)
  · obtain ⟨a, ns, rfl, _⟩ := h
    rfl
  · obtain ⟨a, ns, rfl, hS, hn63, k⟩ := h
    refine ⟨_, (pss_cons (ps_asg (pe_call (ok_law_web T) (hr.mono (by decide)) rfl T.m_law_web T.f_law_web.kp T.b_law_web .nil pass0 (pa_cons (pv 0) (pa_cons pe_int (pa_cons pe_int pa_nil)))) (pg_tupK (n := 2) K rfl (pgs_cons (pg_name (i := 1) sc_law.nd rfl (Or.inl rfl)) (pgs_cons (pg_name (i := 2) sc_law.nd rfl (Or.inl rfl)) pgs_nil))))
      (pss_cons (ps_set (i := 3) sc_law.nd rfl (Or.inl rfl) (pe_call (ok_law_text T) (hr.mono (by decide)) rfl T.m_law_text T.f_law_text.kp T.b_law_text .nil pass0 (pa_cons (pv 1) (pa_cons (pv 2) (pa_cons (pe_call (ok_law_lengths T) (hr.mono (by decide)) rfl T.m_law_lengths T.f_law_lengths.kp T.b_law_lengths .nil pass0 (pa_cons (pv 0) (pa_cons (pe_callB (call_lenK K) (by rfl) T.n_len Boot.«len» (pa_cons (pv 2) pa_nil)) pa_nil))) pa_nil)))))
      (pss_cons (ps_if (pt_cmpR (op_neDK K (hu8 hr)) (pe_call (ok_law_kinds T) (hr.mono (by decide)) rfl T.m_law_kinds T.f_law_kinds.kp T.b_law_kinds .nil pass0 (pa_cons (pv 3) pa_nil)) (pe_lst pa_nil) (nomark _))
      (pss_one (ps_ret pe_bl))
      pss_nil)
      (pss_cons (ps_for PassesOwn.never rfl (pi_range1 rfl T.n_range (pa_cons (pe_callB (call_max2 rfl) (by rfl) T.n_max Boot.«max» (pa_cons pe_int (pa_cons (pe_callB (call_min2 rfl) (by rfl) T.n_min Boot.«min» (pa_cons (pe_callB (call_lenK K) (by rfl) T.n_len Boot.«len» (pa_cons (pv 0) pa_nil)) (pa_cons pe_int pa_nil))) pa_nil))) pa_nil)) (pg_name (i := 4) sc_law.nd rfl (Or.inl rfl))
      (pss_cons (ps_set (i := 5) sc_law.nd rfl (Or.inl rfl) (pe_call (ok_law_mixed T) (hr.mono (by decide)) rfl T.m_law_mixed T.f_law_mixed.kp T.b_law_mixed .nil pass0 (pa_cons (pe_call (ok_law_cell T) (hr.mono (by decide)) rfl T.m_law_cell T.f_law_cell.kp T.b_law_cell .nil pass0 (pa_cons (pv 0) (pa_cons (pv 4) pa_nil))) (pa_cons (pe_op op_add pe_int (pv 4)) pa_nil))))
      (pss_cons (ps_set (i := 6) sc_law.nd rfl (Or.inl rfl) (pe_bmK K PySem.F.plainAttrs_str PySem.F.slot_str_split PySem.F.type_str_split mt_split (pv 3) (pa_cons pe_str pa_nil)))
      (pss_cons (ps_set (i := 7) sc_law.nd rfl (Or.inl rfl) (pe_lst pa_nil))
      (pss_cons (ps_if (pt_cmpR op_gt (pe_op op_mod (pv 5) pe_int) pe_int (nomark _))
      (pss_cons (ps_set (i := 6) sc_law.nd rfl (Or.inl rfl) (pe_call (ok_law_bad_web T) (hr.mono (by decide)) rfl T.m_law_bad_web T.f_law_bad_web.kp T.b_law_bad_web .nil pass0 (pa_cons (pv 6) (pa_cons (pv 1) (pa_cons (pe_op op_fdiv (pv 5) pe_int) pa_nil)))))
      (pss_one (ps_set (i := 7) sc_law.nd rfl (Or.inl rfl) (pe_lst (pa_cons pe_bl (pa_cons pe_bl (pa_cons pe_bl pa_nil)))))))
      pss_nil)
      (pss_cons (ps_if (pt_cmpR op_lt (pe_op op_mod (pv 5) pe_int) pe_int (nomark _))
      (pss_cons (ps_set (i := 6) sc_law.nd rfl (Or.inl rfl) (pe_call (ok_law_bad_text T) (hr.mono (by decide)) rfl T.m_law_bad_text T.f_law_bad_text.kp T.b_law_bad_text .nil pass0 (pa_cons (pv 6) (pa_cons (pe_op op_fdiv (pv 5) pe_int) pa_nil))))
      (pss_one (ps_set (i := 7) sc_law.nd rfl (Or.inl rfl) (pe_lst (pa_cons pe_bl (pa_cons pe_bl (pa_cons pe_bl pa_nil)))))))
      pss_nil)
      (pss_one (ps_if (pt_cmpR (op_neDK K (hu8 hr)) (pe_call (ok_law_kinds T) (hr.mono (by decide)) rfl T.m_law_kinds T.f_law_kinds.kp T.b_law_kinds .nil pass0 (pa_cons (pe_bmK K PySem.F.plainAttrs_str PySem.F.slot_str_join PySem.F.type_str_join (mt_joinK K) pe_str (pa_cons (pv 6) pa_nil)) pa_nil)) (pv 7) (nomark _))
      (pss_one (ps_ret pe_bl))
      pss_nil))))))))
      (pss_one (ps_ret (pe_chain (op_eqDK K (hu8 hr)) (op_eqDK K (hu8 hr)) (pe_call (ok_law_kinds T) (hr.mono (by decide)) rfl T.m_law_kinds T.f_law_kinds.kp T.b_law_kinds .nil pass0 (pa_cons (pe_op op_add_str (pv 3) pe_str) pa_nil)) (pe_lst (pa_cons pe_bl (pa_cons pe_bl (pa_cons pe_bl pa_nil)))) (pe_call (ok_law_kinds T) (hr.mono (by decide)) rfl T.m_law_kinds T.f_law_kinds.kp T.b_law_kinds .nil pass0 (pa_cons pe_str pa_nil))))))))), ?_⟩
    refine ⟨_, rfl, a, ns, 14, 30, rfl, hS, hn63, by decide, by decide, by decide, by decide, fun r l n xs ps H1 s1 hr1 hl0 hl1 hP hG hnm hcc => ?_⟩
    refine ⟨r, _, rfl, SqT.of hr1, rfl, _, _, rfl, _, _, rfl, rfl, ?_⟩
    have hxl := hP.1
    have hp30 := hG.2.2.1
    refine ⟨_, rfl, _, rfl, _, rfl, _, rfl, l, xs, rfl, .inl (SqL.of hl1), a, ns, xs.length, rfl, s1.seq hS, hn63, by omega, fun b ls H2 s2 _ hb hll hT => ?_⟩
    have heq : ls.length = ps.length := by omega
    refine ⟨n, l, b, xs, ps, ls, rfl, SqL.of (s2 _ _ hl1), hP.same s2, SqL.of hb, hG, heq, hT, fun H3 s3 => ?_⟩
    refine nm ?_
    dsimp only
    obtain ⟨tr, hL, hpr⟩ := web_ls hG heq hT
    have hg : GoodW n (prs tr) := by rw [hpr]; exact hG
    have hwl : (webT n ps ls).length ≤ 31 := by rw [web_len heq]; omega
    have ok := text_ok hL.cl (by omega)
    have hsp : Txt.split (textT n ps ls) nlS = webT n ps ls := lines_of
    refine ⟨_, rfl, textT n ps ls, rfl, ok.2.1, ok.2.2, fun bs r2 H4 hK s4 hr20 hr2 => ?_⟩
    obtain rfl := kinds_good hK (by rw [hsp]; exact hL) hg
    refine ⟨Nat.zero_le _, fun e he => ?_⟩
    have u5 := same_at (o := .lst ([].map V.bl)) he
    refine ⟨1, _, r2, e, rfl, rfl, by decide, eqd_bools (bs := []) (cs := []) (SqL.of (u5 _ _ hr2)) (SqL.of upd_same), _, rfl, ?_⟩
    refine itn (c := ([] : List Bool) = []) rfl ?_
    show (_ : Prop)
    refine nx_mk ?_
    have hS5 := (s1.trans (s2.trans (s3.trans (s4.trans u5)))).seq hS
    change tFor _ _ _ _ _ (upd H4 e (.lst ([].map V.bl)))
    generalize upd H4 e (.lst ([].map V.bl)) = H5 at *
    refine ⟨_, rfl, a, _, rfl, .inl hS5, _, _, rfl, _, _, rfl, _, rfl, turns_lo (k := 10) hn63 (by decide), turns_hi (k := 10) hn63 (by decide), ?_⟩
    refine for_range (fun i σ H6 => ∃ (v4 v5 v6 v7 : Option V), σ = [some (.ref a), some (.int n), some (.ref l), some (.str (textT n ps ls)), v4, v5, v6, v7] ∧ Same H5 H6) ⟨none, none, none, none, rfl, Same.refl _⟩ ?_ ?_
    rotate_left
    · rintro σ H6 ⟨v4, v5, v6, v7, rfl, s6⟩
      have hno := no_behind hL
      have tl : (textT n ps ls).length ≤ 31 * 401 := by
        show (Str.join nlS _).length ≤ _
        rw [nl_eq]
        exact Nat.le_trans (join_len (B := 400) fun a ha => (hL.cl a ha).2) (by omega)
      have ln : (textT n ps ls ++ nlS).length = (textT n ps ls).length + 1 := by rw [str_len, Str.cps_append, Array.toList_append, List.length_append, ← str_len]; rfl
      refine ⟨_, rfl, _, _, rfl, rfl, ?_, textT n ps ls ++ nlS, rfl, ?_, ?_, fun bs r4 H9 hK s9 _ hr4 => ?_⟩
      · have z1 : 100000 ≤ sizeLine := by decide
        show _ + 1 ≤ _
        omega
      · refine ascii_iff.mpr fun d hd => ?_
        rw [Str.cps_append, Array.toList_append] at hd
        rcases List.mem_append.mp hd with hd | hd
        · exact ascii_iff.mp ok.2.1 d hd
        · have e : d ∈ [10] := hd
          rw [List.mem_singleton.mp e]
          decide
      · rw [ln]
        omega
      obtain rfl := kinds_none hK hno
      refine ⟨(by decide : 3 ≤ sizeLine), fun d hd => ?_⟩
      have ud := same_at (o := .lst ([true, false, true].map V.bl)) hd
      refine ⟨1, _, r4, d, rfl, rfl, by decide, eqd_bools (bs := [true, false, true]) (cs := [true, false, true]) (SqL.of (ud _ _ hr4)) (SqL.of upd_same), _, rfl, ?_⟩
      refine itd (c := ([true, false, true] : List Bool) = [true, false, true]) rfl ?_
      refine ⟨Str.empty, rfl, ascii_iff.mpr (by decide), by decide, fun bs r5 H10 hK2 s10 _ hr5 => ?_⟩
      obtain rfl := kinds_none hK2 no_empty
      exact ⟨1, _, d, r5, rfl, rfl, by decide, eqd_bools (bs := [true, false, true]) (cs := [true, false, true]) (SqL.of (s10 _ _ upd_same)) (SqL.of hr5), k _⟩
    rintro i σ H6 hi ⟨v4, v5, v6, v7, rfl, s6⟩
    refine ⟨_, rfl, _, rfl, a, ns, _, rfl, s6.seq hS5, by omega, fun c c0 c1 => ?_⟩
    refine ⟨_, rfl, _, _, rfl, rfl, _, _, rfl, fun m m0 m1 => ?_⟩
    refine nm ?_
    dsimp only
    have z1 : 100000 ≤ sizeLine := by decide
    have three : 3 ≤ sizeLine := by decide
    have tl := ok.2.2
    refine ⟨_, rfl, rfl, _, _, rfl, rfl, rfl, Nat.le_trans tl (by omega), ?_, fun p hp => ?_⟩
    · show (Txt.split (textT n ps ls) nlS).length ≤ _
      rw [hsp]
      omega
    have e : Txt.split (textT n ps ls) (Str.ofString "\n") = webT n ps ls := hsp
    rw [e]
    have u6 := same_at (o := .lst (TL (webT n ps ls))) hp
    have h7 : (upd H6 p (.lst (TL (webT n ps ls)))) p = some (.lst (TL (webT n ps ls))) := upd_same
    have s7 := s6.trans u6
    generalize upd H6 p (.lst (TL (webT n ps ls))) = H7 at *
    refine nm ?_
    dsimp only
    refine ⟨Nat.zero_le _, fun d hd => ?_⟩
    have ud := same_at (o := .lst ([].map V.bl)) hd
    have h8 := ud _ _ h7
    have s8 := s7.trans ud
    refine nm ?_
    dsimp only
    change tSeq _ _ _ _ (upd H7 d (.lst ([].map V.bl)))
    generalize upd H7 d (.lst ([].map V.bl)) = H8 at *
    refine ⟨_, rfl, _, _, rfl, rfl, (by show (0 : Int) < 3; decide), _, _, rfl, rfl, _, rfl, ?_⟩
    refine itd2 (fun hc => ?_) (fun hc => ?_)
    · refine ⟨_, rfl, _, rfl, _, rfl, _, _, rfl, rfl, ⟨by decide, by decide⟩, p, n, m / 9, _, tr, rfl, h8, hL, hg, by omega, by omega, fun us n' tr' r3 HA hU hbad hul sA hrA => ?_⟩
      refine nm ?_
      dsimp only
      refine ⟨three, fun d2 hd2 => ?_⟩
      have ud2 := same_at (o := .lst ([false, true, true].map V.bl)) hd2
      have hd2' : (upd HA d2 (.lst ([false, true, true].map V.bl))) d2 = some (.lst ([false, true, true].map V.bl)) := upd_same
      have hB := ud2 _ _ hrA
      have sB := (s8.trans sA).trans ud2
      refine nm ?_
      dsimp only
      change tSeq _ _ _ _ (upd HA d2 (.lst ([false, true, true].map V.bl)))
      generalize upd HA d2 (.lst ([false, true, true].map V.bl)) = HB at *
      refine ⟨_, rfl, _, _, rfl, rfl, (by show (0 : Int) < 3; decide), _, _, rfl, rfl, _, rfl, ?_⟩
      refine itd2 (fun hc2 => ?_) (fun hc2 => ?_)
      · show (_ : Prop)
        refine ⟨_, rfl, _, rfl, _, _, rfl, rfl, ⟨by decide, by decide⟩, r3, m / 27, us, n', tr', rfl, hB, hU, hul, by omega, by omega, fun ws r5 HC hN hne hcl hvl sC hrC => ?_⟩
        refine nm ?_
        dsimp only
        refine ⟨three, fun d3 hd3 => ?_⟩
        have ud3 := same_at (o := .lst ([true, false, true].map V.bl)) hd3
        have hd3' : (upd HC d3 (.lst ([true, false, true].map V.bl))) d3 = some (.lst ([true, false, true].map V.bl)) := upd_same
        have hD := ud3 _ _ hrC
        have sD := (sB.trans sC).trans ud3
        refine nm ?_
        dsimp only
        change tIfS _ _ _ _ _ (upd HC d3 (.lst ([true, false, true].map V.bl)))
        generalize upd HC d3 (.lst ([true, false, true].map V.bl)) = HD at *
        refine ⟨rfl, _, rfl, _, r5, ws, rfl, rfl, SqL.of hD, (text_ok hcl (by omega)).1, Str.join nlS ws, rfl, (text_ok hcl (by omega)).2.1, (text_ok hcl (by omega)).2.2, fun bs r4 H9 hK s9 _ hr4 => ?_⟩
        have hsp2 := lines_text hne hcl
        obtain rfl := kinds_none hK (by rw [hsp2]; exact hN)
        refine ⟨_, rfl, 1, _, r4, d3, rfl, rfl, by decide, eqd_bools (bs := [true, false, true]) (cs := [true, false, true]) (SqL.of hr4) (SqL.of (s9 _ _ hd3')), _, rfl, ?_⟩
        refine itn (c := ([true, false, true] : List Bool) = [true, false, true]) rfl ?_
        exact ⟨_, _, _, _, rfl, sD.trans s9⟩
      have hUn : us ≠ [] := fun e => by
        have := hU.many
        rw [e] at this
        cases this
      refine ⟨rfl, _, rfl, _, r3, us, rfl, rfl, SqL.of hB, (text_ok hU.cl (by omega)).1, Str.join nlS us, rfl, (text_ok hU.cl (by omega)).2.1, (text_ok hU.cl (by omega)).2.2, fun bs r4 H9 hK s9 _ hr4 => ?_⟩
      have hsp2 := lines_text hUn hU.cl
      obtain rfl := kinds_bad hK (by rw [hsp2]; exact hU) hbad
      refine ⟨_, rfl, 1, _, r4, d2, rfl, rfl, by decide, eqd_bools (bs := [false, true, true]) (cs := [false, true, true]) (SqL.of hr4) (SqL.of (s9 _ _ hd2')), _, rfl, ?_⟩
      refine itn (c := ([false, true, true] : List Bool) = [false, true, true]) rfl ?_
      exact ⟨_, _, _, _, rfl, sB.trans s9⟩
    show (_ : Prop)
    refine nx_mk ?_
    refine ⟨_, rfl, _, _, rfl, rfl, (by show (0 : Int) < 3; decide), _, _, rfl, rfl, _, rfl, ?_⟩
    refine itd (by omega) ?_
    refine ⟨_, rfl, _, rfl, _, _, rfl, rfl, ⟨by decide, by decide⟩, p, m / 27, _, n, tr, rfl, h8, hL, (by omega), by omega, by omega, fun ws r5 HC hN hne hcl hvl sC hrC => ?_⟩
    refine nm ?_
    dsimp only
    refine ⟨three, fun d3 hd3 => ?_⟩
    have ud3 := same_at (o := .lst ([true, false, true].map V.bl)) hd3
    have hd3' : (upd HC d3 (.lst ([true, false, true].map V.bl))) d3 = some (.lst ([true, false, true].map V.bl)) := upd_same
    have hD := ud3 _ _ hrC
    have sD := (s8.trans sC).trans ud3
    refine nm ?_
    dsimp only
    change tIfS _ _ _ _ _ (upd HC d3 (.lst ([true, false, true].map V.bl)))
    generalize upd HC d3 (.lst ([true, false, true].map V.bl)) = HD at *
    refine ⟨rfl, _, rfl, _, r5, ws, rfl, rfl, SqL.of hD, (text_ok hcl (by omega)).1, Str.join nlS ws, rfl, (text_ok hcl (by omega)).2.1, (text_ok hcl (by omega)).2.2, fun bs r4 H9 hK s9 _ hr4 => ?_⟩
    have hsp2 := lines_text hne hcl
    obtain rfl := kinds_none hK (by rw [hsp2]; exact hN)
    refine ⟨_, rfl, 1, _, r4, d3, rfl, rfl, by decide, eqd_bools (bs := [true, false, true]) (cs := [true, false, true]) (SqL.of hr4) (SqL.of (s9 _ _ hd3')), _, rfl, ?_⟩
    refine itn (c := ([true, false, true] : List Bool) = [true, false, true]) rfl ?_
    exact ⟨_, _, _, _, rfl, sD.trans s9⟩
end
end My
namespace My
open PySem L2
theorem law_binds {K : PySem.W.Frag} {f : Addr} {fd : FuncData} (F : Fun K "law" "law" s_law f fd) (s : Shared) (u : Value) : BindsTo s fd ⟨[u], []⟩ [("script", u)] := by
  obtain ⟨oc, od, kV, doc, pm, an, cdv, ct, osl, rfl, lk, hcd⟩ := F.ex
  exact .of_eq rfl
end My
open PySem PySem.W PyProof.Rows
set_option maxRecDepth 100000 in
set_option maxHeartbeats 0 in
theorem PySem.Challenge.cw_spanrow_k84_texts_of_no_web_holds : PySem.Challenge.rw_spanrow_k84_texts_of_no_web.Holds := by
  w_on; o_law; k_head; (case hw => w_witness2)
  k_fill
  refine L2.walk_ofK (l := PySem.Challenge.rw_spanrow_k84_texts_of_no_web) (n := 63) (k := 12) (x := "script") (CX := L2.CX0) (sp := My.sp_law) rfl (by decide) rfl ⟨rfl, by decide, by decide⟩ (fun w h Y => PySem.W.kIn_of Y) ?F (fun _ H a ns hl _ hS => ⟨a, ns, rfl, hS, hl, fun _ => rfl⟩) (fun _ _ _ _ z => z)
  case F =>
    intro w mg fa h KX G hmg
    have h_refuse_bad_web : My.FX (L2.KOf KX) mg "refuse_bad_web" "refuse_bad_web" My.s_refuse_bad_web := by
      dsimp only [L2.KOf]
      refine' My.fx_mk KX G ?a ?l ?c ?k
      (case a => k_is); (case l => k_is); (case c => k_is); (case k => k_is)
    have h_is_number : My.FX (L2.KOf KX) mg "is_number" "is_number" My.s_is_number := by
      dsimp only [L2.KOf]
      refine' My.fx_mk KX G ?a ?l ?c ?k
      (case a => k_is); (case l => k_is); (case c => k_is); (case k => k_is)
    have h_read_number : My.FX (L2.KOf KX) mg "read_number" "read_number" My.s_read_number := by
      dsimp only [L2.KOf]
      refine' My.fx_mk KX G ?a ?l ?c ?k
      (case a => k_is); (case l => k_is); (case c => k_is); (case k => k_is)
    have h_read_line : My.FX (L2.KOf KX) mg "read_line" "read_line" My.s_read_line := by
      dsimp only [L2.KOf]
      refine' My.fx_mk KX G ?a ?l ?c ?k
      (case a => k_is); (case l => k_is); (case c => k_is); (case k => k_is)
    have h_read_web : My.FX (L2.KOf KX) mg "read_web" "read_web" My.s_read_web := by
      dsimp only [L2.KOf]
      refine' My.fx_mk KX G ?a ?l ?c ?k
      (case a => k_is); (case l => k_is); (case c => k_is); (case k => k_is)
    have h_law_cell : My.FX (L2.KOf KX) mg "_law_cell" "_law_cell" My.s_law_cell := by
      dsimp only [L2.KOf]
      refine' My.fx_mk KX G ?a ?l ?c ?k
      (case a => k_is); (case l => k_is); (case c => k_is); (case k => k_is)
    have h_law_mixed : My.FX (L2.KOf KX) mg "_law_mixed" "_law_mixed" My.s_law_mixed := by
      dsimp only [L2.KOf]
      refine' My.fx_mk KX G ?a ?l ?c ?k
      (case a => k_is); (case l => k_is); (case c => k_is); (case k => k_is)
    have h_law_draws : My.FX (L2.KOf KX) mg "_law_draws" "_law_draws" My.s_law_draws := by
      dsimp only [L2.KOf]
      refine' My.fx_mk KX G ?a ?l ?c ?k
      (case a => k_is); (case l => k_is); (case c => k_is); (case k => k_is)
    have h_law_ties : My.FX (L2.KOf KX) mg "_law_ties" "_law_ties" My.s_law_ties := by
      dsimp only [L2.KOf]
      refine' My.fx_mk KX G ?a ?l ?c ?k
      (case a => k_is); (case l => k_is); (case c => k_is); (case k => k_is)
    have h_law_web : My.FX (L2.KOf KX) mg "_law_web" "_law_web" My.s_law_web := by
      dsimp only [L2.KOf]
      refine' My.fx_mk KX G ?a ?l ?c ?k
      (case a => k_is); (case l => k_is); (case c => k_is); (case k => k_is)
    have h_law_lengths : My.FX (L2.KOf KX) mg "_law_lengths" "_law_lengths" My.s_law_lengths := by
      dsimp only [L2.KOf]
      refine' My.fx_mk KX G ?a ?l ?c ?k
      (case a => k_is); (case l => k_is); (case c => k_is); (case k => k_is)
    have h_law_text : My.FX (L2.KOf KX) mg "_law_text" "_law_text" My.s_law_text := by
      dsimp only [L2.KOf]
      refine' My.fx_mk KX G ?a ?l ?c ?k
      (case a => k_is); (case l => k_is); (case c => k_is); (case k => k_is)
    have h_law_kinds : My.FX (L2.KOf KX) mg "_law_kinds" "_law_kinds" My.s_law_kinds := by
      dsimp only [L2.KOf]
      refine' My.fx_mk KX G ?a ?l ?c ?k
      (case a => k_is); (case l => k_is); (case c => k_is); (case k => k_is)
    have h_law_bad_line : My.FX (L2.KOf KX) mg "_law_bad_line" "_law_bad_line" My.s_law_bad_line := by
      dsimp only [L2.KOf]
      refine' My.fx_mk KX G ?a ?l ?c ?k
      (case a => k_is); (case l => k_is); (case c => k_is); (case k => k_is)
    have h_law_bad_text : My.FX (L2.KOf KX) mg "_law_bad_text" "_law_bad_text" My.s_law_bad_text := by
      dsimp only [L2.KOf]
      refine' My.fx_mk KX G ?a ?l ?c ?k
      (case a => k_is); (case l => k_is); (case c => k_is); (case k => k_is)
    have h_law_bad_web : My.FX (L2.KOf KX) mg "_law_bad_web" "_law_bad_web" My.s_law_bad_web := by
      dsimp only [L2.KOf]
      refine' My.fx_mk KX G ?a ?l ?c ?k
      (case a => k_is); (case l => k_is); (case c => k_is); (case k => k_is)
    have h_law : My.FX (L2.KOf KX) mg "law" "law" My.s_law := by
      dsimp only [L2.KOf]
      refine' My.fx_mk KX G ?a ?l ?c ?k
      (case a => k_is); (case l => k_is); (case c => k_is); (case k => k_is)
    have h_Web : My.CXF (L2.KOf KX) mg "Web" "Web.__init__" My.s_Web___init ["places", "ties"] := by
      dsimp only [L2.KOf]
      refine' My.cx_mk KX G ?aC ?a ?i ?l ?c ?k ?pg ?hd ?po ?sa ?mk ?kc ?na
      (case aC => k_is); (case a => k_is); (case i => k_is); (case l => k_is); (case c => k_is); (case k => k_is)
      (case pg => k_is); (case hd => k_is); (case po => k_is); (case sa => k_is); (case mk => k_is); (case kc => k_is)
      (case na => (intro f hf; simp only [List.mem_cons, List.not_mem_nil, or_false] at hf; rcases hf with rfl | rfl <;> k_is))
    have hX : ∃ A_WebError A_BadWeb A_BadText : Addr, mg "WebError" = some (.ref A_WebError) ∧ mg "BadWeb" = some (.ref A_BadWeb) ∧ mg "BadText" = some (.ref A_BadText) ∧ L2.XCls (L2.KOf KX) (A_BadWeb) ∧ L2.XCls (L2.KOf KX) (A_BadText) ∧ PySem.W.kitOne (L2.KOf KX) (.ref (A_BadWeb)) (.ref (A_BadText)) = some false ∧ PySem.W.kitOne (L2.KOf KX) (.ref (A_BadWeb)) (.type "ValueError") = some true ∧ PySem.W.exmOne (L2.KOf KX) (.ref (A_BadWeb)) (.ref (A_WebError)) = some true ∧ PySem.W.kitOne (L2.KOf KX) (.ref (A_BadText)) (.ref (A_BadWeb)) = some false ∧ PySem.W.kitOne (L2.KOf KX) (.ref (A_BadText)) (.type "ValueError") = some true ∧ PySem.W.exmOne (L2.KOf KX) (.ref (A_BadText)) (.ref (A_WebError)) = some true := by
      dsimp only [L2.KOf]
      refine' My.xI (My.xI (My.xI (⟨PySem.W.mg_of KX G ?m_WebError, PySem.W.mg_of KX G ?m_BadWeb, PySem.W.mg_of KX G ?m_BadText, ⟨?x_BadWeb_ex, ?x_BadWeb_ga, ?x_BadWeb_gh, ?x_BadWeb_cl, ?x_BadWeb_ob, ?x_BadWeb_bx⟩, ⟨?x_BadText_ex, ?x_BadText_ga, ?x_BadText_gh, ?x_BadText_cl, ?x_BadText_ob, ?x_BadText_bx⟩, ?ki_BadWeb_BadText, ?ki_BadWeb_ValueError, ?em_BadWeb, ?ki_BadText_BadWeb, ?ki_BadText_ValueError, ?em_BadText⟩)))
      (case m_WebError => k_is)
      (case m_BadWeb => k_is)
      (case m_BadText => k_is)
      (case x_BadWeb_ex => k_exc); (case x_BadWeb_ga => k_is); (case x_BadWeb_gh => k_is); (case x_BadWeb_cl => k_is); (case x_BadWeb_ob => k_is); (case x_BadWeb_bx => k_is)
      (case x_BadText_ex => k_exc); (case x_BadText_ga => k_is); (case x_BadText_gh => k_is); (case x_BadText_cl => k_is); (case x_BadText_ob => k_is); (case x_BadText_bx => k_is)
      (case ki_BadWeb_BadText => kit_is)
      (case ki_BadWeb_ValueError => kit_is)
      (case em_BadWeb => kts_exm)
      (case ki_BadText_BadWeb => kit_is)
      (case ki_BadText_ValueError => kit_is)
      (case em_BadText => kts_exm)
    have h_MOST_PLACES : ∃ tk, mg "MOST_PLACES" = some (.int 14 tk) := by
      refine' My.const_mk KX G ?a ?b
      (case a => k_is); (case b => exact ⟨_, rfl⟩)
    have h_MOST_TIES : ∃ tk, mg "MOST_TIES" = some (.int 30 tk) := by
      refine' My.const_mk KX G ?a ?b
      (case a => k_is); (case b => exact ⟨_, rfl⟩)
    have h_FIGURES : ∃ tk, mg "FIGURES" = some (.str "0123456789" tk) := by
      refine' My.const_mkS KX G ?a ?b
      (case a => k_is); (case b => exact ⟨_, rfl⟩)
    have h_MOST_FIGURES : ∃ tk, mg "MOST_FIGURES" = some (.int 60 tk) := by
      refine' My.const_mk KX G ?a ?b
      (case a => k_is); (case b => exact ⟨_, rfl⟩)
    have h_ValueError : mg "ValueError" = none := by
      refine' PySem.W.mg_none_of KX G ?a
      (case a => k_is)
    have h_any : mg "any" = none := by
      refine' PySem.W.mg_none_of KX G ?a
      (case a => k_is)
    have h_int : mg "int" = none := by
      refine' PySem.W.mg_none_of KX G ?a
      (case a => k_is)
    have h_isinstance : mg "isinstance" = none := by
      refine' PySem.W.mg_none_of KX G ?a
      (case a => k_is)
    have h_len : mg "len" = none := by
      refine' PySem.W.mg_none_of KX G ?a
      (case a => k_is)
    have h_max : mg "max" = none := by
      refine' PySem.W.mg_none_of KX G ?a
      (case a => k_is)
    have h_min : mg "min" = none := by
      refine' PySem.W.mg_none_of KX G ?a
      (case a => k_is)
    have h_range : mg "range" = none := by
      refine' PySem.W.mg_none_of KX G ?a
      (case a => k_is)
    have h_str : mg "str" = none := by
      refine' PySem.W.mg_none_of KX G ?a
      (case a => k_is)
    have h_sum : mg "sum" = none := by
      refine' PySem.W.mg_none_of KX G ?a
      (case a => k_is)
    obtain ⟨a_refuse_bad_web, d_refuse_bad_web, m_refuse_bad_web, f_refuse_bad_web⟩ := h_refuse_bad_web
    obtain ⟨a_is_number, d_is_number, m_is_number, f_is_number⟩ := h_is_number
    obtain ⟨a_read_number, d_read_number, m_read_number, f_read_number⟩ := h_read_number
    obtain ⟨a_read_line, d_read_line, m_read_line, f_read_line⟩ := h_read_line
    obtain ⟨a_read_web, d_read_web, m_read_web, f_read_web⟩ := h_read_web
    obtain ⟨a_law_cell, d_law_cell, m_law_cell, f_law_cell⟩ := h_law_cell
    obtain ⟨a_law_mixed, d_law_mixed, m_law_mixed, f_law_mixed⟩ := h_law_mixed
    obtain ⟨a_law_draws, d_law_draws, m_law_draws, f_law_draws⟩ := h_law_draws
    obtain ⟨a_law_ties, d_law_ties, m_law_ties, f_law_ties⟩ := h_law_ties
    obtain ⟨a_law_web, d_law_web, m_law_web, f_law_web⟩ := h_law_web
    obtain ⟨a_law_lengths, d_law_lengths, m_law_lengths, f_law_lengths⟩ := h_law_lengths
    obtain ⟨a_law_text, d_law_text, m_law_text, f_law_text⟩ := h_law_text
    obtain ⟨a_law_kinds, d_law_kinds, m_law_kinds, f_law_kinds⟩ := h_law_kinds
    obtain ⟨a_law_bad_line, d_law_bad_line, m_law_bad_line, f_law_bad_line⟩ := h_law_bad_line
    obtain ⟨a_law_bad_text, d_law_bad_text, m_law_bad_text, f_law_bad_text⟩ := h_law_bad_text
    obtain ⟨a_law_bad_web, d_law_bad_web, m_law_bad_web, f_law_bad_web⟩ := h_law_bad_web
    obtain ⟨a_law, d_law, m_law, f_law⟩ := h_law
    obtain ⟨A_Web, a_Web___init, d_Web___init, c_Web, f_Web___init, cl_Web, k_Web, na_Web⟩ := h_Web
    obtain ⟨A_WebError, A_BadWeb, A_BadText, c_WebError, c_BadWeb, c_BadText, x_BadWeb, x_BadText, ki_BadWeb_BadText, ki_BadWeb_ValueError, em_BadWeb, ki_BadText_BadWeb, ki_BadText_ValueError, em_BadText⟩ := hX
    have T : My.Txt (L2.KOf KX) mg ⟨a_refuse_bad_web, d_refuse_bad_web, a_Web___init, d_Web___init, a_is_number, d_is_number, a_read_number, d_read_number, a_read_line, d_read_line, a_read_web, d_read_web, a_law_cell, d_law_cell, a_law_mixed, d_law_mixed, a_law_draws, d_law_draws, a_law_ties, d_law_ties, a_law_web, d_law_web, a_law_lengths, d_law_lengths, a_law_text, d_law_text, a_law_kinds, d_law_kinds, a_law_bad_line, d_law_bad_line, a_law_bad_text, d_law_bad_text, a_law_bad_web, d_law_bad_web, a_law, d_law, A_Web, A_WebError, A_BadWeb, A_BadText⟩ := ⟨f_refuse_bad_web, f_refuse_bad_web.binds (fun _ _ _ _ _ _ us hl => by obtain ⟨_, _, rfl⟩ := My.len2 hl; rfl), m_refuse_bad_web, f_Web___init, f_Web___init.binds (fun _ _ _ _ _ _ us hl => by obtain ⟨_, _, _, rfl⟩ := My.len3 hl; rfl), f_is_number, f_is_number.binds (fun _ _ _ _ _ _ us hl => by obtain ⟨_, rfl⟩ := My.len1 hl; rfl), m_is_number, f_read_number, f_read_number.binds (fun _ _ _ _ _ _ us hl => by obtain ⟨_, rfl⟩ := My.len1 hl; rfl), m_read_number, f_read_line, f_read_line.binds (fun _ _ _ _ _ _ us hl => by obtain ⟨_, _, _, rfl⟩ := My.len3 hl; rfl), m_read_line, f_read_web, f_read_web.binds (fun _ _ _ _ _ _ us hl => by obtain ⟨_, rfl⟩ := My.len1 hl; rfl), m_read_web, f_law_cell, f_law_cell.binds (fun _ _ _ _ _ _ us hl => by obtain ⟨_, _, rfl⟩ := My.len2 hl; rfl), m_law_cell, f_law_mixed, f_law_mixed.binds (fun _ _ _ _ _ _ us hl => by obtain ⟨_, _, rfl⟩ := My.len2 hl; rfl), m_law_mixed, f_law_draws, f_law_draws.binds (fun _ _ _ _ _ _ us hl => by obtain ⟨_, _, _, _, rfl⟩ := My.len4 hl; rfl), m_law_draws, f_law_ties, f_law_ties.binds (fun _ _ _ _ _ _ us hl => by obtain ⟨_, _, _, rfl⟩ := My.len3 hl; rfl), m_law_ties, f_law_web, f_law_web.binds (fun _ _ _ _ _ _ us hl => by obtain ⟨_, _, _, rfl⟩ := My.len3 hl; rfl), m_law_web, f_law_lengths, f_law_lengths.binds (fun _ _ _ _ _ _ us hl => by obtain ⟨_, _, rfl⟩ := My.len2 hl; rfl), m_law_lengths, f_law_text, f_law_text.binds (fun _ _ _ _ _ _ us hl => by obtain ⟨_, _, _, rfl⟩ := My.len3 hl; rfl), m_law_text, f_law_kinds, f_law_kinds.binds (fun _ _ _ _ _ _ us hl => by obtain ⟨_, rfl⟩ := My.len1 hl; rfl), m_law_kinds, f_law_bad_line, f_law_bad_line.binds (fun _ _ _ _ _ _ us hl => by obtain ⟨_, _, rfl⟩ := My.len2 hl; rfl), m_law_bad_line, f_law_bad_text, f_law_bad_text.binds (fun _ _ _ _ _ _ us hl => by obtain ⟨_, _, rfl⟩ := My.len2 hl; rfl), m_law_bad_text, f_law_bad_web, f_law_bad_web.binds (fun _ _ _ _ _ _ us hl => by obtain ⟨_, _, _, rfl⟩ := My.len3 hl; rfl), m_law_bad_web, f_law, f_law.binds (fun _ _ _ _ _ _ us hl => by obtain ⟨_, rfl⟩ := My.len1 hl; rfl), m_law, c_Web, cl_Web, k_Web, na_Web _ (by simp), na_Web _ (by simp), c_WebError, c_BadWeb, c_BadText, x_BadWeb, x_BadText, ki_BadWeb_BadText, ki_BadWeb_ValueError, em_BadWeb, ki_BadText_BadWeb, ki_BadText_ValueError, em_BadText, h_MOST_PLACES, h_MOST_TIES, h_FIGURES, h_MOST_FIGURES, h_ValueError, h_any, h_int, h_isinstance, h_len, h_max, h_min, h_range, h_str, h_sum⟩
    have e0 := hmg.symm.trans m_law
    cases e0
    exact ⟨d_law, fun s u => My.law_binds f_law s u, fun base _ _ => My.ok_law T⟩
#print axioms PySem.Challenge.cw_spanrow_k84_texts_of_no_web_holds
