import PyProof.Rows.All
import Wide.All
import OpenK.AllK
import Wide.FinOn
import Lean
import PyProof.EqAt
import PyProof.EqKinds
import PyProof.TupleCall
import PySem.Challenge.RW_spanrow_k18_tables_solved
set_option Elab.async false
set_option linter.all false
set_option maxRecDepth 100000
namespace PySem.W.Fast
def tw227222589794086332:=0
def tw1369417276744062332:=0
def tw4200624726672388161:=0
def tw17338301314342097952:=0
def tw5110825845086191195:=0
def tw28596292567898499:=0
def tw6732174999948408555:=0
def tw4932484558002665407:=0
def tw7101110213044007999:=0
def tw15558495433549329725:=0
def tw11156767419200164475:=0
def tw18337520653501988263:=0
def tw16565416563996878688:=0
def tw3617981979172245155:=0
def tw3263747068808189104:=0
def tw10883365220827150061:=0
def tw5779250897104064524:=0
def tw67601075146047147:=0
def tw9698147817623527627:=0
def tw3661733261411636170:=0
def tw414381356055493420:=0
def tw12840678775350273591:=0
def tw10894383271614340782:=0
def tw6631797318695651319:=0
def tw8009730340491095473:=0
def tw6792619155379427023:=0
def tw9070757940702680509:=0
def tw16980982845908820151:=0
def tw10953686824488672568:=0
def tw10111136107971449053:=0
def tw5187348230272260345:=0
def tw8123276648067568691:=0
def tw1297729051641934575:=0
def tw8239587801680156501:=0
def tw17120628283752378824:=0
def tw13679246012437769877:=0
def tw2705666762987159743:=0
def tw11570993838365894105:=0
def tw7010398109682152146:=0
def tw8764600766897643021:=0
def tw705065407184074417:=0
def tw4540566609755136786:=0
def tw7445624286784465872:=0
def tw6603589707239602875:=0
def tw9363658779168078791:=0
def tw3094491606227044880:=0
def tw2930948870594220863:=0
def tw2952848049197432809:=0
def tw9741155902527858938:=0
def tw5441088491864527956:=0
def tw11995298520571269608:=0
def tw5997052400831255104:=0
def tw12622889425133895479:=0
def tw17063371459557219242:=0
def tw2893972867131148109:=0
def tw15470152902639319296:=0
def tw8749283189275728229:=0
def tw5071806716128305313:=0
def tw7808011163660848103:=0
def tw3398535977900269565:=0
def tw1178219395909482348:=0
def tw1773223022139343026:=0
def tw12360452503226074759:=0
def tw15443410981901122094:=0
def tw6783350917231275310:=0
def tw2959253971072425260:=0
def tw1439139650189594265:=0
def tw10119699382225313058:=0
def tw15709922274125907069:=0
def tw14351424061328834097:=0
def tw12386223842097782531:=0
def tw11268490261315078482:=0
def tw16760406848955114916:=0
def tw10683595767060554260:=0
def tw15617809931661344839:=0
def tw15073643995319677619:=0
def tw1614170350254038851:=0
def tw15362527550471447363:=0
def tw12434535498625385753:=0
def tw18392555478259022172:=0
def tw7361459595990492265:=0
def tw16140293875285858048:=0
def tw13741347824800498443:=0
def tw2466070049885296876:=0
def tw3931377571306475497:=0
def tw7811468355252481828:=0
def tw2407941883710469489:=0
def tw2813365993142975957:=0
def tw16575013137982604540:=0
def tw707732707403054137:=0
def tw15093930809078264318:=0
def tw11301008524486517521:=0
def tw14324631254085695412:=0
def tw15036073656118427952:=0
def tw388417136335382460:=0
def tw5047669460017643462:=0
def tw17036816130125101876:=0
def tw7634025967791761346:=0
def tw5196597544421885473:=0
def tw13997603130196408170:=0
def tw2805112459617214858:=0
def tw889109275762066120:=0
def tw7115323945836718396:=0
def tw13395164143438306422:=0
def tw15589645562085267892:=0
def tw16593140202262611272:=0
def tw15392391201414275015:=0
def tw9477329192745156210:=0
def tw8946288789023261086:=0
def tw6095143266276883650:=0
def tw9601188246248473635:=0
def tw9551740277126180599:=0
def tw8931923789518054585:=0
def tw8875660079039963805:=0
def tw8643779090910355441:=0
def tw7161107286298106918:=0
def tw6389968963107307934:=0
def tw623909190887656660:=0
def tw5693440943394265600:=0
def tw5208659071044917591:=0
def tw3497086673299215504:=0
def tw3448494206302480994:=0
def tw3375609668024625742:=0
def tw3302215406681854373:=0
def tw3041990641247368257:=0
def tw2945840778050243972:=0
def tw2868042509933031082:=0
def tw2850008369935731260:=0
def tw2504759234595312729:=0
def tw18254823513994601549:=0
def tw17534115166051907742:=0
def tw16715501955724878184:=0
def tw1648727493776679555:=0
def tw16128571084250033961:=0
def tw14952097803194652374:=0
def tw13681519260973128375:=0
def tw13338401066033344111:=0
def tw12573624254645056594:=0
def tw12286538807071470476:=0
def tw12242698095823653886:=0
def tw11862415025883192105:=0
def tw10519899256055930090:=0
def tw10279430058424830084:=0
end PySem.W.Fast
/-! THE HAND LAYER, for ints, bools, texts, own classes, LISTS and tuples (index, slices, in, append, pop ..), calls, loops. Paste it whole ahead of your own text; what your proof does not reach may be deleted. -/
namespace L2
open PySem PySem.Spec PyProof.Rows

/-- a key: an int or a str -/
abbrev Key := Sum Int Str
def keyIs : Key → Value → Bool
  | .inl k, v => Value.isInt k v
  | .inr x, v => Value.isStrOf x v
def keyH (w : World) : Key → Int
  | .inl k => hashInt k
  | .inr x => hashStr w x
theorem keyIs_shape : ∀ {k : Key} {v : Value}, keyIs k v = true → (∃ i t, k = Sum.inl i ∧ v = Value.int i t) ∨ (∃ x t, k = Sum.inr x ∧ v = Value.str x t)
  | .inl i, v, h => by
    obtain ⟨t, e⟩ := Value.isInt_shape (k := i) (v := v) h
    exact .inl ⟨i, t, rfl, e⟩
  | .inr x, v, h => by
    obtain ⟨t, e⟩ := Value.isStrOf_shape (x := x) (v := v) h
    exact .inr ⟨x, t, rfl, e⟩
theorem key_ll (a b : Int) : decide ((Sum.inl a : Key) = Sum.inl b) = (a == b) := by
  by_cases e : a = b
  · subst e; simp
  · have h : ¬ (Sum.inl a : Key) = Sum.inl b := fun q => e (Sum.inl.inj q)
    rw [decide_eq_false h]
    exact (beq_eq_false_iff_ne.mpr e).symm
theorem key_rr (a b : Str) : decide ((Sum.inr a : Key) = Sum.inr b) = decide (a = b) := by
  by_cases e : a = b
  · subst e; simp
  · have h : ¬ (Sum.inr a : Key) = Sum.inr b := fun q => e (Sum.inr.inj q)
    rw [decide_eq_false h, decide_eq_false e]
theorem key_lr (a : Int) (b : Str) : decide ((Sum.inl a : Key) = Sum.inr b) = false := decide_eq_false (fun q => nomatch q)
theorem key_rl (a : Str) (b : Int) : decide ((Sum.inr a : Key) = Sum.inl b) = false := decide_eq_false (fun q => nomatch q)

def mixKind (prog : Program) (w : World) : PySem.KeyKind prog w Key where
  is := keyIs
  hash := keyH w
  inj := fun v a b ha hb => by
    rcases keyIs_shape ha with ⟨i, t, rfl, rfl⟩ | ⟨x, t, rfl, rfl⟩
    · rcases keyIs_shape hb with ⟨j, u, rfl, e⟩ | ⟨y, u, rfl, e⟩
      · injection e with e1 _; rw [e1]
      · exact nomatch e
    · rcases keyIs_shape hb with ⟨j, u, rfl, e⟩ | ⟨y, u, rfl, e⟩
      · exact nomatch e
      · injection e with e1 _; rw [e1]
  byValue := fun k v h => by
    rcases keyIs_shape h with ⟨i, t, rfl, rfl⟩ | ⟨x, t, rfl, rfl⟩ <;> rfl
  pyHash := fun hv h => by
    rcases keyIs_shape hv with ⟨i, t, rfl, rfl⟩ | ⟨x, t, rfl, rfl⟩
    · exact wpAny_pyHash_int h
    · exact wpAny_pyHash_str h
  eqBool := fun hu hv h => by
    rcases keyIs_shape hu with ⟨i, t, rfl, rfl⟩ | ⟨x, t, rfl, rfl⟩
    · rcases keyIs_shape hv with ⟨j, u, rfl, rfl⟩ | ⟨y, u, rfl, rfl⟩
      · rw [key_ll] at h; exact wpAny_eqBool_int h
      · rw [key_lr] at h; exact SeqAt.EqAt.int_str i t y u _ _ _ _ h
    · rcases keyIs_shape hv with ⟨j, u, rfl, rfl⟩ | ⟨y, u, rfl, rfl⟩
      · rw [key_rl] at h; exact SeqAt.EqAt.str_int x t j u _ _ _ _ h
      · rw [key_rr] at h; exact wpAny_eqBool_str h
  «strs» := fun k x t v h => by
    rcases keyIs_shape h with ⟨i, u, rfl, e⟩ | ⟨y, u, rfl, e⟩
    · exact nomatch e
    · injection e with e1 _
      subst e1
      cases v <;> rfl

end L2

namespace L2
open PySem PySem.Spec PyProof.Rows

/-- a value, without the heap -/
inductive V where
  | non | bl (b : Bool) | int (i : Int) | str (x : Str) | byt (b : Array UInt8) | flt (b : UInt64) | ref (a : Addr) | ty (n : String)
  deriving DecidableEq

def RelV : V → Value → Prop
  | .non, u => u = Value.none
  | .bl b, u => u = Value.bool b
  | .int i, u => ∃ t, u = Value.int i t
  | .str x, u => ∃ t, u = Value.str x t
  | .byt b, u => ∃ t, u = Value.bytes b t
  | .flt b, u => ∃ t, u = Value.float b t
  | .ref a, u => u = Value.ref a
  | .ty n, u => u = Value.type n

abbrev Vals : List V → List Value → Prop := Paired RelV
theorem Vals.length {xs : List V} {us : List Value} (r : Vals xs us) : xs.length = us.length := Paired.length r
theorem Vals.get : ∀ {xs : List V} {us : List Value} {i : Nat} {x : V}, Vals xs us → xs[i]? = some x → ∃ u, us[i]? = some u ∧ RelV x u
  | _, _, _, _, .nil, e => by simp at e
  | _, _, 0, _, .cons r _, e => by simp at e; subst e; exact ⟨_, rfl, r⟩
  | _, _, i + 1, x, .cons _ t, e => by
    obtain ⟨u, h1, h2⟩ := Vals.get (i := i) (x := x) t (by simpa using e)
    exact ⟨u, by simpa using h1, h2⟩
theorem Vals.set {x : V} {u : Value} (r : RelV x u) : ∀ {xs : List V} {us : List Value} (i : Nat), Vals xs us → Vals (xs.set i x) (us.set i u)
  | _, _, _, .nil => .nil
  | _, _, 0, .cons _ t => .cons r t
  | _, _, i + 1, .cons q t => .cons q (Vals.set r i t)
theorem Vals.append : ∀ {xs ys : List V} {us ws : List Value}, Vals xs us → Vals ys ws → Vals (xs ++ ys) (us ++ ws)
  | _, _, _, _, .nil, s => s
  | _, _, _, _, .cons r t, s => .cons r (Vals.append t s)
theorem Vals.take : ∀ {xs : List V} {us : List Value} (n : Nat), Vals xs us → Vals (xs.take n) (us.take n)
  | _, _, 0, _ => .nil
  | _, _, _ + 1, .nil => .nil
  | _, _, n + 1, .cons r t => .cons r (Vals.take n t)
theorem Vals.drop : ∀ {xs : List V} {us : List Value} (n : Nat), Vals xs us → Vals (xs.drop n) (us.drop n)
  | _, _, 0, r => r
  | _, _, _ + 1, .nil => .nil
  | _, _, n + 1, .cons _ t => Vals.drop n t
def RelO : Option V → Option Value → Prop
  | some v, some u => RelV v u
  | none, none => True
  | _, _ => False
def KV {κ : Type} : List (κ × V) → List (κ × Value) → Prop := Paired fun (p : κ × V) (q : κ × Value) => p.1 = q.1 ∧ RelV p.2 q.2

/-- a key of a dict (00_mix): an int or a text -/
def kV : Key → V
  | .inl i => .int i
  | .inr x => .str x

/-- what stands at a tracked address -/
inductive HO where
  /-- a list -/
  | lst (xs : List V)
  /-- a tuple (never changes) -/
  | tup (xs : List V)
  /-- a dict whose keys are ints and texts; one whose keys are tuples of ints and texts (the empty one is both) -/
  | dK (kvs : List (Key × V)) | dT (kvs : List (List Key × V))
  /-- a set of ints: its members, its size -/
  | set (S : Int → Bool) (n : Nat)
  /-- an instance of the class at C, its dict at dx, its attributes -/
  | ins (C dx : Addr) (fs : List (Str × V))
  /-- the dict of the instance at x -/
  | own (x : Addr)
  /-- the dict of an exception -/
  | xd (fs : List (Str × V))
  /-- a bound method, f of x -/
  | met (f x : Addr)
  /-- a range object lo, lo + 1, .. below hi -/
  | rng (lo hi : Int)
  /-- a thing that is known to the object (the script; a dict while a loop walks it): read, never written while it is so -/
  | frz (o : Obj) (u : HO)
  /-- a code object's table -/
  | tbl (ps : Array Value)
  /-- any other thing, by what is true of its one object (a def of one's own: SetO a S n := HO.ext fun h => ..) -/
  | ext (φ : Heap → Prop)

abbrev Hp := Addr → Option HO
def upd (H : Hp) (a : Addr) (o : HO) : Hp := fun b => if b = a then some o else H b
theorem upd_same {H : Hp} {a : Addr} {o : HO} : upd H a o a = some o := by unfold upd; rw [if_pos rfl]
theorem upd_ne {H : Hp} {a b : Addr} {o : HO} (h : b ≠ a) : upd H a o b = H b := by unfold upd; rw [if_neg h]
theorem ne_of_none {H : Hp} {a b : Addr} {o : HO} (h : H a = some o) (h' : H b = none) : a ≠ b := by
  intro e; subst e; rw [h] at h'; cases h'

section
variable (P : Program) (w : World)
def ObjOk (H : Hp) (h : Heap) (a : Addr) : HO → Prop
  | .lst xs => xs.length ≤ sizeLine ∧ ∃ (its : List Value) (n : Nat), Vals xs its ∧ h.get? a = some { cls := .type "list", data := .seq its.toArray n }
  | .tup xs => xs.length ≤ sizeLine ∧ ∃ its : List Value, Vals xs its ∧ IsTup h a its.toArray
  | .dK kvs => kvs.length ≤ sizeLine ∧ (a == sysModules) = false ∧ ∃ vs, KV kvs vs ∧ h.DictOf (mixKind P w) a vs
  | .dT kvs => kvs.length ≤ sizeLine ∧ (a == sysModules) = false ∧ ∃ xs : List (List Key × Addr × Value),
      Paired (fun (p : List Key × V) (q : List Key × Addr × Value) => p.1 = q.1 ∧ H q.2.1 = some (.tup (p.1.map kV)) ∧ RelV p.2 q.2.2) kvs xs ∧
      ∃ o es ep, h.get? a = some o ∧ o.ExactDict ∧ o.data = .dict es ep ∧ es.toList = xs.map (entryOfKey (tupleKind (mixKind P w))) ∧ (xs.map (·.1)).Nodup
  | .set S n => h.SetOf (intKind P w) a S n
  | .ins C dx fs => H dx = some (.own a) ∧ fs.length ≤ 1000 ∧ dx ≠ a ∧ h.get? a = some (PySem.W.instObj C dx) ∧
      ∃ mA, h.Ns1 dx mA ∧ (∀ f, RelO (fs.lookup f) (mA f)) ∧ PySem.Within mA (fs.map (·.1))
  | .own _ => ∃ o, h.get? a = some o
  | .xd fs => ∃ mA, h.Ns1 a mA ∧ ∀ f, RelO (fs.lookup f) (mA f)
  | .rng lo hi => ∃ t u v, h.get? a = some { cls := .type "range", data := .fields #[.int lo t, .int hi u, .int 1 v] }
  | .frz o u => h.get? a = some o ∧ ObjOk H h a u
  | .tbl ps => h.get? a = some { cls := .none, data := .fields ps }
  | .met f x => h.get? a = some (PySem.W.methodObj (.ref f) (.ref x))
  | .ext φ => φ h ∧ (∃ o, h.get? a = some o) ∧ ∀ h1 h2 : Heap, φ h1 → (∀ o, h1.get? a = some o → h2.get? a = some o) → φ h2
/-- the abstract heap is held -/
def HOk (H : Hp) (h : Heap) : Prop := ∀ a o, H a = some o → ObjOk P w H h a o
end

section
variable {P : Program} {w : World} {H H' : Hp} {h h' : Heap} {a : Addr} {o : HO}
theorem ObjOk.lt (x : ObjOk P w H h a o) : a < h.objs.size := by
  cases o with
  | lst xs => obtain ⟨_, _, _, _, e⟩ := x; exact Heap.lt_size e
  | tup xs => obtain ⟨_, _, _, p⟩ := x; exact p.lt
  | dK kvs => obtain ⟨_, _, _, _, o, _, _, e, _⟩ := x; exact Heap.lt_size e
  | dT kvs => obtain ⟨_, _, _, _, o, _, _, e, _⟩ := x; exact Heap.lt_size e
  | set S n => obtain ⟨o, _, _, _, e, _⟩ := x; exact Heap.lt_size e
  | ins C dx fs => obtain ⟨_, _, _, e, _⟩ := x; exact Heap.lt_size e
  | own y => obtain ⟨_, e⟩ := x; exact Heap.lt_size e
  | xd fs => obtain ⟨_, ⟨_, _, _, e, _⟩, _⟩ := x; exact Heap.lt_size e
  | rng lo hi => obtain ⟨_, _, _, e⟩ := x; exact Heap.lt_size e
  | frz ob u => obtain ⟨e, _⟩ := x; exact Heap.lt_size e
  | tbl ps => exact Heap.lt_size (show h.get? a = some _ from x)
  | met f y => exact Heap.lt_size (show h.get? a = some _ from x)
  | ext φ => obtain ⟨_, ⟨_, e⟩, _⟩ := x; exact Heap.lt_size e
theorem Paired.mapP {α β : Type} {F G : α → β → Prop} : ∀ {l₁ : List α} {l₂ : List β}, Paired F l₁ l₂ → (∀ a b, F a b → G a b) → Paired G l₁ l₂
  | _, _, .nil, _ => .nil
  | _, _, .cons r t, f => .cons (f _ _ r) (Paired.mapP t f)
/-- what an object's description leans on: its own object, its own dict, the tuples -/
theorem ObjOk.stay (x : ObjOk P w H h a o) (k : ∀ b u, (b = a ∨ H b = some (.own a)) → h.get? b = some u → h'.get? b = some u)
    (ho : ∀ b, H b = some (.own a) → H' b = some (.own a)) (ht : ∀ b xs, H b = some (.tup xs) → H' b = some (.tup xs)) : ObjOk P w H' h' a o := by
  induction o with
  | lst xs => obtain ⟨z, its, n, r, e⟩ := x; exact ⟨z, its, n, r, k _ _ (.inl rfl) e⟩
  | tup xs => obtain ⟨z, its, r, ob, e, c⟩ := x; exact ⟨z, its, r, ob, k _ _ (.inl rfl) e, c⟩
  | dK kvs => obtain ⟨z, y, vs, r, ob, es, ep, e, c⟩ := x; exact ⟨z, y, vs, r, ob, es, ep, k _ _ (.inl rfl) e, c⟩
  | dT kvs =>
    obtain ⟨z, y, xs, r, ob, es, ep, e, c⟩ := x
    exact ⟨z, y, xs, Paired.mapP r fun p q z => ⟨z.1, ht _ _ z.2.1, z.2.2⟩, ob, es, ep, k _ _ (.inl rfl) e, c⟩
  | set S n => obtain ⟨ob, es, ep, t, e, c⟩ := x; exact ⟨ob, es, ep, t, k _ _ (.inl rfl) e, c⟩
  | ins C dx fs =>
    obtain ⟨d, z, ne, e, mA, ⟨od, es, ep, e2, c⟩, r⟩ := x
    exact ⟨ho _ d, z, ne, k _ _ (.inl rfl) e, mA, ⟨od, es, ep, k _ _ (.inr d) e2, c⟩, r⟩
  | own y => obtain ⟨ob, e⟩ := x; exact ⟨ob, k _ _ (.inl rfl) e⟩
  | xd fs => obtain ⟨mA, ⟨od, es, ep, e, c⟩, r⟩ := x; exact ⟨mA, ⟨od, es, ep, k _ _ (.inl rfl) e, c⟩, r⟩
  | rng lo hi => obtain ⟨t, u, v, e⟩ := x; exact ⟨t, u, v, k _ _ (.inl rfl) e⟩
  | frz ob u ih => obtain ⟨e, q⟩ := x; exact ⟨k _ _ (.inl rfl) e, ih q⟩
  | tbl ps =>
    have e : h.get? a = some { cls := .none, data := .fields ps } := x
    show h'.get? a = some { cls := .none, data := .fields ps }
    exact k a _ (.inl rfl) e
  | met f y =>
    have e : h.get? a = some (PySem.W.methodObj (.ref f) (.ref y)) := x
    show h'.get? a = some (PySem.W.methodObj (.ref f) (.ref y))
    exact k a _ (.inl rfl) e
  | ext φ => obtain ⟨p, ⟨o, e⟩, st⟩ := x; exact ⟨st _ _ p fun o q => k _ _ (.inl rfl) q, ⟨o, k _ _ (.inl rfl) e⟩, st⟩
theorem HOk.lt (x : HOk P w H h) (e : H a = some o) : a < h.objs.size := (x a o e).lt
theorem HOk.fresh (x : HOk P w H h) (e : h.objs.size ≤ a) : H a = none := by
  cases q : H a with
  | none => rfl
  | some u => exact absurd (Nat.lt_of_lt_of_le (x.lt q) e) (Nat.lt_irrefl _)
/-- every object of the heap is kept -/
theorem HOk.kept (x : HOk P w H h) (k : ∀ b u, h.get? b = some u → h'.get? b = some u) : HOk P w H h' := fun a o e =>
  (x a o e).stay (fun b u _ q => k b u q) (fun _ q => q) fun _ _ q => q
/-- a new object is laid and tracked -/
theorem HOk.laid (x : HOk P w H h) (k : ∀ b u, h.get? b = some u → h'.get? b = some u) (hp : h.objs.size ≤ a) (new : ObjOk P w (upd H a o) h' a o) : HOk P w (upd H a o) h' := fun b u e => by
  have hn := x.fresh hp
  by_cases hb : b = a
  · subst hb; rw [upd_same] at e; cases e; exact new
  · rw [upd_ne hb] at e
    exact (x b u e).stay (fun c v _ q => k c v q) (fun c q => by rw [upd_ne (ne_of_none q hn)]; exact q) fun c xs q => by rw [upd_ne (ne_of_none q hn)]; exact q
end

/-- what may be read as u: it is u, or a known u -/
def Rd (H : Hp) (a : Addr) (u : HO) : Prop := H a = some u ∨ ∃ o, H a = some (.frz o u)
theorem Rd.ok {P : Program} {w : World} {H : Hp} {h : Heap} {a : Addr} {u : HO} (r : Rd H a u) (x : HOk P w H h) : ObjOk P w H h a u := by
  rcases r with r | ⟨o, r⟩
  · exact x a u r
  · obtain ⟨_, q⟩ := x a _ r
    exact q
/-- what may be written -/
def Mut : Option HO → Prop
  | some (.lst _) => True
  | some (.dK _) => True
  | some (.dT _) => True
  | some (.set _ _) => True
  | some (.ins _ _ _) => True
  | some (.ext _) => True
  | _ => False
section
variable {P : Program} {w : World} {H : Hp} {h h' : Heap} {x e : Addr} {o' : HO}
/-- the object at e is changed: x itself, or the dict of the instance x -/
theorem HOk.write (ok : HOk P w H h) (mu : Mut (H x)) (he : e = x ∨ H e = some (.own x)) (k : ∀ b u, b ≠ e → h.get? b = some u → h'.get? b = some u) (heo : ∃ u, h'.get? e = some u)
    (new : ObjOk P w (upd H x o') h' x o') : HOk P w (upd H x o') h' := fun b u q => by
  have nown : ∀ c y, H c = some (.own y) → c ≠ x := fun c y r z => by subst z; rw [r] at mu; exact mu
  have ntup : ∀ c xs, H c = some (.tup xs) → c ≠ x := fun c xs r z => by subst z; rw [r] at mu; exact mu
  by_cases hb : b = x
  · subst hb; rw [upd_same] at q; cases q; exact new
  · rw [upd_ne hb] at q
    by_cases hbe : b = e
    · have q' : H b = some (.own x) := by
        rcases he with z | z
        · exact absurd (hbe.trans z) hb
        · rw [hbe]; exact z
      rw [q] at q'; cases q'
      obtain ⟨v, hv⟩ := heo
      exact ⟨v, by rw [hbe]; exact hv⟩
    · refine (ok b u q).stay (fun c v hc r => k c v ?_ r) (fun c r => by rw [upd_ne (nown c b r)]; exact r) fun c xs r => by rw [upd_ne (ntup c xs r)]; exact r
      rcases hc with rfl | hc
      · exact hbe
      · rintro rfl
        rcases he with z | z
        · exact nown c b hc z
        · rw [hc] at z; cases z; exact hb rfl
end

/-! ### kept unless tracked; of the frames at fs (the callers') the slots may change (an exception that passes writes there); of the records at ex (iterators) nothing is said -/
structure Un (fs ex : List Addr) (H H' : Hp) (h h' : Heap) : Prop where
  keep : ∀ b o, h.get? b = some o → H b = none → b ∉ fs → b ∉ ex → h'.get? b = some o
  slot : ∀ b o, h.get? b = some o → H b = none → b ∈ fs → b ∉ ex → ∃ sl, h'.get? b = some { o with slots := sl }
  free : ∀ b o, h.get? b = some o → H b = none → b ∉ ex → H' b = none
  there : ∀ b o, h.get? b = some o → b ∉ ex → ∃ o', h'.get? b = some o'
  tups : ∀ b xs, H b = some (.tup xs) → H' b = some (.tup xs)
  frzs : ∀ b o u, H b = some (.frz o u) → H' b = some (.frz o u)
  tbls : ∀ b ps, H b = some (.tbl ps) → ∃ more, H' b = some (.tbl (ps ++ more))
section
variable {fs fs' ex ex' : List Addr} {H H1 H2 : Hp} {h h1 h2 h' : Heap} {a x e : Addr} {o : HO}
theorem Un.any (u : Un fs ex H H1 h h1) {b : Addr} {ob : Obj} (q : h.get? b = some ob) (n : H b = none) (hx : b ∉ ex) : ∃ sl, h1.get? b = some { ob with slots := sl } := by
  by_cases hb : b ∈ fs
  · exact u.slot b ob q n hb hx
  · exact ⟨ob.slots, u.keep b ob q n hb hx⟩
theorem Un.trans (a : Un fs ex H H1 h h1) (b : Un fs ex H1 H2 h1 h2) : Un fs ex H H2 h h2 where
  keep := fun c ob q n hc hx => b.keep c ob (a.keep c ob q n hc hx) (a.free c ob q n hx) hc hx
  slot := fun c ob q n hc hx => by
    obtain ⟨sl, e1⟩ := a.slot c ob q n hc hx
    obtain ⟨sl', e2⟩ := b.slot c _ e1 (a.free c ob q n hx) hc hx
    exact ⟨sl', e2⟩
  free := fun c ob q n hx => by
    obtain ⟨o', e1⟩ := a.there c ob q hx
    exact b.free c o' e1 (a.free c ob q n hx) hx
  there := fun c ob q hx => by
    obtain ⟨o', e1⟩ := a.there c ob q hx
    exact b.there c o' e1 hx
  tups := fun c xs q => b.tups c xs (a.tups c xs q)
  frzs := fun c ob xs q => b.frzs c ob xs (a.frzs c ob xs q)
  tbls := fun c ps q => by
    obtain ⟨m1, e1⟩ := a.tbls c ps q
    obtain ⟨m2, e2⟩ := b.tbls c _ e1
    exact ⟨m1 ++ m2, by rw [e2, Array.append_assoc]⟩
theorem Un.kept (k : ∀ b u, h.get? b = some u → h'.get? b = some u) : Un fs ex H H h h' :=
  ⟨fun b ob q _ _ _ => k b ob q, fun b ob q _ _ _ => ⟨ob.slots, k b ob q⟩, fun _ _ _ n _ => n, fun b ob q _ => ⟨ob, k b ob q⟩, fun _ _ q => q, fun _ _ _ q => q, fun _ ps q => ⟨#[], by rw [q]; simp⟩⟩
theorem Un.refl : Un fs ex H H h h := Un.kept fun _ _ q => q
theorem Un.laid (k : ∀ b u, h.get? b = some u → h'.get? b = some u) (hp : h.objs.size ≤ a) (hn : H a = none) : Un fs ex H (upd H a o) h h' where
  keep := fun b u q _ _ _ => k b u q
  slot := fun b u q _ _ _ => ⟨u.slots, k b u q⟩
  free := fun b u q n _ => by rw [upd_ne (Nat.ne_of_lt (Nat.lt_of_lt_of_le (Heap.lt_size q) hp))]; exact n
  there := fun b u q _ => ⟨u, k b u q⟩
  tups := fun b xs q => by rw [upd_ne (ne_of_none q hn)]; exact q
  frzs := fun b u xs q => by rw [upd_ne (ne_of_none q hn)]; exact q
  tbls := fun b ps q => ⟨#[], by rw [upd_ne (ne_of_none q hn), q]; simp⟩
theorem Un.write (mu : Mut (H x)) (he : e = x ∨ H e = some (.own x)) (k : ∀ b u, b ≠ e → h.get? b = some u → h'.get? b = some u) (heo : ∃ u, h'.get? e = some u) : Un fs ex H (upd H x o) h h' := by
  have hx : ∀ b, H b = none → b ≠ x := fun b n z => by subst z; rw [n] at mu; exact mu
  have hb : ∀ b, H b = none → b ≠ e := fun b n z => by
    subst z
    rcases he with r | r
    · exact hx b n r
    · rw [n] at r; cases r
  have hm : ∀ b u, H b = some u → ¬ Mut (some u) → b ≠ x := fun b u q nm z => by subst z; rw [q] at mu; exact nm mu
  refine ⟨fun b u q n _ _ => k b u (hb b n) q, fun b u q n _ _ => ⟨u.slots, k b u (hb b n) q⟩, fun b u q n _ => by rw [upd_ne (hx b n)]; exact n, fun b u q _ => ?_,
    fun b xs q => by rw [upd_ne (hm b _ q fun z => z)]; exact q, fun b u xs q => by rw [upd_ne (hm b _ q fun z => z)]; exact q, fun b ps q => ⟨#[], by rw [upd_ne (hm b _ q fun z => z), q]; simp⟩⟩
  by_cases hbe : b = e
  · subst hbe; exact heo
  · exact ⟨u, k b u hbe q⟩
theorem Un.mono (u : Un fs ex H H1 h h1) (hs : ∀ b ∈ fs, b ∈ fs') (hx : ∀ b ∈ ex, b ∈ ex') : Un fs' ex' H H1 h h1 :=
  ⟨fun b ob q n hb he => u.keep b ob q n (fun z => hb (hs b z)) fun z => he (hx b z), fun _ _ q n _ he => u.any q n fun z => he (hx _ z), fun b ob q n he => u.free b ob q n fun z => he (hx b z), fun b ob q he => u.there b ob q fun z => he (hx b z), u.tups, u.frzs, u.tbls⟩
end

/-! ### the heap without what is tracked -/
def trk (h : Heap) (H : Hp) : List Addr := (List.range h.objs.size).filter fun a => (H a).isSome
def hidT (h : Heap) (H : Hp) : Heap := PySem.W.hideAll h (trk h H)
theorem hidT_size (h : Heap) (H : Hp) : (hidT h H).objs.size = h.objs.size := PySem.W.hideAll_size _ _
theorem hidT_get {h : Heap} {H : Hp} {b : Addr} {o : Obj} (e : h.get? b = some o) (n : H b = none) : (hidT h H).get? b = some o :=
  PySem.W.hideAll_get _ e fun hm => by
    have q : (H b).isSome = true := (List.mem_filter.mp hm).2
    rw [n] at q; simp at q
theorem of_hidT {h : Heap} {H : Hp} {b : Addr} {o : Obj} (e : (hidT h H).get? b = some o) : h.get? b = some o ∧ H b = none := by
  have e' : h.get? b = some o := PySem.W.of_hideAll (trk h H) e
  refine ⟨e', ?_⟩
  cases q : H b with
  | none => rfl
  | some x =>
    have hm : b ∈ trk h H := List.mem_filter.mpr ⟨List.mem_range.mpr (Heap.lt_size e'), by simp [q]⟩
    have z : (hidT h H).get? b = none := PySem.W.hideAll_none (trk h H) hm
    rw [z] at e; cases e

/-! ### OpenK's ledger, filled with every new object but one -/
def allNews (g h : Heap) (L : Addr) : List (Addr × Obj) := (List.range h.objs.size).filterMap fun a => if a = L ∨ (g.get? a).isSome = true then none else (h.get? a).map fun o => (a, o)
def rest (g h : Heap) (L d : Addr) : List (Addr × Obj) := (allNews g h L).filter fun p => decide (p.1 ≠ d)
end L2

namespace L2
open PySem PySem.Spec PyProof.Rows

/-- the module's facts, over the base: the heap at the law's entry without what is tracked there -/
structure Mod (K : PySem.W.Frag) (mg : Str → Option Value) (base : Heap) : Prop where
  kin : K.In base
  glob : base.Ns mainGlobals mg
  blt : ∃ mb, base.Ns builtinsNs mb ∧ ∀ x : Str, x ≠ "__name__" → mb x = bootBuiltins x
  nolimit : base.NoLimit

/-- the context: a def's body (or a comprehension's block) running. base: fixed through the whole law; s₀, H₀: the entry; outer: the frames whose slots others may change (a def's callers); stack: all frames that run;
   ex: iterators that were made ahead of the entry and are walked here (a comprehension's); fn: the names whose cells were made at the entry (a def: all; a comprehension's block: its own); calm: not within an except suite; pn: pins that every state bears; xe: what is wanted of an exception that leaves the code -/
structure Cx where
  prog : Program
  w : World
  K : PySem.W.Frag
  mg : Str → Option Value
  base : Heap
  A : Around
  N : List Str
  s₀ : Shared
  H₀ : Hp
  env : Env
  outer : List Env
  stack : List Env
  ex : List Addr
  fn : Str → Bool
  calm : Bool
  pn : List (Addr × Obj)
  xe : Value → Shared → Prop
/-- the callers' frames -/
def frs (l : List Env) : List Addr := l.filterMap (·.frame)
abbrev Cx.fs (X : Cx) : List Addr := frs X.outer

def Vis (sc : Scope) (x : Str) : Prop := sc.names.lookup x = some .local ∨ sc.names.lookup x = some .cell ∨ sc.names.lookup x = some .free
def Loc (sc : Scope) (x : Str) : Prop := sc.names.lookup x = some .local ∨ sc.names.lookup x = some .cell
def Look (env : Env) (h : Heap) (m : Str → Option Value) (x : Str) (u : Value) : Prop :=
  (env.kindOf x = some .local ∧ m x = some u) ∨ ((env.kindOf x = some .cell ∨ env.kindOf x = some .free) ∧ ∃ c, env.cells.lookup x = some c ∧ h.IsCell c (some u))

structure Cx.Ok (X : Cx) : Prop where
  mod : Mod X.K X.mg X.base
  kind : X.env.scope.kind = .function
  glob : X.env.globals = mainGlobals
  blt : X.env.builtins = builtinsNs
  above : X.s₀.heap.objs.size ≤ X.env.locals
  inj : ∀ x y c, X.env.cells.lookup x = some c → X.env.cells.lookup y = some c → x = y
  has : ∀ x, (X.env.kindOf x = some .cell ∨ X.env.kindOf x = some .free) → ∃ c, X.env.cells.lookup x = some c
  cab : ∀ x c, X.fn x = true → X.env.cells.lookup x = some c → X.s₀.heap.objs.size ≤ c
  hd : X.calm = true → X.A.handled = none
  frames : X.A.frames = some X.stack
  stk : X.stack = X.outer ∨ (X.stack = X.env :: X.outer ∧ X.env.frame = some X.env.locals)
  exf : ∀ b ∈ X.ex, b ≠ X.env.locals ∧ ∀ x c, X.env.cells.lookup x = some c → c ≠ b
  bs : ∀ b o, X.base.get? b = some o → X.s₀.heap.get? b = some o ∧ X.H₀ b = none
  bsz : X.base.objs.size ≤ X.s₀.heap.objs.size
  noex : ∀ b o, X.base.get? b = some o → b ∉ X.ex
  exfs : ∀ b ∈ X.ex, b ∉ X.fs
  funs : X.s₀.heap.FunFrames X.base X.outer
  frf : ∀ b ∈ X.fs, X.H₀ b = none

structure Inv (X : Cx) (pins : List (Addr × Obj)) (σ : List (Option V)) (H : Hp) (s : Shared) : Prop where
  ok : X.Ok
  os : s.os = X.s₀.os
  bare : AllBare s.gens
  base : Un X.fs X.ex X.H₀ H X.s₀.heap s.heap
  loc : ∃ m, s.heap.Ns X.env.locals m ∧ ∀ (i : Nat) (x : Str) (v : V), X.N[i]? = some x → σ[i]? = some (some v) → Vis X.env.scope x → ∃ u, RelV v u ∧ Look X.env s.heap m x u
  cell : ∀ x c, X.env.cells.lookup x = some c → ∃ v, s.heap.IsCell c v
  free : H X.env.locals = none
  freeC : ∀ x c, X.env.cells.lookup x = some c → H c = none
  pin : ∀ p ∈ X.pn ++ pins, s.heap.get? p.1 = some p.2 ∧ H p.1 = none ∧ p.1 ≠ X.env.locals ∧ p.1 ∉ X.fs ∧ ∀ v, p.2.data ≠ .cell v
  hok : HOk X.prog X.w H s.heap
  len : σ.length = X.N.length

section
variable {X : Cx} {pins : List (Addr × Obj)} {σ : List (Option V)} {H H' : Hp} {s : Shared} {h' : Heap}

theorem Cx.Ok.nofr (ok : X.Ok) {b : Addr} {o : Obj} (e : X.base.get? b = some o) : b ∉ X.fs := fun hb => by
  have := (ok.funs.mem hb).1
  rw [e] at this; cases this
theorem Inv.bs (I : Inv X pins σ H s) : ∀ b o, X.base.get? b = some o → s.heap.get? b = some o ∧ H b = none := fun b o e =>
  ⟨I.base.keep b o (I.ok.bs b o e).1 (I.ok.bs b o e).2 (I.ok.nofr e) (I.ok.noex b o e), I.base.free b o (I.ok.bs b o e).1 (I.ok.bs b o e).2 (I.ok.noex b o e)⟩
theorem Inv.bk (I : Inv X pins σ H s) : ∀ b o, X.base.get? b = some o → s.heap.get? b = some o := fun b o e => (I.bs b o e).1
theorem Inv.mod (I : Inv X pins σ H s) : Mod X.K X.mg X.base := I.ok.mod
theorem Inv.kIn (I : Inv X pins σ H s) : X.K.In s.heap := I.ok.mod.kin.keeps I.bk
theorem Inv.lt (I : Inv X pins σ H s) : X.env.locals < s.heap.objs.size := let ⟨_, hn, _⟩ := I.loc; hn.lt
theorem Inv.sz (I : Inv X pins σ H s) : X.s₀.heap.objs.size ≤ s.heap.objs.size := Nat.le_trans I.ok.above (Nat.le_of_lt I.lt)
theorem Inv.nofs (I : Inv X pins σ H s) {a : Addr} (h : s.heap.objs.size ≤ a) : a ∉ X.fs := fun hb => by
  obtain ⟨_, o, ho, _⟩ := I.ok.funs.mem hb
  exact absurd (Nat.lt_of_lt_of_le (Heap.lt_size ho) (Nat.le_trans I.sz h)) (Nat.lt_irrefl _)
theorem Inv.cne (I : Inv X pins σ H s) : ∀ x c, X.env.cells.lookup x = some c → c ≠ X.env.locals := fun x c e z => by
  obtain ⟨v, o, ho, hd⟩ := I.cell x c e
  obtain ⟨m, ⟨o', es, ep, ho', hd', _⟩, _⟩ := I.loc
  rw [z, ho'] at ho; cases ho; rw [hd'] at hd; cases hd
theorem Inv.funs (I : Inv X pins σ H s) : s.heap.FunFrames X.base X.outer := by
  have all : ∀ (l : List Env), (∀ b ∈ frs l, b ∈ X.fs) → X.s₀.heap.FunFrames X.base l → s.heap.FunFrames X.base l := by
    intro l
    induction l with
    | nil => intro _ _; trivial
    | cons env r ih =>
      intro hs hl
      obtain ⟨hk, ⟨L, o, hf, hn, ho, hd⟩, hr⟩ := hl
      have hL : L ∈ X.fs := hs L (by unfold frs; rw [List.filterMap_cons, hf]; exact List.mem_cons_self)
      obtain ⟨sl, e⟩ := I.base.slot L o ho (I.ok.frf L hL) hL fun z => I.ok.exfs L z hL
      exact ⟨hk, ⟨L, _, hf, hn, e, hd⟩, ih (fun b hb => hs b (by unfold frs; rw [List.filterMap_cons, hf]; exact List.mem_cons_of_mem _ hb)) hr⟩
  exact all X.outer (fun _ hb => hb) I.ok.funs

/-- the frames that run, for a call -/
theorem Inv.stack (I : Inv X pins σ H s) : s.heap.FunFrames X.base X.stack := by
  rcases I.ok.stk with e | ⟨e, hf⟩
  · rw [e]; exact I.funs
  · rw [e]
    obtain ⟨m, hn, _⟩ := I.loc
    refine .cons (by rw [I.ok.kind]; decide) hf hn ?_ I.funs
    exact Heap.get?_none_of_le (Nat.le_trans I.ok.bsz I.ok.above)
theorem Inv.stkSub (I : Inv X pins σ H s) : ∀ b ∈ frs X.stack, b ∈ X.env.locals :: X.fs := fun b hb => by
  rcases I.ok.stk with e | ⟨e, hf⟩
  · rw [e] at hb; exact List.mem_cons_of_mem _ hb
  · rw [e] at hb
    unfold frs at hb
    rw [List.filterMap_cons, hf] at hb
    exact hb
theorem Inv.stkFree (I : Inv X pins σ H s) : ∀ b ∈ frs X.stack, H b = none := fun b hb => by
  rcases List.mem_cons.mp (I.stkSub b hb) with e | hb
  · rw [e]; exact I.free
  · obtain ⟨_, o, ho, _⟩ := I.ok.funs.mem hb
    exact I.base.free b o ho (I.ok.frf b hb) fun z => I.ok.exfs b z hb

/-- THE STEP: the untracked objects but the frame and the records at ch are kept (the callers' frames up to slots), the frame's map is kept, the new abstract heap is held -/
theorem Inv.step {g' : Array GenState} {t' : Nat} {d' : Drawn} {ch : List Addr} (I : Inv X pins σ H s)
    (hch : ∀ b ∈ ch, (b ∈ X.ex ∨ X.s₀.heap.objs.size ≤ b) ∧ b ≠ X.env.locals ∧ (∀ x c, X.env.cells.lookup x = some c → c ≠ b) ∧ ∀ p ∈ X.pn ++ pins, p.1 ≠ b)
    (keep : ∀ b o, b ≠ X.env.locals → b ∉ X.fs → b ∉ ch → s.heap.get? b = some o → H b = none → h'.get? b = some o)
    (slot : ∀ b o, b ≠ X.env.locals → b ∈ X.fs → b ∉ ch → s.heap.get? b = some o → H b = none → ∃ sl, h'.get? b = some { o with slots := sl }) (free : ∀ b o, b ∉ ch → s.heap.get? b = some o → H b = none → H' b = none)
    (there : ∀ b o, b ∉ ch → s.heap.get? b = some o → ∃ o', h'.get? b = some o')
    (tups : ∀ b xs, H b = some (.tup xs) → H' b = some (.tup xs)) (frzs : ∀ b o u, H b = some (.frz o u) → H' b = some (.frz o u)) (tbls : ∀ b ps, H b = some (.tbl ps) → ∃ more, H' b = some (.tbl (ps ++ more)))
    (ns : ∀ m, s.heap.Ns X.env.locals m → h'.Ns X.env.locals m) (hok : HOk X.prog X.w H' h') (hg : AllBare g') :
    Inv X pins σ H' { s with heap := h', gens := g', drawn := d', toks := t' } := by
  have neL : ∀ b o, X.s₀.heap.get? b = some o → b ≠ X.env.locals := fun b o e => Nat.ne_of_lt (Nat.lt_of_lt_of_le (Heap.lt_size e) I.ok.above)
  have neC : ∀ b o, X.s₀.heap.get? b = some o → b ∉ X.ex → b ∉ ch := fun b o e hx hb => by
    rcases (hch b hb).1 with z | z
    · exact hx z
    · exact absurd (Nat.lt_of_lt_of_le (Heap.lt_size e) z) (Nat.lt_irrefl _)
  have cellK : ∀ x c, X.env.cells.lookup x = some c → ∀ v, s.heap.IsCell c v → h'.IsCell c v := fun x c e v ⟨o, ho, hd⟩ => by
    have nch : c ∉ ch := fun z => (hch c z).2.2.1 x c e rfl
    by_cases hc : c ∈ X.fs
    · obtain ⟨sl, q⟩ := slot c o (I.cne x c e) hc nch ho (I.freeC x c e)
      exact ⟨_, q, hd⟩
    · exact ⟨o, keep c o (I.cne x c e) hc nch ho (I.freeC x c e), hd⟩
  refine ⟨I.ok, I.os, hg, ⟨fun b o e n hb hx => ?_, fun b o e n hb hx => ?_, fun b o e n hx => ?_, fun b o e hx => ?_, fun b xs e => tups b xs (I.base.tups b xs e), fun b o xs e => frzs b o xs (I.base.frzs b o xs e), fun b ps e => ?_⟩, ?_, fun x c e => ?_, ?_, fun x c e => ?_, fun p hp => ?_, hok, I.len⟩
  · exact keep b o (neL b o e) hb (neC b o e hx) (I.base.keep b o e n hb hx) (I.base.free b o e n hx)
  · obtain ⟨sl, e1⟩ := I.base.slot b o e n hb hx
    obtain ⟨sl', e2⟩ := slot b _ (neL b o e) hb (neC b o e hx) e1 (I.base.free b o e n hx)
    exact ⟨sl', e2⟩
  · obtain ⟨o', e1⟩ := I.base.there b o e hx
    exact free b o' (neC b o e hx) e1 (I.base.free b o e n hx)
  · obtain ⟨o', e1⟩ := I.base.there b o e hx
    exact there b o' (neC b o e hx) e1
  · obtain ⟨m1, e1⟩ := I.base.tbls b ps e
    obtain ⟨m2, e2⟩ := tbls b _ e1
    exact ⟨m1 ++ m2, by rw [e2, Array.append_assoc]⟩
  · obtain ⟨m, hn, hl⟩ := I.loc
    refine ⟨m, ns m hn, fun i x v e1 e2 e3 => ?_⟩
    obtain ⟨u, r, l⟩ := hl i x v e1 e2 e3
    refine ⟨u, r, ?_⟩
    rcases l with l | ⟨k, c, e, z⟩
    · exact .inl l
    · exact .inr ⟨k, c, e, cellK x c e _ z⟩
  · obtain ⟨v, z⟩ := I.cell x c e
    exact ⟨v, cellK x c e v z⟩
  · obtain ⟨m, ⟨o, _, _, ho, _⟩, _⟩ := I.loc
    exact free _ o (fun z => (hch _ z).2.1 rfl) ho I.free
  · obtain ⟨v, o, ho, hd⟩ := I.cell x c e
    exact free c o (fun z => (hch c z).2.2.1 x c e rfl) ho (I.freeC x c e)
  · obtain ⟨e, n, ne, nf, d⟩ := I.pin p hp
    have nch : p.1 ∉ ch := fun z => (hch p.1 z).2.2.2 p hp rfl
    exact ⟨keep p.1 p.2 ne nf nch e n, free p.1 p.2 nch e n, ne, nf, d⟩
/-- .. where the frame's own object is kept too -/
theorem Inv.un {t' : Nat} (I : Inv X pins σ H s) (u : Un X.fs [] H H' s.heap h') (hok : HOk X.prog X.w H' h') : Inv X pins σ H' { s with heap := h', toks := t' } := by
  obtain ⟨m, ⟨o, es, ep, ho, r⟩, _⟩ := id I.loc
  obtain ⟨sl, hL⟩ := u.any ho I.free (by simp)
  exact I.step (g' := s.gens) (d' := s.drawn) (ch := []) (fun _ z => nomatch z) (fun b o _ hb _ e n => u.keep b o e n hb (by simp)) (fun b o _ hb _ e n => u.slot b o e n hb (by simp)) (fun b o _ e n => u.free b o e n (by simp)) (fun b o _ e => u.there b o e (by simp)) u.tups u.frzs u.tbls (fun m' hm => by
    obtain ⟨o', es', ep', ho', r'⟩ := hm
    rw [ho] at ho'; cases ho'
    exact ⟨_, es', ep', hL, r'⟩) hok I.bare
/-- behind a call (or a comprehension's block): the slots of this frame may have changed too, the records at ch may have turned -/
theorem Inv.call {g' : Array GenState} {t' : Nat} {d' : Drawn} {ch : List Addr} (I : Inv X pins σ H s) (u : Un (frs X.stack) ch H H' s.heap h') (hok : HOk X.prog X.w H' h') (hg : AllBare g')
    (hch : ∀ b ∈ ch, (b ∈ X.ex ∨ X.s₀.heap.objs.size ≤ b) ∧ b ≠ X.env.locals ∧ (∀ x c, X.env.cells.lookup x = some c → c ≠ b) ∧ ∀ p ∈ X.pn ++ pins, p.1 ≠ b) :
    Inv X pins σ H' { s with heap := h', gens := g', drawn := d', toks := t' } := by
  obtain ⟨m, ⟨o, es, ep, ho, r⟩, _⟩ := id I.loc
  obtain ⟨sl, hL⟩ := u.any ho I.free fun z => (hch _ z).2.1 rfl
  exact I.step (ch := ch) hch (fun b o hL hb hc e n => u.keep b o e n (fun z => (List.mem_cons.mp (I.stkSub b z)).elim hL hb) hc) (fun b o _ _ hc e n => u.any e n hc) (fun b o hc e n => u.free b o e n hc) (fun b o hc e => u.there b o e hc) u.tups u.frzs u.tbls (fun m' hm => by
    obtain ⟨o', es', ep', ho', r'⟩ := hm
    rw [ho] at ho'; cases ho'
    exact ⟨_, es', ep', hL, r'⟩) hok hg
/-- an untracked record of ours (an iterator) has turned -/
theorem Inv.turned {t' : Nat} {it : Addr} (I : Inv X pins σ H s) (k : ∀ b o, b ≠ it → s.heap.get? b = some o → h'.get? b = some o) (hn : H it = none) (hL : it ≠ X.env.locals)
    (h1 : it ∈ X.ex ∨ X.s₀.heap.objs.size ≤ it) (h2 : ∀ x c, X.env.cells.lookup x = some c → c ≠ it) (h3 : ∀ p ∈ X.pn ++ pins, p.1 ≠ it) : Inv X pins σ H { s with heap := h', toks := t' } := by
  have nit : ∀ b u, H b = some u → b ≠ it := fun b u e z => by rw [z, hn] at e; cases e
  refine I.step (g' := s.gens) (d' := s.drawn) (ch := [it]) (fun b hb => ?_) (fun b o _ _ hc e _ => k b o (fun z => hc (by simp [z])) e) (fun b o _ _ hc e _ => ⟨o.slots, k b o (fun z => hc (by simp [z])) e⟩) (fun _ _ _ _ n => n)
    (fun b o hc e => ⟨o, k b o (fun z => hc (by simp [z])) e⟩) (fun _ _ e => e) (fun _ _ _ e => e) (fun b ps e => ⟨#[], by rw [e]; simp⟩) (fun m hm => ?_) (fun b u e => ?_) I.bare
  · have e : b = it := by simpa using hb
    subst e
    exact ⟨h1, hL, h2, h3⟩
  · obtain ⟨o, es, ep, ho, r⟩ := hm
    exact ⟨o, es, ep, k _ o (Ne.symm hL) ho, r⟩
  · refine (I.hok b u e).stay (fun c v hc q => k c v ?_ q) (fun _ q => q) fun _ _ q => q
    rcases hc with z | z
    · rw [z]; exact nit b u e
    · exact nit c _ z
theorem Inv.tok (I : Inv X pins σ H s) (t : Nat) : Inv X pins σ H { s with toks := t } := I.un (h' := s.heap) (t' := t) Un.refl I.hok
/-- all objects kept -/
theorem Inv.kept {t' : Nat} (I : Inv X pins σ H s) (k : ∀ b u, s.heap.get? b = some u → h'.get? b = some u) : Inv X pins σ H { s with heap := h', toks := t' } := I.un (Un.kept k) (I.hok.kept k)
/-- a new object laid and tracked -/
theorem Inv.laid {a : Addr} {o : HO} {t' : Nat} (I : Inv X pins σ H s) (k : ∀ b u, s.heap.get? b = some u → h'.get? b = some u) (hp : s.heap.objs.size ≤ a) (new : ObjOk X.prog X.w (upd H a o) h' a o) :
    Inv X pins σ (upd H a o) { s with heap := h', toks := t' } := I.un (Un.laid k hp (I.hok.fresh hp)) (I.hok.laid k hp new)
/-- an object written -/
theorem Inv.write {x e : Addr} {o : HO} {t' : Nat} (I : Inv X pins σ H s) (mu : Mut (H x)) (he : e = x ∨ H e = some (.own x)) (k : ∀ b u, b ≠ e → s.heap.get? b = some u → h'.get? b = some u) (heo : ∃ u, h'.get? e = some u)
    (new : ObjOk X.prog X.w (upd H x o) h' x o) : Inv X pins σ (upd H x o) { s with heap := h', toks := t' } := I.un (Un.write mu he k heo) (I.hok.write mu he k heo new)
/-- forgetting slots, pins -/
theorem Inv.weak {σ' : List (Option V)} (I : Inv X pins σ H s) (hl : σ'.length = σ.length) (w : ∀ (i : Nat) v, σ'[i]? = some (some v) → σ[i]? = some (some v)) : Inv X pins σ' H s :=
  ⟨I.ok, I.os, I.bare, I.base, let ⟨m, hn, hl'⟩ := I.loc; ⟨m, hn, fun i x v e1 e2 e3 => hl' i x v e1 (w i v e2) e3⟩, I.cell, I.free, I.freeC, I.pin, I.hok, hl.trans I.len⟩
theorem Inv.pins_of {pins' : List (Addr × Obj)} (I : Inv X pins σ H s) (h : ∀ p ∈ pins', s.heap.get? p.1 = some p.2 ∧ H p.1 = none ∧ p.1 ≠ X.env.locals ∧ p.1 ∉ X.fs ∧ ∀ v, p.2.data ≠ .cell v) : Inv X pins' σ H s :=
  ⟨I.ok, I.os, I.bare, I.base, I.loc, I.cell, I.free, I.freeC, fun p hp => (List.mem_append.mp hp).elim (fun z => I.pin p (List.mem_append_left _ z)) (h p), I.hok, I.len⟩

theorem nodup_ix {N : List Str} (hN : N.Nodup) {i j : Nat} {x : Str} (a : N[i]? = some x) (b : N[j]? = some x) : i = j := by
  obtain ⟨h1, e1⟩ := List.getElem?_eq_some_iff.mp a
  obtain ⟨h2, e2⟩ := List.getElem?_eq_some_iff.mp b
  exact (List.getElem_inj hN).mp (e1.trans e2.symm)

/-- a name is stored; what changed -/
theorem store_ok2 {M : Model} {A : Around} {E : Value → Shared → Prop} {i : Nat} {x : Str} {v : V} {u : Value} {Q : Unit → Shared → Prop} (I : Inv X pins σ H s) (hN : X.N.Nodup) (hi : X.N[i]? = some x) (hx : Loc X.env.scope x) (r : RelV v u)
    (h : ∀ s', Inv X pins (σ.set i (some v)) H s' → (∃ a, Heap.SameBut a s.heap s'.heap ∧ (a = X.env.locals ∨ X.env.cells.lookup x = some a)) → Q () s') (hf : X.fn x = true ∨ X.env.scope.names.lookup x = some .local := by first | exact .inl rfl | exact .inr rfl | assumption) : wpAny M A (storeName X.env x u) Q E s := by
  obtain ⟨m, hn, hl⟩ := id I.loc
  have hcls : (X.env.scope.kind == .class || (X.env.scope.kind == .module && X.env.locals != X.env.globals)) = false := by rw [I.ok.kind]; rfl
  have hiσ : i < σ.length := by rw [I.len]; exact (List.getElem?_eq_some_iff.mp hi).1
  have cne := I.cne
  have tracked : ∀ {a : Addr} {h' : Heap}, (∃ o, s.heap.get? a = some o ∧ H a = none) → Heap.SameBut a s.heap h' → HOk X.prog X.w H h' := fun {a h'} ha hs b ob e => by
    obtain ⟨_, _, hfree⟩ := ha
    refine (I.hok b ob e).stay (fun c w' hc q => (hs.2 c ?_).trans q) (fun _ q => q) fun _ _ q => q
    rintro rfl
    rcases hc with rfl | hc
    · rw [hfree] at e; cases e
    · rw [hfree] at hc; cases hc
  rcases hx with hk | hk
  · refine wpAny_storeName_local hk hn (fun h' hn' hs => ?_) hcls
    obtain ⟨oL, _, _, hoL, _⟩ := id hn
    refine h _ ⟨I.ok, I.os, I.bare, ⟨fun b o e n hb hx => ?_, fun b o e n hb hx => ?_, I.base.free, fun b o e hx => ?_, I.base.tups, I.base.frzs, I.base.tbls⟩, ⟨_, hn', fun j y v' e1 e2 e3 => ?_⟩, fun y c e => ?_, I.free, I.freeC, fun p hp => ?_, tracked ⟨oL, hoL, I.free⟩ hs, by simpa using I.len⟩ ⟨_, hs, .inl rfl⟩
    · exact (hs.2 b (Nat.ne_of_lt (Nat.lt_of_lt_of_le (Heap.lt_size e) I.ok.above))).trans (I.base.keep b o e n hb hx)
    · obtain ⟨sl, e1⟩ := I.base.slot b o e n hb hx
      exact ⟨sl, (hs.2 b (Nat.ne_of_lt (Nat.lt_of_lt_of_le (Heap.lt_size e) I.ok.above))).trans e1⟩
    · obtain ⟨o', e1⟩ := I.base.there b o e hx
      exact ⟨o', (hs.2 b (Nat.ne_of_lt (Nat.lt_of_lt_of_le (Heap.lt_size e) I.ok.above))).trans e1⟩
    · by_cases hj : j = i
      · subst hj
        rw [hi] at e1; cases e1
        rw [List.getElem?_set_self hiσ] at e2
        cases e2
        exact ⟨u, r, .inl ⟨hk, by simp⟩⟩
      · rw [List.getElem?_set_ne (Ne.symm hj)] at e2
        obtain ⟨u', r', q⟩ := hl j y v' e1 e2 e3
        refine ⟨u', r', ?_⟩
        rcases q with ⟨k, e⟩ | ⟨k, c, e, z⟩
        · refine .inl ⟨k, ?_⟩
          have : y ≠ x := fun e => hj (nodup_ix hN e1 (e ▸ hi))
          simp [this, e]
        · exact .inr ⟨k, c, e, z.sameBut hs (cne y c e)⟩
    · obtain ⟨w', z⟩ := I.cell y c e
      exact ⟨w', z.sameBut hs (cne y c e)⟩
    · obtain ⟨e, n, ne, nf, d⟩ := I.pin p hp
      exact ⟨(hs.2 p.1 ne).trans e, n, ne, nf, d⟩
  · have hfn : X.fn x = true := by
      rcases hf with z | z
      · exact z
      · rw [z] at hk; cases hk
    obtain ⟨c, hc⟩ := I.ok.has x (.inl hk)
    obtain ⟨w', z⟩ := I.cell x c hc
    refine wpAny_storeName_cell I.ok.kind hk hc z (fun h' hc' hs => ?_)
    obtain ⟨oc, hoc, hocd⟩ := id z
    refine h { s with heap := h' } ⟨I.ok, I.os, I.bare, ⟨fun b o e n hb hx => ?_, fun b o e n hb hx => ?_, I.base.free, fun b o e hx => ?_, I.base.tups, I.base.frzs, I.base.tbls⟩, ⟨m, hn.sameBut hs (Ne.symm (cne x c hc)), fun j y v' e1 e2 e3 => ?_⟩, fun y c' e => ?_, I.free, I.freeC, fun p hp => ?_, tracked ⟨oc, hoc, I.freeC x c hc⟩ hs, by simpa using I.len⟩ ⟨c, hs, .inr hc⟩
    · exact (hs.2 b (Nat.ne_of_lt (Nat.lt_of_lt_of_le (Heap.lt_size e) (I.ok.cab x c hfn hc)))).trans (I.base.keep b o e n hb hx)
    · obtain ⟨sl, e1⟩ := I.base.slot b o e n hb hx
      exact ⟨sl, (hs.2 b (Nat.ne_of_lt (Nat.lt_of_lt_of_le (Heap.lt_size e) (I.ok.cab x c hfn hc)))).trans e1⟩
    · obtain ⟨o', e1⟩ := I.base.there b o e hx
      exact ⟨o', (hs.2 b (Nat.ne_of_lt (Nat.lt_of_lt_of_le (Heap.lt_size e) (I.ok.cab x c hfn hc)))).trans e1⟩
    · by_cases hj : j = i
      · subst hj
        rw [hi] at e1; cases e1
        rw [List.getElem?_set_self hiσ] at e2
        cases e2
        exact ⟨u, r, .inr ⟨.inl hk, c, hc, hc'⟩⟩
      · rw [List.getElem?_set_ne (Ne.symm hj)] at e2
        obtain ⟨u', r', q⟩ := hl j y v' e1 e2 e3
        refine ⟨u', r', ?_⟩
        rcases q with q | ⟨k, c', e, z'⟩
        · exact .inl q
        · refine .inr ⟨k, c', e, z'.sameBut hs ?_⟩
          rintro rfl
          exact hj (nodup_ix hN e1 (I.ok.inj _ _ _ e hc ▸ hi))
    · by_cases hcc : c' = c
      · subst hcc; exact ⟨_, hc'⟩
      · obtain ⟨w2, z2⟩ := I.cell y c' e
        exact ⟨w2, z2.sameBut hs hcc⟩
    · obtain ⟨e, n, ne, nf, d⟩ := I.pin p hp
      refine ⟨(hs.2 p.1 ?_).trans e, n, ne, nf, d⟩
      intro q
      rw [q, hoc] at e
      have q' : oc = p.2 := Option.some.inj e
      exact d w' (by rw [← q']; exact hocd)
theorem store_ok {M : Model} {A : Around} {E : Value → Shared → Prop} {i : Nat} {x : Str} {v : V} {u : Value} {Q : Unit → Shared → Prop} (I : Inv X pins σ H s) (hN : X.N.Nodup) (hi : X.N[i]? = some x) (hx : Loc X.env.scope x) (r : RelV v u)
    (h : ∀ s', Inv X pins (σ.set i (some v)) H s' → Q () s') (hf : X.fn x = true ∨ X.env.scope.names.lookup x = some .local := by first | exact .inl rfl | exact .inr rfl | assumption) : wpAny M A (storeName X.env x u) Q E s :=
  store_ok2 I hN hi hx r (fun s' I' _ => h s' I') hf
/-- behind a call or a block, the state as it is -/
theorem Inv.call' {s' : Shared} {ch : List Addr} (I : Inv X pins σ H s) (ho : s'.os = s.os) (u : Un (frs X.stack) ch H H' s.heap s'.heap) (hok : HOk X.prog X.w H' s'.heap) (hg : AllBare s'.gens)
    (hch : ∀ b ∈ ch, (b ∈ X.ex ∨ X.s₀.heap.objs.size ≤ b) ∧ b ≠ X.env.locals ∧ (∀ x c, X.env.cells.lookup x = some c → c ≠ b) ∧ ∀ p ∈ X.pn ++ pins, p.1 ≠ b) : Inv X pins σ H' s' := by
  obtain ⟨h', g', d', t', o'⟩ := s'
  have e : o' = s.os := ho
  subst e
  exact I.call (g' := g') (t' := t') (d' := d') u hok hg hch
end

/-! ### the judgements -/
/-- an exception: its class, its own dict's address (where it has one), the abstract heap behind it -/
abbrev XK := Value → Option Addr → Hp → Prop
abbrev St := List (Option V)
abbrev VK := V → Hp → Prop
/-- an expression's reading; a test's; an argument list's -/
abbrev TE := St → Hp → VK → Prop
abbrev TT := St → Hp → (Bool → Hp → Prop) → Prop
abbrev TA := St → Hp → (List V → Hp → Prop) → Prop
/-- what is wanted behind a statement -/
structure Ends where
  nx : St → Hp → Prop
  rt : VK
  bk : St → Hp → Prop := fun _ _ => False
  ct : St → Hp → Prop := fun _ _ => False
abbrev TS := Ends → St → Hp → Prop

def EP (X : Cx) (pins : List (Addr × Obj)) (σ : St) (Q : VK) (u : Value) (s' : Shared) : Prop := ∃ v H', Inv X pins σ H' s' ∧ RelV v u ∧ Q v H'
def TP (X : Cx) (pins : List (Addr × Obj)) (σ : St) (Q : Bool → Hp → Prop) (b : Bool) (s' : Shared) : Prop := ∃ H', Inv X pins σ H' s' ∧ Q b H'
def AP (X : Cx) (pins : List (Addr × Obj)) (σ : St) (Q : List V → Hp → Prop) (us : List Value) (s' : Shared) : Prop := ∃ vs H', Inv X pins σ H' s' ∧ Vals vs us ∧ Q vs H'
def SP (X : Cx) (pins : List (Addr × Obj)) (D : Ends) (f : Flow) (s' : Shared) : Prop :=
  match f with
  | .next => ∃ σ' H', Inv X pins σ' H' s' ∧ D.nx σ' H'
  | .brk => ∃ σ' H', Inv X pins σ' H' s' ∧ D.bk σ' H'
  | .cont => ∃ σ' H', Inv X pins σ' H' s' ∧ D.ct σ' H'
  | .ret u => ∃ v σ' H', Inv X pins σ' H' s' ∧ RelV v u ∧ D.rt v H'

def PE (X : Cx) (e : Expr) (t : TE) : Prop :=
  ∀ (pins : List (Addr × Obj)) (s : Shared) (σ : St) (H : Hp) (Q : VK), Inv X pins σ H s → t σ H Q → wpAny (model X.prog X.w) X.A (eval e X.env) (EP X pins σ Q) X.xe s
def PT (X : Cx) (e : Expr) (t : TT) : Prop :=
  ∀ (pins : List (Addr × Obj)) (s : Shared) (σ : St) (H : Hp) (Q : Bool → Hp → Prop), Inv X pins σ H s → t σ H Q → wpAny (model X.prog X.w) X.A (isTrue e X.env (eval e X.env)) (TP X pins σ Q) X.xe s
/-- a test whatever its 'whole' is (and, or) -/
def PW (X : Cx) (e : Expr) (t : TT) : Prop :=
  ∀ (whole : Sem Value) (pins : List (Addr × Obj)) (s : Shared) (σ : St) (H : Hp) (Q : Bool → Hp → Prop), Inv X pins σ H s → t σ H Q → wpAny (model X.prog X.w) X.A (isTrue e X.env whole) (TP X pins σ Q) X.xe s
theorem PW.pt {X : Cx} {e : Expr} {t : TT} (h : PW X e t) : PT X e t := h _
/-- an argument list (no star), from the left -/
def PA (X : Cx) (es : List Expr) (t : TA) : Prop :=
  ∀ (pos : Pos) (pins : List (Addr × Obj)) (s : Shared) (σ : St) (H : Hp) (Q : List V → Hp → Prop), Inv X pins σ H s → t σ H Q → wpAny (model X.prog X.w) X.A (spliced (backTo pos (starEach es X.env))) (AP X pins σ Q) X.xe s
def PS (X : Cx) (st : Stmt) (t : TS) : Prop :=
  ∀ (pins : List (Addr × Obj)) (s : Shared) (σ : St) (H : Hp) (D : Ends), Inv X pins σ H s → t D σ H → wpAny (model X.prog X.w) X.A (exec st X.env) (SP X pins D) X.xe s
def PSs (X : Cx) (st : List Stmt) (t : TS) : Prop :=
  ∀ (pins : List (Addr × Obj)) (s : Shared) (σ : St) (H : Hp) (D : Ends), Inv X pins σ H s → t D σ H → wpAny (model X.prog X.w) X.A (execs st X.env) (SP X pins D) X.xe s
/-- weaken the end -/
theorem thn {α : Type} {t : Sem α} {Q Q' : α → Shared → Prop} {M : Model} {A : Around} {E : Value → Shared → Prop} {s : Shared} (h : wpAny M A t Q E s) (hQ : ∀ a s, Q a s → Q' a s) : wpAny M A t Q' E s := wpAny_mono h hQ fun _ _ x => x
end L2

namespace L2
open PySem PySem.Spec PyProof.Rows
section
variable {X : Cx}

/-! ### names and constants -/
def tVar (i : Nat) : TE := fun σ H Q => ∃ v, σ[i]? = some (some v) ∧ Q v H
def tC (v : V) : TE := fun _ H Q => Q v H
theorem pe_var {i : Nat} {x : Str} {pos : Pos} (hN : X.N[i]? = some x) (hv : Vis X.env.scope x) (hd : (x == ("__debug__" : Str)) = false := by decide) (hcd : (x == ("__classdict__" : Str)) = false := by decide) : PE X (.Name x pos) (tVar i) := by
  intro pins s σ H Q I h
  obtain ⟨v, e, h⟩ := h
  obtain ⟨m, hn, hl⟩ := I.loc
  obtain ⟨u, r, l⟩ := hl i x v hN e hv
  have fin : EP X pins σ Q u s := ⟨v, H, I, r, h⟩
  rcases l with ⟨hk, hm⟩ | ⟨hk, c, hc, hcell⟩
  · exact wpAny_Name (wpAny_loadName_local I.ok.kind hk hn hm fin) hd
  · rcases hk with hk | hk
    · exact wpAny_Name (wpAny_loadName_cell I.ok.kind hk hc hcell fin) hd
    · exact wpAny_Name (wpAny_loadName_free I.ok.kind hk hc hcell fin hcd) hd
theorem pe_int {i j pos} : PE X (.Constant (.int i) j pos) (tC (.int i)) := fun _ _ _ H _ I h => wpAny_Constant_int ⟨.int i, H, I.tok _, ⟨_, rfl⟩, h⟩
theorem pe_bl {b j pos} : PE X (.Constant (.bool b) j pos) (tC (.bl b)) := fun _ _ _ H _ I h => Constant_bool ⟨.bl b, H, I, rfl, h⟩
theorem pe_non {j pos} : PE X (.Constant .none j pos) (tC .non) := fun _ _ _ H _ I h => Constant_none ⟨.non, H, I, rfl, h⟩
theorem pe_str {x j pos} : PE X (.Constant (.str x) j pos) (tC (.str x)) := fun _ _ _ H _ I h => Calls.Constant_str ⟨.str x, H, I.tok _, ⟨_, rfl⟩, h⟩

/-- a global name of the def -/
def Gl (X : Cx) (x : Str) : Prop := X.env.kindOf x = some .globalImplicit
theorem ld_glob {E : Value → Shared → Prop} {pins : List (Addr × Obj)} {s : Shared} {σ : St} {H : Hp} {x : Str} {u : Value} {pos : Pos} {Q : Value → Shared → Prop} (I : Inv X pins σ H s) (hg : Gl X x) (hm : X.mg x = some u) (h : Q u s)
    (hd : (x == ("__debug__" : Str)) = false := by decide) : wpAny (model X.prog X.w) X.A (eval (.Name x pos) X.env) Q E s :=
  Calls.Name_function_global I.ok.kind hg (Calls.loadGlobal_global (by rw [I.ok.glob]; exact I.mod.glob.keeps I.bk) hm h) hd
theorem ld_blt {E : Value → Shared → Prop} {pins : List (Addr × Obj)} {s : Shared} {σ : St} {H : Hp} {x : Str} {u : Value} {pos : Pos} {Q : Value → Shared → Prop} (I : Inv X pins σ H s) (hg : Gl X x) (hm : X.mg x = none) (hv : bootBuiltins x = some u) (h : Q u s)
    (hn : x ≠ "__name__" := by decide) (hd : (x == ("__debug__" : Str)) = false := by decide) : wpAny (model X.prog X.w) X.A (eval (.Name x pos) X.env) Q E s := by
  obtain ⟨mb, h1, h2⟩ := I.mod.blt
  exact Calls.Name_function_global I.ok.kind hg (Calls.loadGlobal_builtin (by rw [I.ok.glob]; exact I.mod.glob.keeps I.bk) hm (by rw [I.ok.blt]; exact h1.keeps I.bk) ((h2 x hn).trans hv) h) hd
/-- a module's constant, a class, a function, as a value -/
theorem pe_glob {x : Str} {v : V} {u : Value} {pos : Pos} (hg : Gl X x) (hm : X.mg x = some u) (r : RelV v u) (hd : (x == ("__debug__" : Str)) = false := by decide) : PE X (.Name x pos) (tC v) :=
  fun _ _ _ H _ I h => ld_glob I hg hm ⟨v, H, I, r, h⟩ hd
theorem pe_bltn {x : Str} {v : V} {u : Value} {pos : Pos} (hg : Gl X x) (hm : X.mg x = none) (hv : bootBuiltins x = some u) (r : RelV v u) (hn : x ≠ "__name__" := by decide) (hd : (x == ("__debug__" : Str)) = false := by decide) : PE X (.Name x pos) (tC v) :=
  fun _ _ _ H _ I h => ld_blt I hg hm hv ⟨v, H, I, r, h⟩ hn hd

/-! ### arithmetic -/
variable {a b : Expr} {ta tb : TE} {pos : Pos}
/-! ### comparisons -/
/-- a comparison as a value, as a test -/
def tB (t : TE) : TT := fun σ H Q => t σ H fun x H1 => ∃ c, x = .bl c ∧ Q c H1
/-- an expression whose value is a bool, as a test -/
theorem pt_val {e : Expr} {t : TE} (h : PE X e t) (he : ∀ whole, isTrue e X.env whole = (do let v ← whole; standAt e.pos; holding [v] (truthy v)) := by intro _; rfl) : PT X e (tB t) := by
  intro pins s σ H Q I hw
  refine isTrue_plain (thn (h pins s σ H _ I hw) fun v s1 ⟨x, H1, I1, r1, q1⟩ => ?_) (he _)
  obtain ⟨d, rfl, q⟩ := q1
  cases r1
  exact wpAny_truthy_bool ⟨H1, I1, q⟩

/-! ### and, or, not -/
variable {tA tB' : TT} {rest : List Expr}
def tAnd (t u : TT) : TT := fun σ H Q => t σ H fun c H1 => if c = true then u σ H1 Q else Q false H1
def tOr (t u : TT) : TT := fun σ H Q => t σ H fun c H1 => if c = true then Q true H1 else u σ H1 Q
def tNot (t : TT) : TT := fun σ H Q => t σ H fun c H1 => Q (!c) H1
theorem pw_and1 (ha : PT X a tA) : PW X (.BoolOp .And [a] pos) tA := by
  intro wh pins s σ H Q I h
  refine isTrue_and (thn (ha pins s σ H Q I h) fun c s1 e => ?_)
  cases c with
  | true => exact isTrue_and_nil e
  | false => exact e
theorem pw_or1 (ha : PT X a tA) : PW X (.BoolOp .Or [a] pos) tA := by
  intro wh pins s σ H Q I h
  refine isTrue_or (thn (ha pins s σ H Q I h) fun c s1 e => ?_)
  cases c with
  | false => exact isTrue_or_nil e
  | true => exact e
theorem pw_and (ha : PT X a tA) (hb : PW X (.BoolOp .And (b :: rest) pos) tB') : PW X (.BoolOp .And (a :: b :: rest) pos) (tAnd tA tB') := by
  intro wh pins s σ H Q I h
  refine isTrue_and (thn (ha pins s σ H _ I h) fun c s1 ⟨H1, I1, q1⟩ => ?_)
  cases c with
  | true => exact hb wh pins s1 σ H1 Q I1 q1
  | false => exact ⟨H1, I1, q1⟩
theorem pw_or (ha : PT X a tA) (hb : PW X (.BoolOp .Or (b :: rest) pos) tB') : PW X (.BoolOp .Or (a :: b :: rest) pos) (tOr tA tB') := by
  intro wh pins s σ H Q I h
  refine isTrue_or (thn (ha pins s σ H _ I h) fun c s1 ⟨H1, I1, q1⟩ => ?_)
  cases c with
  | true => exact ⟨H1, I1, q1⟩
  | false => exact hb wh pins s1 σ H1 Q I1 q1
theorem pt_not (ha : PT X a tA) : PT X (.UnaryOp .Not a pos) (tNot tA) := by
  intro pins s σ H Q I h
  exact isTrue_not (ha pins s σ H (fun c H1 => Q (!c) H1) I h)
/-- .. as values (bools) -/
def tAndV (ta tb : TE) : TE := fun σ H Q => ta σ H fun x H1 => ∃ c, x = .bl c ∧ if c = true then tb σ H1 Q else Q (.bl false) H1
def tNotV (ta : TE) : TE := fun σ H Q => ta σ H fun x H1 => ∃ c, x = .bl c ∧ Q (.bl (!c)) H1
theorem pe_one {op} {t : TE} (h : PE X a t) : PE X (.BoolOp op [a] pos) t := fun pins s σ H Q I hw => BoolOp_one (h pins s σ H Q I hw)
theorem pe_and (ha : PE X a ta) (hb : PE X (.BoolOp .And (b :: rest) pos) tb) : PE X (.BoolOp .And (a :: b :: rest) pos) (tAndV ta tb) := by
  intro pins s σ H Q I h
  refine BoolOp_and (thn (ha pins s σ H _ I h) fun v s1 ⟨x, H1, I1, r1, q1⟩ => ?_)
  obtain ⟨c, rfl, q1⟩ := q1
  cases r1
  refine wpAny_truthy_bool ?_
  cases c with
  | true => exact hb pins s1 σ H1 Q I1 q1
  | false => exact ⟨.bl false, H1, I1, rfl, q1⟩
theorem pe_not (ha : PE X a ta) : PE X (.UnaryOp .Not a pos) (tNotV ta) := by
  intro pins s σ H Q I h
  refine UnaryOp_ (thn (ha pins s σ H _ I h) fun v s1 ⟨x, H1, I1, r1, q1⟩ => ?_)
  obtain ⟨c, rfl, q1⟩ := q1
  cases r1
  exact not_of (wpAny_truthy_bool ⟨.bl (!c), H1, I1, rfl, q1⟩)
end
end L2

namespace L2
open PySem PySem.Spec PyProof.Rows

/-! ### a list, a tuple that is read: tracked, frozen, or an object of the module -/
def SqL (K : PySem.W.Frag) (H : Hp) (a : Addr) (xs : List V) : Prop :=
  Rd H a (.lst xs) ∨
    ∃ (o : Obj) (its : Array Value) (n : Nat), K.lookup a = some o ∧ o.cls = .type "list" ∧ o.dict = none ∧ o.data = .seq its n ∧ its.size ≤ sizeLine ∧ Vals xs its.toList
def SqT (K : PySem.W.Frag) (H : Hp) (a : Addr) (xs : List V) : Prop :=
  Rd H a (.tup xs) ∨
    ∃ (o : Obj) (its : Array Value) (n : Nat), K.lookup a = some o ∧ o.cls = .type "tuple" ∧ o.data = .seq its n ∧ its.size ≤ sizeLine ∧ Vals xs its.toList
def absV : Value → Option V
  | .none => some .non
  | .bool b => some (.bl b)
  | .int i _ => some (.int i)
  | .str x _ => some (.str x)
  | .bytes b _ => some (.byt b)
  | .float b _ => some (.flt b)
  | .ref a => some (.ref a)
  | .type n => some (.ty n)
  | _ => none
theorem RelV.abs {x : V} {u : Value} (r : RelV x u) : absV u = some x := by
  cases x with
  | non => cases r; rfl
  | bl _ => cases r; rfl
  | int _ => obtain ⟨t, rfl⟩ := r; rfl
  | str _ => obtain ⟨t, rfl⟩ := r; rfl
  | byt _ => obtain ⟨t, rfl⟩ := r; rfl
  | flt _ => obtain ⟨t, rfl⟩ := r; rfl
  | ref _ => cases r; rfl
  | ty _ => cases r; rfl
theorem RelV.inj {x y : V} {u : Value} (r : RelV x u) (q : RelV y u) : x = y := Option.some.inj (r.abs.symm.trans q.abs)
theorem Vals.inj : ∀ {xs ys : List V} {us : List Value}, Vals xs us → Vals ys us → xs = ys
  | _, _, _, .nil, .nil => rfl
  | _, _, _, .cons r t, .cons r' t' => by rw [r.inj r', Vals.inj t t']
section
variable {X : Cx} {pins : List (Addr × Obj)} {σ : St} {H : Hp} {s : Shared} {a : Addr} {xs ys : List V}
theorem SqL.of {K : PySem.W.Frag} (h : H a = some (.lst xs)) : SqL K H a xs := .inl (.inl h)
theorem SqT.of {K : PySem.W.Frag} (h : H a = some (.tup xs)) : SqT K H a xs := .inl (.inl h)
theorem Inv.list (I : Inv X pins σ H s) (h : SqL X.K H a xs) : ∃ its : List Value, Vals xs its ∧ PlainL s.heap a its.toArray ∧ xs.length ≤ sizeLine := by
  rcases h with h | ⟨o, its, n, hk, hc, hd, hs, hz, r⟩
  · obtain ⟨z, its, n, r, e⟩ := h.ok I.hok
    exact ⟨its, r, ⟨_, n, e, rfl, rfl, rfl⟩, z⟩
  · refine ⟨its.toList, r, ⟨o, n, I.kIn a o hk, hc, hd, by simpa using hs⟩, ?_⟩
    have e := r.length
    simp only [Array.length_toList] at e
    omega
theorem Inv.tuple (I : Inv X pins σ H s) (h : SqT X.K H a xs) : ∃ its : List Value, Vals xs its ∧ IsTup s.heap a its.toArray ∧ xs.length ≤ sizeLine := by
  rcases h with h | ⟨o, its, n, hk, hc, hs, hz, r⟩
  · obtain ⟨z, its, r, p⟩ := h.ok I.hok
    exact ⟨its, r, p, z⟩
  · refine ⟨its.toList, r, ⟨o, I.kIn a o hk, hc, n, by simpa using hs⟩, ?_⟩
    have e := r.length
    simp only [Array.length_toList] at e
    omega
theorem Inv.list_inj (I : Inv X pins σ H s) (h : SqL X.K H a xs) (h' : SqL X.K H a ys) : xs = ys := by
  obtain ⟨its, r, ⟨o, n, e, _, _, d⟩, _⟩ := I.list h
  obtain ⟨its', r', ⟨o', n', e', _, _, d'⟩, _⟩ := I.list h'
  rw [e] at e'; cases e'
  rw [d] at d'
  injection d' with d1 _
  have : its = its' := by simpa using congrArg Array.toList d1
  subst this
  exact r.inj r'
theorem Inv.tuple_inj (I : Inv X pins σ H s) (h : SqT X.K H a xs) (h' : SqT X.K H a ys) : xs = ys := by
  obtain ⟨its, r, ⟨o, e, _, n, d⟩, _⟩ := I.tuple h
  obtain ⟨its', r', ⟨o', e', _, n', d'⟩, _⟩ := I.tuple h'
  rw [e] at e'; cases e'
  rw [d] at d'
  injection d' with d1 _
  have : its = its' := by simpa using congrArg Array.toList d1
  subst this
  exact r.inj r'
end

/-! ### another wish about exceptions -/
abbrev Cx.wish (X : Cx) (E : Value → Shared → Prop) : Cx := { X with xe := E }
/-- no exception leaves -/
abbrev Cx.nox (X : Cx) : Cx := X.wish fun _ _ => False
theorem Cx.Ok.wish {X : Cx} (ok : X.Ok) (E : Value → Shared → Prop) : (X.wish E).Ok :=
  ⟨ok.mod, ok.kind, ok.glob, ok.blt, ok.above, ok.inj, ok.has, ok.cab, ok.hd, ok.frames, ok.stk, ok.exf, ok.bs, ok.bsz, ok.noex, ok.exfs, ok.funs, ok.frf⟩
theorem Cx.Ok.unwish {X : Cx} {E : Value → Shared → Prop} (ok : (X.wish E).Ok) : X.Ok :=
  ⟨ok.mod, ok.kind, ok.glob, ok.blt, ok.above, ok.inj, ok.has, ok.cab, ok.hd, ok.frames, ok.stk, ok.exf, ok.bs, ok.bsz, ok.noex, ok.exfs, ok.funs, ok.frf⟩
section
variable {X : Cx} {pins : List (Addr × Obj)} {σ : St} {H : Hp} {s : Shared} {E : Value → Shared → Prop}
theorem Inv.wish (I : Inv X pins σ H s) (E : Value → Shared → Prop) : Inv (X.wish E) pins σ H s := ⟨I.ok.wish E, I.os, I.bare, I.base, I.loc, I.cell, I.free, I.freeC, I.pin, I.hok, I.len⟩
theorem Inv.unwish (I : Inv (X.wish E) pins σ H s) : Inv X pins σ H s := ⟨I.ok.unwish, I.os, I.bare, I.base, I.loc, I.cell, I.free, I.freeC, I.pin, I.hok, I.len⟩
theorem SP.unwish {D : Ends} {f : Flow} {s' : Shared} (h : SP (X.wish E) pins D f s') : SP X pins D f s' := by
  cases f with
  | next => obtain ⟨σ', H', I, q⟩ := h; exact ⟨σ', H', I.unwish, q⟩
  | brk => obtain ⟨σ', H', I, q⟩ := h; exact ⟨σ', H', I.unwish, q⟩
  | cont => obtain ⟨σ', H', I, q⟩ := h; exact ⟨σ', H', I.unwish, q⟩
  | ret u => obtain ⟨v, σ', H', I, r, q⟩ := h; exact ⟨v, σ', H', I.unwish, r, q⟩
theorem PSs.nox {st : List Stmt} {t : TS} (h : PSs X.nox st t) : PSs X st t := fun pins s σ H D I hw =>
  wpAny_mono (h pins s σ H D (I.wish _) hw) (fun _ _ q => q.unwish) fun _ _ z => False.elim z
end

/-! ### blocks and small statements -/
section
variable {X : Cx} {st : Stmt} {rest : List Stmt} {t u : TS} {e : Expr} {te : TE} {pos : Pos}
def tNext : TS := fun D σ H => D.nx σ H
def tSeq (t u : TS) : TS := fun D σ H => t { D with nx := u D } σ H
theorem pss_nil : PSs X [] tNext := fun _ _ σ H _ I h => wpAny_execs_nil ⟨σ, H, I, h⟩
theorem pss_cons (h1 : PS X st t) (h2 : PSs X rest u) : PSs X (st :: rest) (tSeq t u) := by
  intro pins s σ H D I h
  refine wpAny_execs_cons (thn (h1 pins s σ H { D with nx := u D } I h) fun f s1 q => ?_)
  cases f with
  | next =>
    obtain ⟨σ', H', I', q⟩ := q
    exact h2 pins s1 σ' H' D I' q
  | ret v => exact q
  | brk => exact q
  | cont => exact q
theorem pss_one (h1 : PS X st t) : PSs X [st] t := by
  intro pins s σ H D I h
  refine wpAny_execs_cons (thn (h1 pins s σ H D I h) fun f s1 q => ?_)
  cases f with
  | next => exact wpAny_execs_nil q
  | ret v => exact q
  | brk => exact q
  | cont => exact q
/-- in a def's body nothing is shown -/
theorem Inv.quiet {pins : List (Addr × Obj)} {σ : St} {H : Hp} {s : Shared} (I : Inv X pins σ H s) : interactive X.env = false := by simp [interactive, I.ok.kind]
/-- an expression whose value is dropped -/
def tDrop (te : TE) : TS := fun D σ H => te σ H fun _ H1 => D.nx σ H1
theorem ps_expr (he : PE X e te) (hs : swapsWith e none pos.line X.env = pure false := by rfl) : PS X (.Expr e pos) (tDrop te) := by
  intro pins s σ H D I h
  exact wpAny_Expr_any (thn (he pins s σ H _ I h) fun v s1 ⟨x, H1, I1, r1, q1⟩ => ⟨σ, H1, I1, q1⟩) I.quiet hs
def tRet (te : TE) : TS := fun D σ H => te σ H D.rt
theorem ps_ret (he : PE X e te) : PS X (.Return (some e) pos) (tRet te) := by
  intro pins s σ H D I h
  exact wpAny_Return_some (thn (he pins s σ H _ I h) fun v s1 ⟨x, H1, I1, r1, q1⟩ => ⟨x, σ, H1, I1, r1, q1⟩)
def tIfS (c : TT) (t u : TS) : TS := fun D σ H => c σ H fun b H1 => if b = true then t D σ H1 else u D σ H1
theorem ps_if {c : Expr} {a b : List Stmt} {tc : TT} (hc : PT X c tc) (ha : PSs X a t) (hb : PSs X b u) : PS X (.If c a b pos) (tIfS tc t u) := by
  intro pins s σ H D I h
  refine wpAny_If (thn (hc pins s σ H _ I h) fun d s1 ⟨H1, I1, q1⟩ => ?_)
  cases d with
  | true => exact ha pins s1 σ H1 D I1 q1
  | false => exact hb pins s1 σ H1 D I1 q1
end

/-! ### targets -/
abbrev TG := V → St → Hp → (St → Hp → Prop) → Prop
abbrev TGs := List V → St → Hp → (St → Hp → Prop) → Prop
def PG (X : Cx) (target : Expr) (t : TG) : Prop :=
  ∀ (pins : List (Addr × Obj)) (s : Shared) (σ : St) (H : Hp) (v : V) (u : Value) (Q : St → Hp → Prop), Inv X pins σ H s → RelV v u → t v σ H Q →
    wpAny (model X.prog X.w) X.A (assign target X.env u) (fun _ s' => ∃ σ' H', Inv X pins σ' H' s' ∧ Q σ' H') X.xe s
/-- several targets, one after another -/
def PGs (X : Cx) (ts : List Expr) (t : TGs) : Prop :=
  ∀ (pins : List (Addr × Obj)) (s : Shared) (σ : St) (H : Hp) (vs : List V) (us : List Value) (Q : St → Hp → Prop), Inv X pins σ H s → Vals vs us → t vs σ H Q →
    wpAny (model X.prog X.w) X.A (assignInOrder ((assignEach ts X.env).map (·.2)) us) (fun _ s' => ∃ σ' H', Inv X pins σ' H' s' ∧ Q σ' H') X.xe s
/-- o[i] = v, by values -/
abbrev TSet := V → V → V → Hp → (Hp → Prop) → Prop
def PSet (X : Cx) (t : TSet) : Prop :=
  ∀ (pins : List (Addr × Obj)) (s : Shared) (σ : St) (H : Hp) (o i v : V) (ov iv u : Value) (Q : Hp → Prop), Inv X pins σ H s → RelV o ov → RelV i iv → RelV v u → t o i v H Q →
    wpAny (model X.prog X.w) X.A (setItem ov iv u) (fun _ s' => ∃ H', Inv X pins σ H' s' ∧ Q H') X.xe s
section
variable {X : Cx} {pos : Pos}
def gName (i : Nat) : TG := fun v σ H Q => Q (σ.set i (some v)) H
theorem pg_name {i : Nat} {x : Str} (hN : X.N.Nodup) (hi : X.N[i]? = some x) (hx : Loc X.env.scope x) (hf : X.fn x = true ∨ X.env.scope.names.lookup x = some .local := by first | exact .inl rfl | exact .inr rfl | assumption) : PG X (.Name x pos) (gName i) := by
  intro pins s σ H v u Q I r h
  exact wpAny_assign_Name (store_ok I hN hi hx r (fun s' I' => ⟨_, H, I', h⟩) hf)
def gNil : TGs := fun vs σ H Q => vs = [] ∧ Q σ H
def gCons (t : TG) (u : TGs) : TGs := fun vs σ H Q => ∃ v r, vs = v :: r ∧ t v σ H fun σ' H' => u r σ' H' Q
theorem pgs_nil : PGs X [] gNil := by
  intro pins s σ H vs us Q I r h
  obtain ⟨e, h⟩ := h
  subst e
  cases r
  exact assignInOrder_nil ⟨σ, H, I, h⟩
theorem pgs_cons {e : Expr} {es : List Expr} {t : TG} {u : TGs} (h1 : PG X e t) (h2 : PGs X es u)
    (hs : (assignEach (e :: es) X.env).map (·.2) = assign e X.env :: (assignEach es X.env).map (·.2) := by rfl) : PGs X (e :: es) (gCons t u) := by
  intro pins s σ H vs us Q I r h
  obtain ⟨v, vr, e1, h⟩ := h
  subst e1
  cases r with
  | cons r rr =>
    rw [hs]
    refine assignInOrder_cons (thn (h1 pins s σ H _ _ _ I r h) fun _ s1 ⟨σ1, H1, I1, q1⟩ => ?_)
    exact h2 pins s1 σ1 H1 _ _ Q I1 rr q1
/-- (a, b, ..) = a tuple of that length -/
def gTup (K : PySem.W.Frag) (n : Nat) (t : TGs) : TG := fun v σ H Q => ∃ a xs, v = .ref a ∧ SqT K H a xs ∧ xs.length = n ∧ t xs σ H Q
theorem pg_tup {es : List Expr} {k : Nat} {t : TGs} {n : Nat} (hc : X.calm = true) (h : PGs X es t)
    (hn : (assignEach es X.env).length = n := by rfl) (hst : (assignEach es X.env).findIdx? (·.1) = none := by rfl) : PG X (.Tuple es k pos) (gTup X.K n t) := by
  intro pins s σ H v u Q I r hw
  obtain ⟨a, xs, e1, hq, hl, hw⟩ := hw
  subst e1
  cases r
  obtain ⟨its, rv, ht, hz⟩ := I.tuple hq
  refine assign_Tuple_tuple (I.ok.hd hc) ht (by simp [hn, ← hl, rv.length]) hst fun h' hx => ?_
  have I1 : Inv X pins σ H { s with heap := h' } := I.kept (t' := s.toks) fun b o e => hx b o (Nat.ne_of_lt (Heap.lt_size e)) e
  exact h pins _ σ H xs _ Q I1 (by simpa using rv) hw
/-- o[i] = .. -/
def gSub (to ti : TE) (t : TSet) : TG := fun v σ H Q => to σ H fun o H1 => ti σ H1 fun i H2 => t o i v H2 fun H3 => Q σ H3
theorem pg_sub {o i : Expr} {to ti : TE} {t : TSet} (ho : PE X o to) (hi : PE X i ti) (hs : PSet X t)
    (ha : ∀ v, assign (.Subscript o i pos) X.env v = (do
      let ov ← holding [v] (eval o X.env)
      let iv ← holding [v, ov] (eval i X.env)
      standAt pos
      holding [v, ov, iv] (setItem ov iv v)
      release [v, ov, iv] []) := by intro _; rfl) : PG X (.Subscript o i pos) (gSub to ti t) := by
  intro pins s σ H v u Q I r h
  rw [ha]
  refine wpAny_bind (wpAny_holding (thn (ho pins s σ H _ I h) fun ov s1 ⟨x, H1, I1, r1, q1⟩ => ?_))
  refine wpAny_bind (wpAny_holding (thn (hi pins s1 σ H1 _ I1 q1) fun iv s2 ⟨y, H2, I2, r2, q2⟩ => ?_))
  refine wpAny_bind (wpAny_standAt (wpAny_bind (wpAny_holding (thn (hs pins s2 σ H2 x y v ov iv u _ I2 r1 r2 r q2) fun _ s3 ⟨H3, I3, q3⟩ => ?_))))
  exact wpAny_release ⟨σ, H3, I3, q3⟩
/-- target = value -/
def tAsg (te : TE) (g : TG) : TS := fun D σ H => te σ H fun x H1 => g x σ H1 D.nx
theorem ps_asg {tg e : Expr} {te : TE} {g : TG} (he : PE X e te) (hg : PG X tg g) (hs : swapsWithSole [tg] e pos.line X.env = pure false := by rfl) (hw : swappedStores [tg] e X.env = pure none := by rfl)
    (h1 : (assignEach [tg] X.env).map (·.2) = [assign tg X.env] := by rfl) : PS X (.Assign [tg] e pos) (tAsg te g) := by
  intro pins s σ H D I h
  refine wpAny_Assign_stores (thn (he pins s σ H _ I h) fun v s1 ⟨x, H1, I1, r1, q1⟩ => ?_) hs hw
  rw [h1]
  exact thn (hg pins s1 σ H1 x v _ I1 r1 q1) fun _ s2 q => q
/-- name = value -/
theorem ps_set {i : Nat} {x : Str} {e : Expr} {te : TE} {pos' : Pos} (hN : X.N.Nodup) (hi : X.N[i]? = some x) (hx : Loc X.env.scope x) (he : PE X e te) (hs : swapsWith e (some (.Name x pos')) pos.line X.env = pure false := by rfl) (hf : X.fn x = true ∨ X.env.scope.names.lookup x = some .local := by first | exact .inl rfl | exact .inr rfl | assumption) :
    PS X (.Assign [.Name x pos'] e pos) (tAsg te (gName i)) := by
  intro pins s σ H D I h
  refine wpAny_Assign_Name (thn (he pins s σ H _ I h) fun v s1 ⟨y, H1, I1, r1, q1⟩ => ?_) hs
  exact store_ok I1 hN hi hx r1 (fun s2 I2 => ⟨_, H1, I2, q1⟩) hf
end

/-! ### while -/
section
variable {X : Cx} {pos : Pos}
/-- the invariant W with its measure -/
def tWhile (c : TT) (tb : TS) : TS := fun D σ H => ∃ W : Nat → St → Hp → Prop, (∃ m, W m σ H) ∧ ∀ m σ H, W m σ H →
  c σ H fun b H1 => if b = true then ∃ N : St → Hp → Prop, (∀ σ' H', N σ' H' → ∃ m', m' < m ∧ W m' σ' H') ∧ tb { D with nx := N, ct := N, bk := D.nx } σ H1 else D.nx σ H1
theorem ps_while {c : Expr} {body : List Stmt} {tc : TT} {tb : TS} (hp : PassesOwn (model X.prog X.w) X.A X.env X.xe) (hc : PT X c tc) (hb : PSs X body tb) : PS X (.While c body [] pos) (tWhile tc tb) := by
  intro pins s σ H D I h
  obtain ⟨W, ⟨m0, w0⟩, turn⟩ := h
  refine wpAny_While (codeAny_whileLoop (fun n s' => ∃ σ' H', Inv X pins σ' H' s' ∧ W n σ' H') ?_ m0 ⟨σ, H, I, w0⟩)
  rintro n s1 ⟨σ1, H1, I1, w1⟩
  refine wpAny_passesOwn hp (thn (hc pins s1 σ1 H1 _ I1 (turn n σ1 H1 w1)) fun b s2 ⟨H2, I2, q2⟩ => ?_)
  cases b with
  | true =>
    obtain ⟨N, hN, q2⟩ := q2
    rw [if_pos rfl]
    refine wpAny_passesOwn hp (thn (hb pins s2 σ1 H2 _ I2 q2) fun f s3 q3 => ?_)
    cases f with
    | next =>
      obtain ⟨σ3, H3, I3, n3⟩ := q3
      obtain ⟨m', hm, w3⟩ := hN σ3 H3 n3
      exact ⟨m', hm, σ3, H3, I3, w3⟩
    | cont =>
      obtain ⟨σ3, H3, I3, n3⟩ := q3
      obtain ⟨m', hm, w3⟩ := hN σ3 H3 n3
      exact ⟨m', hm, σ3, H3, I3, w3⟩
    | brk => exact q3
    | ret v => exact q3
  | false =>
    rw [if_neg Bool.false_ne_true]
    exact wpAny_execs_nil ⟨σ1, H2, I2, q2⟩
end

/-! ### what a loop or a comprehension walks -/
/-- at turn i: it yields x (the heap may grow), or it stops -/
structure It where
  go : Nat → Hp → Prop
  yld : Nat → Hp → V → Hp → Prop
  stop : Nat → Hp → Prop
/-- the iterator's own objects may turn: they are not the frame's, not pinned, younger than the entry (or a comprehension's own) -/
def FpOk (X : Cx) (pins : List (Addr × Obj)) (H : Hp) (b : Addr) : Prop :=
  H b = none ∧ b ≠ X.env.locals ∧ b ∉ X.fs ∧ (b ∈ X.ex ∨ X.s₀.heap.objs.size ≤ b) ∧ (∀ x c, X.env.cells.lookup x = some c → c ≠ b) ∧ ∀ p ∈ X.pn ++ pins, p.1 ≠ b
theorem Inv.fpOk {X : Cx} {pins : List (Addr × Obj)} {σ : St} {H H' : Hp} {s : Shared} {b : Addr} (I : Inv X pins σ H s) (hb : s.heap.objs.size ≤ b) (hn : H' b = none) : FpOk X pins H' b := by
  refine ⟨hn, Nat.ne_of_gt (Nat.lt_of_lt_of_le I.lt hb), I.nofs hb, .inr (Nat.le_trans I.sz hb), fun x c e z => ?_, fun p hp z => ?_⟩
  · obtain ⟨v, q⟩ := I.cell x c e
    exact absurd (Nat.lt_of_lt_of_le q.lt (by rw [z]; exact hb)) (Nat.lt_irrefl _)
  · exact absurd (Nat.lt_of_lt_of_le (Heap.lt_size (I.pin p hp).1) (by rw [z]; exact hb)) (Nat.lt_irrefl _)
structure Turn (P : Program) (w : World) (K : PySem.W.Frag) (tg : Expr) (J : It) (fp : List Addr) (it : Addr) (tn : Nat → Heap → Prop) : Prop where
  mem : it ∈ fp
  obj : ∀ i h, tn i h → ∀ b ∈ fp, ∃ o, h.get? b = some o ∧ ∀ v, o.data ≠ .cell v
  keep : ∀ i h h', tn i h → (∀ b ∈ fp, ∀ o, h.get? b = some o → h'.get? b = some o) → tn i h'
  item : ∀ (X : Cx), X.prog = P → X.w = w → X.K = K → X.calm = true → ∀ (i : Nat) (pins : List (Addr × Obj)) (s : Shared) (σ : St) (H : Hp) (E : Value → Shared → Prop), Inv X pins σ H s → (∀ b ∈ fp, FpOk X pins H b) → tn i s.heap → J.go i H →
    wpAny (model P w) X.A (pyNext (.ref it)) (fun r s1 => ∃ u, r = some u ∧
      wpAny (model P w) X.A (letOwnedTupleGo tg (.ref it) u) (fun _ s2 => ∃ x H', Inv X pins σ H' s2 ∧ RelV x u ∧ J.yld i H x H' ∧ tn (i + 1) s2.heap ∧ ∀ b ∈ fp, H' b = none) E s1) E s
  done : ∀ (X : Cx), X.prog = P → X.w = w → X.K = K → X.calm = true → ∀ (i : Nat) (pins : List (Addr × Obj)) (s : Shared) (σ : St) (H : Hp) (E : Value → Shared → Prop), Inv X pins σ H s → (∀ b ∈ fp, FpOk X pins H b) → tn i s.heap → J.stop i H →
    wpAny (model P w) X.A (pyNext (.ref it)) (fun r s1 => r = none ∧ Inv X pins σ H s1) E s
  self : ∀ (A : Around) (i : Nat) (s : Shared) (Q : Value → Shared → Prop) (E : Value → Shared → Prop), tn i s.heap → Q (.ref it) s → wpAny (model P w) A (pyIter (.ref it)) Q E s
abbrev TI := St → Hp → (It → Hp → Prop) → Prop
/-- an iterator has come -/
def PIE (X : Cx) (pins : List (Addr × Obj)) (σ : St) (tg : Expr) (R : It → Hp → Prop) (itv : Value) (s2 : Shared) : Prop :=
  ∃ (it : Addr) (fp : List Addr) (tn : Nat → Heap → Prop) (J : It) (H' : Hp), itv = .ref it ∧ Inv X pins σ H' s2 ∧ Turn X.prog X.w X.K tg J fp it tn ∧ tn 0 s2.heap ∧ (∀ b ∈ fp, FpOk X pins H' b) ∧ R J H'
def PI (X : Cx) (tg iter : Expr) (wi : TI) : Prop :=
  ∀ (pins : List (Addr × Obj)) (s : Shared) (σ : St) (H : Hp) (R : It → Hp → Prop), Inv X pins σ H s → wi σ H R →
    wpAny (model X.prog X.w) X.A (eval iter X.env) (fun v s1 => wpAny (model X.prog X.w) X.A (pyIter v) (PIE X pins σ tg R) X.xe s1) X.xe s

/-- the step ahead of the store is nothing for an iterator that keeps no tuple -/
theorem go_of {M : Model} {A : Around} {E : Value → Shared → Prop} {s : Shared} {tg : Expr} {it : Addr} {u : Value} {o : Obj} {n : String} {vs : Array Value} {Q : Unit → Shared → Prop} (ho : s.heap.get? it = some o) (hc : o.cls = .type n) (hd : o.data = .fields vs)
    (hn : ["enumerate", "zip", "dict_itemiterator", "dict_reverseitemiterator", "odict_iterator", "itertools.zip_longest", "itertools.pairwise"].contains n = false) (hQ : Q () s) : wpAny M A (letOwnedTupleGo tg (.ref it) u) Q E s := by
  unfold letOwnedTupleGo
  cases tg <;> first
    | exact wpAny_pure hQ
    | (cases u <;> first
        | exact wpAny_pure hQ
        | (refine wpAny_bind (wpAny_load ho ?_)
           rw [hc, hd]
           show wpAny M A (if (["enumerate", "zip", "dict_itemiterator", "dict_reverseitemiterator", "odict_iterator", "itertools.zip_longest", "itertools.pairwise"].contains n && vs[0]? == some (rawInt _)) = true then _ else _) Q E s
           rw [if_neg (by intro h; rw [hn, Bool.false_and] at h; cases h)]
           exact wpAny_pure hQ))

/-- the list at a, as it stands at each turn (a loop may append to it) -/
def Itl (K : PySem.W.Frag) (a : Addr) : It :=
  ⟨fun i H => ∃ xs x, SqL K H a xs ∧ xs[i]? = some x, fun i H x H' => H' = H ∧ ∀ xs, SqL K H a xs → xs[i]? = some x, fun i H => ∃ xs, SqL K H a xs ∧ xs.length ≤ i⟩
def Itt (K : PySem.W.Frag) (a : Addr) : It :=
  ⟨fun i H => ∃ xs x, SqT K H a xs ∧ xs[i]? = some x, fun i H x H' => H' = H ∧ ∀ xs, SqT K H a xs → xs[i]? = some x, fun i H => ∃ xs, SqT K H a xs ∧ xs.length ≤ i⟩
/-- lo, lo + 1, .. (n of them) -/
def Itr (lo : Int) (n : Nat) : It := ⟨fun i _ => i < n, fun i H x H' => H' = H ∧ x = .int (lo + i), fun i _ => n ≤ i⟩
theorem turn_list {P : Program} {w : World} {K : PySem.W.Frag} {tg : Expr} (a it : Addr) : Turn P w K tg (Itl K a) [it] it (fun i h => h.IsListIter it a i) where
  mem := by simp
  obj := fun i h st b hb => by
    have e : b = it := by simpa using hb
    subst e
    obtain ⟨o, e, c, d⟩ := st
    exact ⟨o, e, fun v z => by rw [d] at z; cases z⟩
  keep := fun i h h' st k => st.at fun o e => k it (by simp) o e
  item := by
    intro X hP hw hK hc i pins s σ H E I hf st hg
    subst hP hw hK
    obtain ⟨xs, x, hq, hx⟩ := hg
    obtain ⟨its, rv, p, hz⟩ := I.list hq
    obtain ⟨u, hu, ru⟩ := rv.get hx
    obtain ⟨f0, f1, f2, f3, f4, f5⟩ := hf it (by simp)
    refine wpAny_pyNext_list_item st p.isList (x := u) (by simpa using hu) fun h' st' sb => ?_
    have I1 : Inv X pins σ H { s with heap := h' } := I.turned (t' := s.toks) (fun b o hb e => (sb.2 b hb).trans e) f0 f1 f3 f4 f5
    obtain ⟨o, e, c, d⟩ := id st'
    exact ⟨u, rfl, go_of (s := { s with heap := h' }) e c d (by decide) ⟨x, H, I1, ru, ⟨rfl, fun ys hy => by rw [I.list_inj hy hq]; exact hx⟩, st', fun b hb => (hf b hb).1⟩⟩
  done := by
    intro X hP hw hK hc i pins s σ H E I hf st hg
    subst hP hw hK
    obtain ⟨xs, hq, hx⟩ := hg
    obtain ⟨its, rv, p, hz⟩ := I.list hq
    obtain ⟨f0, f1, f2, f3, f4, f5⟩ := hf it (by simp)
    have hl := rv.length
    exact wpAny_pyNext_list_end (I.ok.hd hc) st p.isList (by simp; omega) fun h' eb => ⟨rfl, I.turned (t' := s.toks) (fun b o hb e => eb b o hb e) f0 f1 f3 f4 f5⟩
  self := fun _ _ _ _ _ st h => wpAny_pyIter_listiter st h
theorem turn_tuple {P : Program} {w : World} {K : PySem.W.Frag} {tg : Expr} (a it : Addr) : Turn P w K tg (Itt K a) [it] it (fun i h => h.IsTupleIter it a i) where
  mem := by simp
  obj := fun i h st b hb => by
    have e : b = it := by simpa using hb
    subst e
    obtain ⟨o, e, c, d⟩ := st
    exact ⟨o, e, fun v z => by rw [d] at z; cases z⟩
  keep := fun i h h' st k => st.at fun o e => k it (by simp) o e
  item := by
    intro X hP hw hK hc i pins s σ H E I hf st hg
    subst hP hw hK
    obtain ⟨xs, x, hq, hx⟩ := hg
    obtain ⟨its, rv, p, hz⟩ := I.tuple hq
    obtain ⟨u, hu, ru⟩ := rv.get hx
    obtain ⟨f0, f1, f2, f3, f4, f5⟩ := hf it (by simp)
    refine wpAny_pyNext_tuple_item st (show s.heap.IsTuple a its.toArray from p) (x := u) (by simpa using hu) fun h' st' sb => ?_
    have I1 : Inv X pins σ H { s with heap := h' } := I.turned (t' := s.toks) (fun b o hb e => (sb.2 b hb).trans e) f0 f1 f3 f4 f5
    obtain ⟨o, e, c, d⟩ := id st'
    exact ⟨u, rfl, go_of (s := { s with heap := h' }) e c d (by decide) ⟨x, H, I1, ru, ⟨rfl, fun ys hy => by rw [I.tuple_inj hy hq]; exact hx⟩, st', fun b hb => (hf b hb).1⟩⟩
  done := by
    intro X hP hw hK hc i pins s σ H E I hf st hg
    subst hP hw hK
    obtain ⟨xs, hq, hx⟩ := hg
    obtain ⟨its, rv, p, hz⟩ := I.tuple hq
    obtain ⟨f0, f1, f2, f3, f4, f5⟩ := hf it (by simp)
    have hl := rv.length
    exact wpAny_pyNext_tuple_end (I.ok.hd hc) st (show s.heap.IsTuple a its.toArray from p) (by simp; omega) fun h' eb => ⟨rfl, I.turned (t' := s.toks) (fun b o hb e => eb b o hb e) f0 f1 f3 f4 f5⟩
  self := fun _ _ _ _ _ st h => wpAny_pyIter_tupleiter st h
theorem turn_range {P : Program} {w : World} {K : PySem.W.Frag} {tg : Expr} (it : Addr) (lo : Int) (n : Nat) : Turn P w K tg (Itr lo n) [it] it (fun i h => IsRangeIter h it (lo + (i : Nat) * 1) ((n : Int) - (i : Nat)) 1) where
  mem := by simp
  obj := fun i h st b hb => by
    have e : b = it := by simpa using hb
    subst e
    exact ⟨_, st, fun v z => by
      have z' : Data.fields _ = Data.cell v := z
      cases z'⟩
  keep := fun i h h' st k => k it (by simp) _ st
  item := by
    intro X hP hw hK hc i pins s σ H E I hf st hg
    subst hP hw hK
    obtain ⟨f0, f1, f2, f3, f4, f5⟩ := hf it (by simp)
    have W := Walks.range (prog := X.prog) (w := X.w) (I.ok.hd hc) it lo 1 n
    refine W.item i s _ _ hg st fun v h' tk hv st' kk => ?_
    obtain ⟨t, rfl⟩ := hv
    have I1 : Inv X pins σ H { s with heap := h', toks := tk } := I.turned (fun b o hb e => kk b o (by simpa using hb) e) f0 f1 f3 f4 f5
    refine ⟨_, rfl, go_of (s := { s with heap := h', toks := tk }) (n := "range_iterator") st' rfl rfl (by decide) ⟨.int (lo + i), H, I1, ⟨t, ?_⟩, ⟨rfl, rfl⟩, st', fun b hb => (hf b hb).1⟩⟩
    rw [Int.mul_one]
  done := by
    intro X hP hw hK hc i pins s σ H E I hf st hg
    subst hP hw hK
    obtain ⟨f0, f1, f2, f3, f4, f5⟩ := hf it (by simp)
    exact wpAny_pyNext_range_end (I.ok.hd hc) st (by have : n ≤ i := hg; omega) fun h' eb => ⟨rfl, I.turned (t' := s.toks) (fun b o hb e => eb b o hb e) f0 f1 f3 f4 f5⟩
  self := fun _ _ _ _ _ st h => wpAny_pyIter_rangeiter st h
end L2

namespace L2
open PySem PySem.Spec PyProof.Rows
section
variable {X : Cx} {tg : Expr}
def iList (K : PySem.W.Frag) (tl : TE) : TI := fun σ H R => tl σ H fun x H1 => ∃ a, x = .ref a ∧ (∃ xs, SqL K H1 a xs) ∧ R (Itl K a) H1
def iTup (K : PySem.W.Frag) (tl : TE) : TI := fun σ H R => tl σ H fun x H1 => ∃ a, x = .ref a ∧ (∃ xs, SqT K H1 a xs) ∧ R (Itt K a) H1
theorem pi_list {l : Expr} {tl : TE} (hl : PE X l tl) : PI X tg l (iList X.K tl) := by
  intro pins s σ H R I h
  refine thn (hl pins s σ H _ I h) fun v s1 ⟨x, H1, I1, r1, q1⟩ => ?_
  obtain ⟨a, e, ⟨xs, hq⟩, q⟩ := q1
  subst e
  cases r1
  obtain ⟨its, rv, p, hz⟩ := I1.list hq
  refine wpAny_pyIter_list p.isList ?_
  refine ⟨s1.heap.objs.size, [s1.heap.objs.size], _, _, H1, rfl, I1.kept (t' := s1.toks) fun b o e => Heap.get?_push_of_some _ e, turn_list a _, ⟨_, Heap.get?_push_size _ rfl, rfl, rfl⟩, fun b hb => ?_, q⟩
  have e : b = s1.heap.objs.size := by simpa using hb
  subst e
  exact I1.fpOk (Nat.le_refl _) (I1.hok.fresh (Nat.le_refl _))
theorem pi_tup {l : Expr} {tl : TE} (hl : PE X l tl) : PI X tg l (iTup X.K tl) := by
  intro pins s σ H R I h
  refine thn (hl pins s σ H _ I h) fun v s1 ⟨x, H1, I1, r1, q1⟩ => ?_
  obtain ⟨a, e, ⟨xs, hq⟩, q⟩ := q1
  subst e
  cases r1
  obtain ⟨its, rv, p, hz⟩ := I1.tuple hq
  refine wpAny_pyIter_tuple (show s1.heap.IsTuple a its.toArray from p) ?_
  refine ⟨s1.heap.objs.size, [s1.heap.objs.size], _, _, H1, rfl, I1.kept (t' := s1.toks) fun b o e => Heap.get?_push_of_some _ e, turn_tuple a _, ⟨_, Heap.get?_push_size _ rfl, rfl, rfl⟩, fun b hb => ?_, q⟩
  have e : b = s1.heap.objs.size := by simpa using hb
  subst e
  exact I1.fpOk (Nat.le_refl _) (I1.hok.fresh (Nat.le_refl _))
/-- a range object just made, walked -/
theorem range_it {pins : List (Addr × Obj)} {σ : St} {H : Hp} {s : Shared} {R : It → Hp → Prop} {E : Value → Shared → Prop} {lo hi : Int} {t u v : Tok} {tk : Nat} (I : Inv X pins σ H s) (h1 : -(2 ^ 62) ≤ lo) (h2 : lo < 2 ^ 62) (h3 : -(2 ^ 62) ≤ hi) (h4 : hi < 2 ^ 62)
    (q : R (Itr lo (hi - lo).toNat) H) : wpAny (model X.prog X.w) X.A (pyIter (.ref s.heap.objs.size)) (PIE X pins σ tg R) E { s with heap := s.heap.push { cls := .type "range", data := .fields #[.int lo t, .int hi u, .int 1 v] }, toks := tk } := by
  refine wpAny_pyIter_range (IsRange.new ..) (small_one h1 h2 h3 h4) ?_
  have I1 : Inv X pins σ H { s with heap := s.heap.push { cls := .type "range", data := .fields #[.int lo t, .int hi u, .int 1 v] }, toks := tk } := I.kept fun b o e => Heap.get?_push_of_some _ e
  refine ⟨(s.heap.push { cls := .type "range", data := .fields #[.int lo t, .int hi u, .int 1 v] }).objs.size, [(s.heap.push { cls := .type "range", data := .fields #[.int lo t, .int hi u, .int 1 v] }).objs.size], _, _, H, rfl,
    I1.kept (t' := tk) fun b o e => Heap.get?_push_of_some _ e, turn_range _ lo (hi - lo).toNat, ?_, fun b hb => ?_, q⟩
  · have e1 : lo + ((0 : Nat) : Int) * 1 = lo := by simp
    have e2 : (((hi - lo).toNat : Nat) : Int) - ((0 : Nat) : Int) = Builtin.Range.rangeSize lo hi 1 := by rw [rangeSize_one]; split <;> omega
    show IsRangeIter _ _ (lo + ((0 : Nat) : Int) * 1) ((((hi - lo).toNat : Nat) : Int) - ((0 : Nat) : Int)) 1
    rw [e1, e2]
    exact Heap.get?_push_size _ rfl
  · have e : b = (s.heap.push { cls := .type "range", data := .fields #[.int lo t, .int hi u, .int 1 v] }).objs.size := by simpa using hb
    subst e
    exact I1.fpOk (Nat.le_refl _) (I1.hok.fresh (Nat.le_refl _))
def iRng1 (ta : TA) : TI := fun σ H R => ta σ H fun vs H1 => ∃ j : Int, vs = [.int j] ∧ -(2 ^ 62) ≤ j ∧ j < 2 ^ 62 ∧ R (Itr 0 j.toNat) H1
theorem pi_range1 {a : Expr} {ta : TA} {p pos : Pos} (hg : Gl X "range") (hm : X.mg "range" = none) (ha : PA X [a] ta) (hs : starEach [a] X.env = [(false, eval a X.env)] := by rfl) : PI X tg (.Call (.Name "range" p) [a] [] pos) (iRng1 ta) := by
  intro pins s σ H R I h
  refine Call_ (ld_blt I hg hm boot_range (PyProof.Rows.callWith_type1 (thn (ha pos pins s σ H _ I h) fun us s1 ⟨vs, H1, I1, r1, q1⟩ => ?_) hs rfl))
  obtain ⟨j, e, q1, q2, q⟩ := q1
  subst e
  cases r1 with
  | cons r rr =>
    cases rr
    obtain ⟨t, rfl⟩ := r
    exact call_range_1 (range_it I1 (by omega) (by omega) q1 q2 (by simpa using q))
/-! ### for -/
/-- W: the invariant by the turn and a measure; N: what the body is to reach -/
def tFor (wi : TI) (g : TG) (tb : TS) : TS := fun D σ H => wi σ H fun J H1 => ∃ W : Nat → Nat → St → Hp → Prop, (∃ m, W 0 m σ H1) ∧ ∀ i m σ H, W i m σ H →
  (J.stop i H ∧ D.nx σ H) ∨ (J.go i H ∧ ∃ N : St → Hp → Prop, (∀ σ' H', N σ' H' → ∃ m', m' < m ∧ W (i + 1) m' σ' H') ∧ ∀ x H', J.yld i H x H' → g x σ H' fun σ2 H2 => tb { D with nx := N, ct := N, bk := D.nx } σ2 H2)
/-- the records at fp as they stand -/
def pinsAt (fp : List Addr) (h : Heap) : List (Addr × Obj) := fp.filterMap fun b => (h.get? b).map fun o => (b, o)
theorem mem_pinsAt {fp : List Addr} {h : Heap} {b : Addr} {o : Obj} (hb : b ∈ fp) (e : h.get? b = some o) : (b, o) ∈ pinsAt fp h := List.mem_filterMap.mpr ⟨b, hb, by rw [e]; rfl⟩
theorem of_pinsAt {fp : List Addr} {h : Heap} {p : Addr × Obj} (hp : p ∈ pinsAt fp h) : p.1 ∈ fp ∧ h.get? p.1 = some p.2 := by
  obtain ⟨b, hb, e⟩ := List.mem_filterMap.mp hp
  cases q : h.get? b with
  | none => rw [q] at e; cases e
  | some o =>
    rw [q] at e
    have e' : (b, o) = p := Option.some.inj e
    subst e'
    exact ⟨hb, q⟩
theorem Inv.pinned {pins : List (Addr × Obj)} {σ : St} {H : Hp} {s : Shared} {fp : List Addr} (I : Inv X pins σ H s) (hf : ∀ b ∈ fp, FpOk X pins H b) (ho : ∀ b ∈ fp, ∃ o, s.heap.get? b = some o ∧ ∀ v, o.data ≠ .cell v) : Inv X (pins ++ pinsAt fp s.heap) σ H s :=
  I.pins_of fun p hp => (List.mem_append.mp hp).elim (fun z => I.pin p (List.mem_append_right _ z)) fun z => by
    obtain ⟨hb, e⟩ := of_pinsAt z
    obtain ⟨f0, f1, f2, _⟩ := hf p.1 hb
    obtain ⟨o, e', d⟩ := ho p.1 hb
    rw [e] at e'; cases e'
    exact ⟨e, f0, f1, f2, d⟩
theorem Inv.unpinned {pins pl : List (Addr × Obj)} {σ : St} {H : Hp} {s : Shared} (I : Inv X (pins ++ pl) σ H s) : Inv X pins σ H s := I.pins_of fun p hp => I.pin p (List.mem_append_right _ (List.mem_append_left _ hp))
theorem ps_for {iter : Expr} {body : List Stmt} {wi : TI} {g : TG} {tb : TS} {pos : Pos} (hp : PassesOwn (model X.prog X.w) X.A X.env X.xe) (hc : X.calm = true) (hi : PI X tg iter wi) (hg : PG X tg g) (hb : PSs X body tb)
    (hs : ∀ x, foldedSetIterable iter X.env x = pure x := by intro _; rfl) : PS X (.For tg iter body [] pos) (tFor wi g tb) := by
  intro pins s σ H D I h
  refine wpAny_For (thn (hi pins s σ H _ I h) fun v s1 h1 => thn h1 fun itv s2 h2 => ?_) hs
  obtain ⟨it, fp, tn, J, H2, e, I2, T, st2, f2, W, ⟨m0, w0⟩, turn⟩ := h2
  subst e
  -- what stays true of the iterator's objects through the loop
  have stat : ∀ {H' : Hp}, (∀ b ∈ fp, H' b = none) → ∀ b ∈ fp, FpOk X pins H' b := fun hn b hb => ⟨hn b hb, (f2 b hb).2⟩
  refine codeAny_forLoop_any (fun n s' => ∃ i σ' H', Inv X pins σ' H' s' ∧ tn i s'.heap ∧ (∀ b ∈ fp, H' b = none) ∧ W i n σ' H') ?_ m0 ⟨0, σ, H2, I2, st2, fun b hb => (f2 b hb).1, w0⟩
  rintro n s3 ⟨i, σ3, H3, I3, st3, fr3, w3⟩
  rcases turn i n σ3 H3 w3 with ⟨stop, qn⟩ | ⟨go, N, hN, step⟩
  · refine wpAny_passesOwn hp (thn (T.done X rfl rfl rfl hc i pins s3 σ3 H3 X.xe I3 (stat fr3) st3 stop) fun r s4 ⟨hr, I4⟩ => ?_)
    subst hr
    exact wpAny_execs_nil ⟨σ3, H3, I4, qn⟩
  · refine wpAny_passesOwn hp (thn (T.item X rfl rfl rfl hc i pins s3 σ3 H3 X.xe I3 (stat fr3) st3 go) fun r s4 ⟨u, hr, h4⟩ => ?_)
    subst hr
    refine wpAny_passesOwn hp (thn h4 fun _ s5 ⟨x, H5, I5, r5, y5, st5, fr5⟩ => ?_)
    have I5' := I5.pinned (stat fr5) (T.obj _ _ st5)
    refine wpAny_passesOwn hp (thn (hg _ s5 σ3 H5 x u _ I5' r5 (step x H5 y5)) fun _ s6 ⟨σ6, H6, I6, q6⟩ => ?_)
    refine wpAny_passesOwn hp (thn (hb _ s6 σ6 H6 _ I6 q6) fun f s7 q7 => ?_)
    have again : ∀ {σ7 : St} {H7 : Hp}, Inv X (pins ++ pinsAt fp s5.heap) σ7 H7 s7 → N σ7 H7 → ∃ m, m < n ∧ ∃ i σ' H', Inv X pins σ' H' s7 ∧ tn i s7.heap ∧ (∀ b ∈ fp, H' b = none) ∧ W i m σ' H' := fun {σ7 H7} I7 n7 => by
      obtain ⟨m', hm, w7⟩ := hN σ7 H7 n7
      refine ⟨m', hm, i + 1, σ7, H7, I7.unpinned, T.keep _ _ _ st5 fun b hb o e => (I7.pin (b, o) (List.mem_append_right _ (List.mem_append_right _ (mem_pinsAt hb e)))).1, fun b hb => ?_, w7⟩
      obtain ⟨o, e, d⟩ := T.obj _ _ st5 b hb
      exact (I7.pin (b, o) (List.mem_append_right _ (List.mem_append_right _ (mem_pinsAt hb e)))).2.1
    cases f with
    | next => obtain ⟨σ7, H7, I7, n7⟩ := q7; exact again I7 n7
    | cont => obtain ⟨σ7, H7, I7, n7⟩ := q7; exact again I7 n7
    | brk => obtain ⟨σ7, H7, I7, q7⟩ := q7; exact ⟨σ7, H7, I7.unpinned, q7⟩
    | ret v => obtain ⟨x7, σ7, H7, I7, r7, q7⟩ := q7; exact ⟨x7, σ7, H7, I7.unpinned, r7, q7⟩
end

/-! ### the forms one uses -/
/-- over a list that the body leaves as it is -/
theorem for_list {K : PySem.W.Frag} {a : Addr} {xs : List V} {g : TG} {tb : TS} {D : Ends} {σ : St} {H : Hp} (Pv : Nat → St → Hp → Prop) (h0 : Pv 0 σ H) (hl : ∀ i σ H, i ≤ xs.length → Pv i σ H → SqL K H a xs)
    (hs : ∀ i x σ H, xs[i]? = some x → Pv i σ H → g x σ H fun σ2 H2 => tb { D with nx := Pv (i + 1), ct := Pv (i + 1), bk := D.nx } σ2 H2) (hd : ∀ σ H, Pv xs.length σ H → D.nx σ H) :
    ∃ W : Nat → Nat → St → Hp → Prop, (∃ m, W 0 m σ H) ∧ ∀ i m σ H, W i m σ H →
      ((Itl K a).stop i H ∧ D.nx σ H) ∨ ((Itl K a).go i H ∧ ∃ N : St → Hp → Prop, (∀ σ' H', N σ' H' → ∃ m', m' < m ∧ W (i + 1) m' σ' H') ∧ ∀ x H', (Itl K a).yld i H x H' → g x σ H' fun σ2 H2 => tb { D with nx := N, ct := N, bk := D.nx } σ2 H2) := by
  refine ⟨fun i m σ H => m = xs.length - i ∧ i ≤ xs.length ∧ Pv i σ H, ⟨xs.length, by simp, Nat.zero_le _, h0⟩, ?_⟩
  rintro i m σ H ⟨rfl, hi, p⟩
  have q := hl i σ H hi p
  by_cases hlt : i < xs.length
  · refine .inr ⟨⟨xs, xs[i], q, by simp [hlt]⟩, Pv (i + 1), fun σ' H' p' => ⟨xs.length - (i + 1), by omega, rfl, hlt, p'⟩, fun x H' y => ?_⟩
    obtain ⟨e, y⟩ := y
    subst e
    exact hs i x σ _ (y xs q) p
  · have e : i = xs.length := by omega
    subst e
    exact .inl ⟨⟨xs, q, Nat.le_refl _⟩, hd σ H p⟩
theorem for_tup {K : PySem.W.Frag} {a : Addr} {xs : List V} {g : TG} {tb : TS} {D : Ends} {σ : St} {H : Hp} (Pv : Nat → St → Hp → Prop) (h0 : Pv 0 σ H) (hl : ∀ i σ H, i ≤ xs.length → Pv i σ H → SqT K H a xs)
    (hs : ∀ i x σ H, xs[i]? = some x → Pv i σ H → g x σ H fun σ2 H2 => tb { D with nx := Pv (i + 1), ct := Pv (i + 1), bk := D.nx } σ2 H2) (hd : ∀ σ H, Pv xs.length σ H → D.nx σ H) :
    ∃ W : Nat → Nat → St → Hp → Prop, (∃ m, W 0 m σ H) ∧ ∀ i m σ H, W i m σ H →
      ((Itt K a).stop i H ∧ D.nx σ H) ∨ ((Itt K a).go i H ∧ ∃ N : St → Hp → Prop, (∀ σ' H', N σ' H' → ∃ m', m' < m ∧ W (i + 1) m' σ' H') ∧ ∀ x H', (Itt K a).yld i H x H' → g x σ H' fun σ2 H2 => tb { D with nx := N, ct := N, bk := D.nx } σ2 H2) := by
  refine ⟨fun i m σ H => m = xs.length - i ∧ i ≤ xs.length ∧ Pv i σ H, ⟨xs.length, by simp, Nat.zero_le _, h0⟩, ?_⟩
  rintro i m σ H ⟨rfl, hi, p⟩
  have q := hl i σ H hi p
  by_cases hlt : i < xs.length
  · refine .inr ⟨⟨xs, xs[i], q, by simp [hlt]⟩, Pv (i + 1), fun σ' H' p' => ⟨xs.length - (i + 1), by omega, rfl, hlt, p'⟩, fun x H' y => ?_⟩
    obtain ⟨e, y⟩ := y
    subst e
    exact hs i x σ _ (y xs q) p
  · have e : i = xs.length := by omega
    subst e
    exact .inl ⟨⟨xs, q, Nat.le_refl _⟩, hd σ H p⟩
theorem for_range {lo : Int} {n : Nat} {g : TG} {tb : TS} {D : Ends} {σ : St} {H : Hp} (Pv : Nat → St → Hp → Prop) (h0 : Pv 0 σ H)
    (hs : ∀ i σ H, i < n → Pv i σ H → g (.int (lo + i)) σ H fun σ2 H2 => tb { D with nx := Pv (i + 1), ct := Pv (i + 1), bk := D.nx } σ2 H2) (hd : ∀ σ H, Pv n σ H → D.nx σ H) :
    ∃ W : Nat → Nat → St → Hp → Prop, (∃ m, W 0 m σ H) ∧ ∀ i m σ H, W i m σ H →
      ((Itr lo n).stop i H ∧ D.nx σ H) ∨ ((Itr lo n).go i H ∧ ∃ N : St → Hp → Prop, (∀ σ' H', N σ' H' → ∃ m', m' < m ∧ W (i + 1) m' σ' H') ∧ ∀ x H', (Itr lo n).yld i H x H' → g x σ H' fun σ2 H2 => tb { D with nx := N, ct := N, bk := D.nx } σ2 H2) := by
  refine ⟨fun i m σ H => m = n - i ∧ i ≤ n ∧ Pv i σ H, ⟨n, by simp, Nat.zero_le _, h0⟩, ?_⟩
  rintro i m σ H ⟨rfl, hi, p⟩
  by_cases hlt : i < n
  · refine .inr ⟨hlt, Pv (i + 1), fun σ' H' p' => ⟨n - (i + 1), by omega, rfl, hlt, p'⟩, fun x H' y => ?_⟩
    obtain ⟨e, y⟩ := y
    subst e y
    exact hs i σ _ hlt p
  · have e : i = n := by omega
    subst e
    exact .inl ⟨Nat.le_refl _, hd σ H p⟩
end L2

namespace L2
open PySem PySem.Spec PyProof.Rows

abbrev R2 := V → V → Hp → VK → Prop
/-- a two-place operation on values: f is binaryOp op, inplaceOp op or compareOp op -/
def OpR (X : Cx) (f : Value → Value → Sem Value) (r : R2) : Prop :=
  ∀ (pins : List (Addr × Obj)) (s : Shared) (σ : St) (H : Hp) (x y : V) (v u : Value) (Q : VK), Inv X pins σ H s → RelV x v → RelV y u → r x y H Q →
    wpAny (model X.prog X.w) X.A (f v u) (EP X pins σ Q) X.xe s
/-- a one-place operation -/
def UnR (X : Cx) (f : Value → Sem Value) (r : V → Hp → VK → Prop) : Prop :=
  ∀ (pins : List (Addr × Obj)) (s : Shared) (σ : St) (H : Hp) (x : V) (v : Value) (Q : VK), Inv X pins σ H s → RelV x v → r x H Q →
    wpAny (model X.prog X.w) X.A (f v) (EP X pins σ Q) X.xe s
/-- a call of a value that is known (a builtin, a type) with values -/
def CallR (X : Cx) (f : Value) (r : List V → Hp → VK → Prop) : Prop :=
  ∀ (pins : List (Addr × Obj)) (s : Shared) (σ : St) (H : Hp) (xs : List V) (us : List Value) (Q : VK), Inv X pins σ H s → Vals xs us → r xs H Q →
    wpAny (model X.prog X.w) X.A (call f us) (EP X pins σ Q) X.xe s
def tOp (r : R2) (ta tb : TE) : TE := fun σ H Q => ta σ H fun x H1 => tb σ H1 fun y H2 => r x y H2 Q
def tUn (r : V → Hp → VK → Prop) (ta : TE) : TE := fun σ H Q => ta σ H fun x H1 => r x H1 Q
/-- ints in, under C, and a value out -/
def rI (C : Int → Int → Prop) (g : Int → Int → V) : R2 := fun x y H Q => ∃ i j, x = .int i ∧ y = .int j ∧ C i j ∧ Q (g i j) H
def rI0 (g : Int → Int → V) : R2 := fun x y H Q => ∃ i j, x = .int i ∧ y = .int j ∧ Q (g i j) H
def rU (g : Int → V) : V → Hp → VK → Prop := fun x H Q => ∃ i, x = .int i ∧ Q (g i) H

section
variable {X : Cx} {a b c : Expr} {ta tb tc : TE} {pos : Pos}

theorem binT (ha : PE X a ta) (hb : PE X b tb) {pins : List (Addr × Obj)} {s : Shared} {σ : St} {H : Hp} {R : V → V → Hp → Prop} (I : Inv X pins σ H s)
    (h : ta σ H fun x H1 => tb σ H1 fun y H2 => R x y H2) {Q : Value → Shared → Prop} {f : Value → Value → Sem Value}
    (hf : ∀ v u s2 x y H2, Inv X pins σ H2 s2 → RelV x v → RelV y u → R x y H2 → wpAny (model X.prog X.w) X.A (f v u) Q X.xe s2) :
    wpAny (model X.prog X.w) X.A (eval a X.env) (fun v s₁ => wpAny (model X.prog X.w) X.A (eval b X.env) (fun u s₂ => wpAny (model X.prog X.w) X.A (f v u) Q X.xe s₂) X.xe s₁) X.xe s := by
  refine thn (ha pins s σ H _ I h) fun v s1 ⟨x, H1, I1, r1, q1⟩ => ?_
  refine thn (hb pins s1 σ H1 _ I1 q1) fun u s2 ⟨y, H2, I2, r2, q2⟩ => ?_
  exact hf v u s2 x y H2 I2 r1 r2 q2

theorem pe_op {op : Operator} {r : R2} (ho : OpR X (binaryOp op) r) (ha : PE X a ta) (hb : PE X b tb) : PE X (.BinOp a op b pos) (tOp r ta tb) := by
  intro pins s σ H Q I h
  exact wpAny_BinOp (binT ha hb I h fun v u s2 x y H2 I2 rx ry q => ho pins s2 σ H2 x y v u Q I2 rx ry q)
theorem pe_un {op : UnaryOp} {r : V → Hp → VK → Prop} (ho : UnR X (unaryOp op) r) (ha : PE X a ta) : PE X (.UnaryOp op a pos) (tUn r ta) := by
  intro pins s σ H Q I h
  exact UnaryOp_ (thn (ha pins s σ H _ I h) fun v s1 ⟨x, H1, I1, r1, q1⟩ => ho pins s1 σ H1 x v Q I1 r1 q1)
/-! ### ints -/
theorem opI {f : Value → Value → Sem Value} {C : Int → Int → Prop} {g : Int → Int → Int}
    (rule : ∀ (i j : Int) (t u : Tok) (s : Shared) (Q : Value → Shared → Prop) (E : Value → Shared → Prop), C i j → Q (.int (g i j) s.toks) { s with toks := s.toks + 1 } → wpAny (model X.prog X.w) X.A (f (.int i t) (.int j u)) Q E s) :
    OpR X f (rI C fun i j => .int (g i j)) := by
  intro pins s σ H x y v u Q I rx ry h
  obtain ⟨i, j, rfl, rfl, hc, q⟩ := h
  obtain ⟨t, rfl⟩ := rx
  obtain ⟨t', rfl⟩ := ry
  exact rule i j t t' s _ _ hc ⟨.int (g i j), H, I.tok _, ⟨_, rfl⟩, q⟩
theorem opI0 {f : Value → Value → Sem Value} {g : Int → Int → Int}
    (rule : ∀ (i j : Int) (t u : Tok) (s : Shared) (Q : Value → Shared → Prop) (E : Value → Shared → Prop), Q (.int (g i j) s.toks) { s with toks := s.toks + 1 } → wpAny (model X.prog X.w) X.A (f (.int i t) (.int j u)) Q E s) :
    OpR X f (rI0 fun i j => .int (g i j)) := by
  intro pins s σ H x y v u Q I rx ry h
  obtain ⟨i, j, rfl, rfl, q⟩ := h
  obtain ⟨t, rfl⟩ := rx
  obtain ⟨t', rfl⟩ := ry
  exact rule i j t t' s _ _ ⟨.int (g i j), H, I.tok _, ⟨_, rfl⟩, q⟩
theorem opB0 {f : Value → Value → Sem Value} {g : Int → Int → Bool}
    (rule : ∀ (i j : Int) (t u : Tok) (s : Shared) (Q : Value → Shared → Prop) (E : Value → Shared → Prop), Q (.bool (g i j)) s → wpAny (model X.prog X.w) X.A (f (.int i t) (.int j u)) Q E s) :
    OpR X f (rI0 fun i j => .bl (g i j)) := by
  intro pins s σ H x y v u Q I rx ry h
  obtain ⟨i, j, rfl, rfl, q⟩ := h
  obtain ⟨t, rfl⟩ := rx
  obtain ⟨t', rfl⟩ := ry
  exact rule i j t t' s _ _ ⟨.bl (g i j), H, I, rfl, q⟩

def CDiv (i j : Int) : Prop := 0 < j ∧ j < 1073741824
def CPow (i j : Int) : Prop := 0 ≤ j ∧ j ≤ 1000000 ∧ i.natAbs < 2 ^ 64
def CMul (i j : Int) : Prop := (-(2 ^ 64) < i ∧ i < 2 ^ 64) ∨ (-(2 ^ 64) < j ∧ j < 2 ^ 64)
theorem CMul.ok {i j : Int} (h : CMul i j) : IntMulOk i j := by
  rcases h with ⟨h1, h2⟩ | ⟨h1, h2⟩
  · exact .of_left (intBits_le_64 h1 h2)
  · exact .of_right (intBits_le_64 h1 h2)
theorem op_add : OpR X (binaryOp .Add) (rI0 fun i j => .int (i + j)) := opI0 fun _ _ _ _ _ _ _ q => add_int q
theorem op_sub : OpR X (binaryOp .Sub) (rI0 fun i j => .int (i - j)) := opI0 fun _ _ _ _ _ _ _ q => sub_int q
theorem op_mul : OpR X (binaryOp .Mult) (rI CMul fun i j => .int (i * j)) := opI fun _ _ _ _ _ _ _ hc q => mul_int q hc.ok
/-- // by a positive divisor -/
theorem op_fdiv : OpR X (binaryOp .FloorDiv) (rI CDiv fun i j => .int (i / j)) := opI fun i j _ _ _ _ _ hc q => by
  have h1 : (0 : Int) < j := hc.1
  have h2 : j < 1073741824 := hc.2
  exact floordiv_int (by omega) (by rw [Int.fdiv_eq_ediv_of_nonneg i (by omega)]; exact q) (.inl (PyProof.noPylong_small (by omega)))
/-- % by a positive divisor of any size -/
theorem op_mod : OpR X (binaryOp .Mod) (rI (fun _ j => 0 < j) fun i j => .int (i % j)) := opI fun i j _ _ _ _ _ hc q => by
  have h1 : (0 : Int) < j := hc
  exact mod_int' (by omega) (by rw [Int.fmod_eq_emod_of_nonneg i (by omega)]; exact q)
theorem op_pow : OpR X (binaryOp .Pow) (rI CPow fun i j => .int (i ^ j.toNat)) := opI fun _ _ _ _ _ _ _ hc q => pow_int_small hc.1 hc.2.1 hc.2.2 q
theorem unI {f : Value → Sem Value} {g : Int → Int}
    (rule : ∀ (i : Int) (t : Tok) (s : Shared) (Q : Value → Shared → Prop) (E : Value → Shared → Prop), Q (.int (g i) s.toks) { s with toks := s.toks + 1 } → wpAny (model X.prog X.w) X.A (f (.int i t)) Q E s) :
    UnR X f (rU fun i => .int (g i)) := by
  intro pins s σ H x v Q I rx h
  obtain ⟨i, rfl, q⟩ := h
  obtain ⟨t, rfl⟩ := rx
  exact rule i t s _ _ ⟨.int (g i), H, I.tok _, ⟨_, rfl⟩, q⟩
theorem un_neg : UnR X (unaryOp .USub) (rU fun i => .int (-i)) := unI fun _ _ _ _ _ q => neg_int q
/-! ### bools among ints: n += (a < b) -/
end

/-! ### comparisons -/
/-- the scalars that == tells apart as data does -/
def scal : V → V → Bool
  | .non, .non => true | .non, .int _ => true | .int _, .non => true | .non, .bl _ => true | .bl _, .non => true | .non, .str _ => true | .str _, .non => true
  | .int _, .int _ => true | .bl _, .bl _ => true | .str _, .str _ => true | .byt _, .byt _ => true
  | .int _, .str _ => true | .str _, .int _ => true | .bl _, .str _ => true | .str _, .bl _ => true
  | _, _ => false
def rEq : R2 := fun x y H Q => scal x y = true ∧ Q (.bl (decide (x = y))) H
def rNe : R2 := fun x y H Q => scal x y = true ∧ Q (.bl (!decide (x = y))) H

theorem dec_int {i j : Int} : decide (V.int i = V.int j) = (i == j) := by
  rw [Bool.eq_iff_iff]
  simp
theorem dec_bl {i j : Bool} : decide (V.bl i = V.bl j) = (i == j) := by
  rw [Bool.eq_iff_iff]
  simp
theorem dec_str {i j : Str} : decide (V.str i = V.str j) = (i == j) := by
  rw [Bool.eq_iff_iff]
  simp
theorem dec_byt {i j : Array UInt8} : decide (V.byt i = V.byt j) = (i.toList == j.toList) := by
  rw [Bool.eq_iff_iff]
  cases i
  cases j
  simp

section
variable {X : Cx} {a b c : Expr} {ta tb tc : TE} {pos : Pos}
theorem fin_bl {pins : List (Addr × Obj)} {σ : St} {H : Hp} {s : Shared} {Q : VK} {k k' : Bool} (I : Inv X pins σ H s) (q : Q (.bl k) H) (e : k = k') : EP X pins σ Q (.bool k') s := by
  subst e
  exact ⟨.bl k, H, I, rfl, q⟩
theorem op_eq : OpR X (compareOp .Eq) rEq := by
  intro pins s σ H x y v u Q I rx ry h
  obtain ⟨hs, q⟩ := h
  cases x with
  | non =>
    cases rx
    cases y with
    | non => cases ry; exact PySem.EqNone.eq_none_none (fin_bl I q (by simp))
    | bl j => cases ry; exact PySem.EqNone.eq_none_bool (fin_bl I q (by simp))
    | int j => obtain ⟨t', rfl⟩ := ry; exact PySem.EqNone.eq_none_int (fin_bl I q (by simp))
    | str j => obtain ⟨t', rfl⟩ := ry; exact PySem.EqNone.eq_none_str (fin_bl I q (by simp))
    | _ => exact absurd (show false = true from hs) Bool.false_ne_true
  | bl i =>
    cases rx
    cases y with
    | non => cases ry; exact PySem.EqNone.eq_bool_none (fin_bl I q (by simp))
    | bl j => cases ry; exact eq_bool (fin_bl I q dec_bl)
    | str j => obtain ⟨t', rfl⟩ := ry; exact PySem.EqMixed.eq_bool_str (fin_bl I q (by simp))
    | _ => exact absurd (show false = true from hs) Bool.false_ne_true
  | int i =>
    obtain ⟨t, rfl⟩ := rx
    cases y with
    | non => cases ry; exact PySem.EqNone.eq_int_none (fin_bl I q (by simp))
    | int j => obtain ⟨t', rfl⟩ := ry; exact eq_int (fin_bl I q dec_int)
    | str j => obtain ⟨t', rfl⟩ := ry; exact PySem.EqMixed.eq_int_str (fin_bl I q (by simp))
    | _ => exact absurd (show false = true from hs) Bool.false_ne_true
  | str i =>
    obtain ⟨t, rfl⟩ := rx
    cases y with
    | non => cases ry; exact PySem.EqNone.eq_str_none (fin_bl I q (by simp))
    | bl j => cases ry; exact PySem.EqMixed.eq_str_bool (fin_bl I q (by simp))
    | int j => obtain ⟨t', rfl⟩ := ry; exact PySem.EqMixed.eq_str_int (fin_bl I q (by simp))
    | str j => obtain ⟨t', rfl⟩ := ry; exact eq_str (fin_bl I q dec_str)
    | _ => exact absurd (show false = true from hs) Bool.false_ne_true
  | byt i =>
    obtain ⟨t, rfl⟩ := rx
    cases y with
    | byt j => obtain ⟨t', rfl⟩ := ry; exact PySem.W.eq_bytes (fin_bl I q dec_byt)
    | _ => exact absurd (show false = true from hs) Bool.false_ne_true
  | _ => cases y <;> exact absurd (show false = true from hs) Bool.false_ne_true
theorem op_ne : OpR X (compareOp .NotEq) rNe := by
  intro pins s σ H x y v u Q I rx ry h
  obtain ⟨hs, q⟩ := h
  cases x with
  | non =>
    cases rx
    cases y with
    | non => cases ry; exact PySem.EqNone.ne_none_none (fin_bl I q (by simp))
    | bl j => cases ry; exact PySem.EqNone.ne_none_bool (fin_bl I q (by simp))
    | int j => obtain ⟨t', rfl⟩ := ry; exact PySem.EqNone.ne_none_int (fin_bl I q (by simp))
    | str j => obtain ⟨t', rfl⟩ := ry; exact PySem.EqNone.ne_none_str (fin_bl I q (by simp))
    | _ => exact absurd (show false = true from hs) Bool.false_ne_true
  | bl i =>
    cases rx
    cases y with
    | non => cases ry; exact PySem.EqNone.ne_bool_none (fin_bl I q (by simp))
    | bl j => cases ry; exact ne_bool (fin_bl I q (congrArg not dec_bl))
    | str j => obtain ⟨t', rfl⟩ := ry; exact PySem.EqMixed.ne_bool_str (fin_bl I q (by simp))
    | _ => exact absurd (show false = true from hs) Bool.false_ne_true
  | int i =>
    obtain ⟨t, rfl⟩ := rx
    cases y with
    | non => cases ry; exact PySem.EqNone.ne_int_none (fin_bl I q (by simp))
    | int j => obtain ⟨t', rfl⟩ := ry; exact ne_int (fin_bl I q (congrArg not dec_int))
    | str j => obtain ⟨t', rfl⟩ := ry; exact PySem.EqMixed.ne_int_str (fin_bl I q (by simp))
    | _ => exact absurd (show false = true from hs) Bool.false_ne_true
  | str i =>
    obtain ⟨t, rfl⟩ := rx
    cases y with
    | non => cases ry; exact PySem.EqNone.ne_str_none (fin_bl I q (by simp))
    | bl j => cases ry; exact PySem.EqMixed.ne_str_bool (fin_bl I q (by simp))
    | int j => obtain ⟨t', rfl⟩ := ry; exact PySem.EqMixed.ne_str_int (fin_bl I q (by simp))
    | str j => obtain ⟨t', rfl⟩ := ry; exact ne_str (fin_bl I q (congrArg not dec_str))
    | _ => exact absurd (show false = true from hs) Bool.false_ne_true
  | byt i =>
    obtain ⟨t, rfl⟩ := rx
    cases y with
    | byt j => obtain ⟨t', rfl⟩ := ry; exact PySem.W.ne_bytes (fin_bl I q (congrArg not dec_byt))
    | _ => exact absurd (show false = true from hs) Bool.false_ne_true
  | _ => cases y <;> exact absurd (show false = true from hs) Bool.false_ne_true

theorem op_lt : OpR X (compareOp .Lt) (rI0 fun i j => .bl (decide (i < j))) := opB0 fun _ _ _ _ _ _ _ q => lt_int q
theorem op_gt : OpR X (compareOp .Gt) (rI0 fun i j => .bl (decide (j < i))) := opB0 fun _ _ _ _ _ _ _ q => gt_int q
/-- is None, is not None: the right side a value none -/
theorem op_isN : OpR X (compareOp .Is) (fun x y H Q => y = .non ∧ Q (.bl (decide (x = .non))) H) := by
  intro pins s σ H x y v u Q I rx ry h
  obtain ⟨rfl, q⟩ := h
  cases ry
  refine is_none_gen (fin_bl I q ?_)
  cases x <;> first
    | (cases rx; rfl)
    | (obtain ⟨t, rfl⟩ := rx; rfl)
theorem nomark (b : Expr) {op : CmpOp} (h : op ≠ .In := by decide) (h2 : op ≠ .NotIn := by decide) : behindInMarks op b = false := by
  have e1 : (op == CmpOp.In) = false := by cases op <;> first | rfl | exact absurd rfl h
  have e2 : (op == CmpOp.NotIn) = false := by cases op <;> first | rfl | exact absurd rfl h2
  cases b <;> simp [behindInMarks, e1, e2]
/-- a comparison as a value; hm: nomark b, or (for in, not in) by with_unfolding_all rfl -/
theorem pe_cmpR {op : CmpOp} {r : R2} (ho : OpR X (compareOp op) r) (ha : PE X a ta) (hb : PE X b tb) (hm : behindInMarks op b = false) : PE X (.Compare a [op] [b] pos) (tOp r ta tb) := by
  intro pins s σ H Q I h
  exact wpAny_Compare1 (binT ha hb I h fun v u s2 x y H2 I2 rx ry q => ho pins s2 σ H2 x y v u Q I2 rx ry q) hm
/-- a reading of a value as a test -/
def tTest (t : TE) : TT := fun σ H Q => t σ H fun x H' => ∃ k, x = .bl k ∧ Q k H'
theorem pt_cmpR {op : CmpOp} {r : R2} (ho : OpR X (compareOp op) r) (ha : PE X a ta) (hb : PE X b tb) (hm : behindInMarks op b = false) : PT X (.Compare a [op] [b] pos) (tTest (tOp r ta tb)) := by
  intro pins s σ H Q I h
  refine wpAny_isTrue_Compare1 (thn (ha pins s σ H _ I h) fun v s1 ⟨x, H1, I1, r1, q1⟩ => thn (hb pins s1 σ H1 _ I1 q1) fun u s2 ⟨y, H2, I2, r2, q2⟩ =>
    thn (ho pins s2 σ H2 x y v u _ I2 r1 r2 q2) fun c s3 ⟨z, H3, I3, r3, k, e, q3⟩ => ?_) hm
  subst e
  cases r3
  exact wpAny_truthy_bool ⟨H3, I3, q3⟩
/-! ### truth -/
theorem line63 : (sizeLine : Nat) < 2 ^ 63 := by rw [sizeLine_eq]; decide
/-! ### strs and bytes -/
/-! ### scalar builtins, by CallR -/
theorem vals1 {x : V} {us : List Value} (r : Vals [x] us) : ∃ u, us = [u] ∧ RelV x u := by
  cases r with
  | cons r1 r2 => cases r2; exact ⟨_, rfl, r1⟩
theorem vals2 {x y : V} {us : List Value} (r : Vals [x, y] us) : ∃ u w', us = [u, w'] ∧ RelV x u ∧ RelV y w' := by
  cases r with
  | cons r1 r2 =>
    cases r2 with
    | cons r3 r4 => cases r4; exact ⟨_, _, rfl, r1, r3⟩
theorem call_int1 : CallR X (.type "int") (fun xs H Q => (∃ i, xs = [.int i] ∧ Q (.int i) H) ∨ ∃ k, xs = [.bl k] ∧ Q (.int (if k then 1 else 0)) H) := by
  intro pins s σ H xs us Q I r h
  rcases h with ⟨i, rfl, q⟩ | ⟨k, rfl, q⟩
  · obtain ⟨u, rfl, t, rfl⟩ := vals1 r
    exact call_int_int ⟨.int i, H, I, ⟨_, rfl⟩, q⟩
  · obtain ⟨u, rfl, r1⟩ := vals1 r
    cases r1
    exact call_int_bool ⟨.int (if k then 1 else 0), H, I.tok _, ⟨_, rfl⟩, q⟩
end
end L2

namespace L2
open PySem PySem.Spec PyProof.Rows

/-! ### an instance, its attributes a map -/
structure ObjM (h : Heap) (x dx C : Addr) (mA : Str → Option Value) : Prop where
  obj : h.get? x = some (PySem.W.instObj C dx)
  ns : h.Ns1 dx mA
  ne : dx ≠ x

theorem lookIn_ns {h : Heap} {dx : Addr} {mA : Str → Option Value} (n : h.Ns1 dx mA) : ∃ od, h.get? dx = some od ∧ ∀ name, PySem.W.lookIn name od = some (mA name) := by
  obtain ⟨o, es, ep, ho, hd, hk, _, hm⟩ := n
  refine ⟨o, ho, fun name => ?_⟩
  have e := hm name
  unfold nsFind findBy at e
  rw [← Array.find?_toList] at e
  unfold PySem.W.lookIn
  rw [hd]
  dsimp only
  split
  · rename_i y q
    rw [q] at e
    exact congrArg some e
  · rename_i q
    rw [q] at e
    have a : es.toList.any (·.refKey) = false := by
      rw [List.any_eq_false]
      intro y hy
      obtain ⟨z, t, hkey⟩ := hk y (Array.mem_toList_iff.mp hy)
      simp [DictEntry.refKey, hkey]
    have a' : ¬ es.toList.any (·.refKey) = true := by rw [a]; exact Bool.false_ne_true
    rw [if_neg a']
    exact congrArg some e

theorem ObjM.look {h : Heap} {x dx C : Addr} {mA : Str → Option Value} (I : ObjM h x dx C mA) : ∃ od, PySem.W.InstAt h x (PySem.W.instObj C dx) C (some od) ∧ ∀ name, PySem.W.lookIn name od = some (mA name) :=
  let ⟨od, ho, hl⟩ := lookIn_ns I.ns
  ⟨od, ⟨I.obj, rfl, rfl, ho⟩, hl⟩

section
variable {prog : Program} {w : World} {A : Around} {E : Value → Shared → Prop} {s : Shared} {K : PySem.W.Frag} {x dx C f : Addr} {mA : Str → Option Value} {name : Str} {v : Value}

end

/-! ### the attributes as a list of pairs -/
section
variable {P : Program} {w : World} {H H' : Hp} {h h' : Heap} {a C dx : Addr} {fs fs' : List (Str × V)}
theorem ins_get (hok : HOk P w H h) (e : H a = some (.ins C dx fs)) : ∃ mA, ObjM h a dx C mA ∧ (∀ f, RelO (fs.lookup f) (mA f)) ∧ PySem.Within mA (fs.map (·.1)) ∧ fs.length ≤ 1000 ∧ H dx = some (.own a) := by
  obtain ⟨d, z, ne, ob, mA, n, r, q⟩ := (show ObjOk P w H h a (.ins C dx fs) from hok a _ e)
  exact ⟨mA, ⟨ob, n, ne⟩, r, q, z, d⟩
end

/-! ### what of the text a class must have -/
structure Cls (K : PySem.W.Frag) (C : Addr) : Prop where
  pg : PySem.W.plainGet K C Str.empty = true
  hd : PySem.W.hasDictIn K C = true
  po : PySem.W.plainOver K C = true
  sa : PySem.W.findIn K (.ref C) "__setattr__" = some (some (.builtin "object.__setattr__"))
theorem Cls.get {K : PySem.W.Frag} {C : Addr} (c : Cls K C) (f : Str) : PySem.W.plainGet K C f = true := c.pg
/-- a constant of the class -/
structure Con (K : PySem.W.Frag) (C : Addr) (f : Str) (v : V) (u : Value) : Prop where
  at_ : PySem.W.findIn K (.ref C) f = some (some u)
  rel : RelV v u
  get : PySem.W.specialIn K u "__get__" = some none
  cp : PySem.W.copiedNames.contains f = false
/-- a method: a plain def of the class or of one above it -/
structure Meth (K : PySem.W.Frag) (C : Addr) (m : Str) (f : Addr) : Prop where
  at_ : PySem.W.findIn K (.ref C) m = some (some (.ref f))
  fn : PySem.W.isFn K (.ref f) = true
  kp : PySem.W.keepIn K (.ref f) = true

section
variable {X : Cx} {pins : List (Addr × Obj)} {σ : St} {H : Hp} {s : Shared} {a C dx : Addr} {fs : List (Str × V)} {f : Str} {v : V} {A : Around} {E : Value → Shared → Prop}

end

/-! ### readings and rules -/
section
variable {X : Cx} {o e value : Expr} {f : Str} {pos pos' tpos : Pos} {ta tv : TE}
end

/-! ### isinstance -/
section
variable {X : Cx} {pins : List (Addr × Obj)} {σ : St} {H : Hp} {s : Shared} {A : Around} {E : Value → Shared → Prop} {Q : Value → Shared → Prop} {c : Value} {b : Bool}
/-- the type of a value, as the fragment's deciders take it; for an instance its class -/
inductive TyOf (K : PySem.W.Frag) (H : Hp) : V → Value → Prop where
  | non : TyOf K H .non (.type "NoneType")
  | bl (x : Bool) : TyOf K H (.bl x) (.type "bool")
  | int (i : Int) : TyOf K H (.int i) (.type "int")
  | str (x : Str) : TyOf K H (.str x) (.type "str")
  | flt (x : UInt64) : TyOf K H (.flt x) (.type "float")
  | lst {a : Addr} {xs : List V} (e : H a = some (.lst xs)) : TyOf K H (.ref a) (.type "list")
  | frz {a : Addr} {o : Obj} {xs : List V} (e : H a = some (.frz o (.lst xs))) : TyOf K H (.ref a) (.type "list")
  | tup {a : Addr} {xs : List V} (e : H a = some (.tup xs)) : TyOf K H (.ref a) (.type "tuple")
  | dK {a : Addr} {kvs : List (Key × V)} (e : H a = some (.dK kvs)) : TyOf K H (.ref a) (.type "dict")
  | dT {a : Addr} {kvs : List (List Key × V)} (e : H a = some (.dT kvs)) : TyOf K H (.ref a) (.type "dict")
  | ins {a C dx : Addr} {fs : List (Str × V)} (e : H a = some (.ins C dx fs)) (cl : Cls K C) (ha : PySem.W.findIn K (.ref C) "__class__" = some (some (.builtin "object.__class__")))
      (hn : PySem.W.specialIn K (.builtin "object.__class__") "__get__" = some (some (.builtin "getset_descriptor.__get__"))) (htk : PySem.W.takesIn K (.builtin "object.__class__") = some true)
      (hm : PySem.W.mroIn K C (.type "object") = some true) : TyOf K H (.ref a) (.ref C)
/-- isinstance(x, c) for one class c, a built-in or an own one: kitOne's answer -/
theorem isinst_ok {x : V} {u t : Value} (I : Inv X pins σ H s) (rx : RelV x u) (ty : TyOf X.K H x t) (e : PySem.W.kitOne X.K t c = some b) (h : ∀ tk, Q (.bool b) { s with toks := tk }) :
    wpAny (model X.prog X.w) A (call (.builtin "isinstance") [u, c]) Q E s := by
  cases ty with
  | non => cases (show u = Value.none from rx); exact PySem.W.kia_one PySem.W.kitx_none I.kIn True.intro e (fun z => nomatch z) h
  | bl y => cases (show u = Value.bool y from rx); exact PySem.W.kia_one PySem.W.kitx_bool I.kIn True.intro e (fun z => nomatch z) h
  | int i => obtain ⟨t, q⟩ := (show ∃ t, u = Value.int i t from rx); cases q; exact PySem.W.kia_one PySem.W.kitx_int I.kIn True.intro e (fun z => nomatch z) h
  | str y => obtain ⟨t, q⟩ := (show ∃ t, u = Value.str y t from rx); cases q; exact PySem.W.kia_one PySem.W.kitx_str I.kIn True.intro e (fun z => nomatch z) h
  | flt y => obtain ⟨t, q⟩ := (show ∃ t, u = Value.float y t from rx); cases q; exact PySem.W.kia_one PySem.W.kitx_float I.kIn True.intro e (fun z => nomatch z) h
  | @lst a xs ea =>
    cases (show u = Value.ref a from rx)
    obtain ⟨_, _, n, _, h1⟩ := (show ObjOk X.prog X.w H s.heap a (.lst xs) from I.hok a _ ea)
    exact PySem.W.kia_one PySem.W.kitx_list I.kIn ⟨_, h1, rfl⟩ e (fun z => nomatch z) h
  | @frz a ob xs ea =>
    cases (show u = Value.ref a from rx)
    obtain ⟨_, _, _, n, _, h1⟩ := (show ObjOk X.prog X.w H s.heap a (.frz ob (.lst xs)) from I.hok a _ ea)
    exact PySem.W.kia_one PySem.W.kitx_list I.kIn ⟨_, h1, rfl⟩ e (fun z => nomatch z) h
  | @tup a xs ea =>
    cases (show u = Value.ref a from rx)
    obtain ⟨_, _, _, p⟩ := (show ObjOk X.prog X.w H s.heap a (.tup xs) from I.hok a _ ea)
    obtain ⟨o, h1, h2, _⟩ := p
    exact PySem.W.kia_one PySem.W.kitx_tuple I.kIn ⟨o, h1, h2⟩ e (fun z => nomatch z) h
  | @dK a kvs ea =>
    cases (show u = Value.ref a from rx)
    obtain ⟨_, _, vs, _, p⟩ := (show ObjOk X.prog X.w H s.heap a (.dK kvs) from I.hok a _ ea)
    obtain ⟨o, es, ep, h1, h2, _⟩ := p
    exact PySem.W.kia_one PySem.W.kitx_dict I.kIn ⟨o, h1, h2.1⟩ e (fun z => nomatch z) h
  | @dT a kvs ea =>
    cases (show u = Value.ref a from rx)
    obtain ⟨_, _, xs, _, o, es, ep, h1, h2, _⟩ := (show ObjOk X.prog X.w H s.heap a (.dT kvs) from I.hok a _ ea)
    exact PySem.W.kia_one PySem.W.kitx_dict I.kIn ⟨o, h1, h2.1⟩ e (fun z => nomatch z) h
  | @ins a C dx fs ea cl ha hn htk hm =>
    cases (show u = Value.ref a from rx)
    obtain ⟨mA, O, _⟩ := ins_get I.hok ea
    obtain ⟨od, J, _⟩ := O.look
    exact PySem.W.kia_one (PySem.W.kitx_own (cl.get _) cl.hd ha hn htk hm) I.kIn J e (fun z => nomatch z) h
end
end L2

namespace L2
open PySem PySem.Spec PyProof.Rows

/-! ### room -/
structure Room (k : Nat) (A : Around) : Prop where
  hd : A.handled = none
  dp : A.depth + 3 * k + 5 < recursionLimit
  un : A.units + 16 * k + 200 < cLine
theorem Room.mono {j k : Nat} {A : Around} (r : Room k A) (h : j ≤ k) : Room j A := ⟨r.hd, by have := r.dp; omega, by have := r.un; omega⟩
theorem Room.deeper {k : Nat} {A : Around} (r : Room (k + 1) A) (env : Env) : Room k (A.deeper env) :=
  ⟨r.hd, by have := r.dp; show A.depth + 1 + 3 * k + 5 < _; omega, by have := r.un; show A.units + 3 + 16 * k + 200 < _; omega⟩
theorem Room.depth {k : Nat} {A : Around} (r : Room k A) : A.depth < recursionLimit := by have := r.dp; omega
theorem Room.units {k : Nat} {A : Around} (r : Room k A) : A.units + 64 < cLine := by have := r.un; omega
/-! ### argument lists and displays -/
def tNil : TA := fun _ H Q => Q [] H
def tCons (ta : TE) (tr : TA) : TA := fun σ H Q => ta σ H fun x H1 => tr σ H1 fun xs H2 => Q (x :: xs) H2
section
variable {X : Cx} {e : Expr} {es : List Expr} {te : TE} {t : TA} {pos : Pos}
theorem pa_nil : PA X [] tNil := fun _ _ _ _ H Q I h => Calls.spliced_nil ⟨[], H, I, .nil, h⟩
theorem pa_cons (ha : PE X e te) (hr : PA X es t) (hs : starEach (e :: es) X.env = (false, eval e X.env) :: starEach es X.env := by rfl) : PA X (e :: es) (tCons te t) := by
  intro pos pins s σ H Q I h
  rw [hs]
  show wpAny _ _ (spliced ((false, eval e X.env) :: backTo pos (starEach es X.env))) _ _ s
  refine Calls.spliced_cons (thn (ha pins s σ H _ I h) fun u s1 ⟨x, H1, I1, r1, q1⟩ => ?_)
  exact thn (hr pos pins s1 σ H1 _ I1 q1) fun us s2 ⟨xs, H2, I2, r2, q2⟩ => ⟨x :: xs, H2, I2, .cons r1 r2, q2⟩

/-- a tuple, a list of written items -/
def tTup (t : TA) : TE := fun σ H Q => t σ H fun xs H1 => xs.length ≤ sizeLine ∧ ∀ p, H1 p = none → Q (.ref p) (upd H1 p (.tup xs))
def tLst (t : TA) : TE := fun σ H Q => t σ H fun xs H1 => xs.length ≤ sizeLine ∧ ∀ p, H1 p = none → Q (.ref p) (upd H1 p (.lst xs))
theorem pe_tup {x1} (h : PA X es t) : PE X (.Tuple es x1 pos) (tTup t) := by
  intro pins s σ H Q I hq
  refine wpAny_Tuple_spliced (thn (h pos pins s σ H _ I hq) fun us s1 ⟨xs, H1, I1, r, z, q⟩ => ⟨by rw [← r.length]; exact z, ?_⟩)
  have hf : H1 s1.heap.objs.size = none := I1.hok.fresh (Nat.le_refl _)
  refine ⟨.ref s1.heap.objs.size, upd H1 s1.heap.objs.size (.tup xs), I1.laid (t' := s1.toks) (fun b u e => Heap.get?_push_of_some _ e) (Nat.le_refl _) ?_, rfl, q _ hf⟩
  exact ⟨z, us, r, ⟨_, Heap.get?_push_size _ rfl, rfl, _, rfl⟩⟩
theorem pe_lst (h : PA X es t) : PE X (.List es pos) (tLst t) := by
  intro pins s σ H Q I hq
  refine wpAny_List_spliced (thn (h pos pins s σ H _ I hq) fun us s1 ⟨xs, H1, I1, r, z, q⟩ => ⟨by rw [← r.length]; exact z, ?_⟩)
  have hf : H1 s1.heap.objs.size = none := I1.hok.fresh (Nat.le_refl _)
  refine ⟨.ref s1.heap.objs.size, upd H1 s1.heap.objs.size (.lst xs), I1.laid (t' := s1.toks) (fun b u e => Heap.get?_push_of_some _ e) (Nat.le_refl _) ?_, rfl, q _ hf⟩
  exact ⟨z, us, 0, r, Heap.get?_push_size _ rfl⟩
end

/-! ### what a def promises -/
/-- a def's promise: the bound arguments in the parameters' order, the heap, the wanted end, the wanted exception -/
abbrev Sp := List V → Hp → VK → XK → Prop
/-- how an exception lies behind a call (file 08 gives it): the callers' frames, abstract heap and state ahead of the call, the wish, the exception, the state -/
abbrev CXT := List Env → Hp → Shared → XK → Value → Shared → Prop

/-- the state at a call -/
structure Env0 (P : Program) (w : World) (K : PySem.W.Frag) (mg : Str → Option Value) (base : Heap) (A : Around) (outer : List Env) (s : Shared) (H : Hp) : Prop where
  frames : A.frames = some outer
  mod : Mod K mg base
  bs : ∀ b o, base.get? b = some o → s.heap.get? b = some o ∧ H b = none
  bsz : base.objs.size ≤ s.heap.objs.size
  funs : s.heap.FunFrames base outer
  frf : ∀ b ∈ frs outer, H b = none
  hok : HOk P w H s.heap
  bare : AllBare s.gens
/-- a call's end -/
def CE (outer : List Env) (P : Program) (w : World) (H : Hp) (s : Shared) (Q : VK) (u : Value) (s' : Shared) : Prop :=
  ∃ v H', s'.os = s.os ∧ AllBare s'.gens ∧ Un (frs outer) [] H H' s.heap s'.heap ∧ HOk P w H' s'.heap ∧ RelV v u ∧ Q v H'
def CR (CX : CXT) (outer : List Env) (P : Program) (w : World) (H : Hp) (s : Shared) (Q : VK) (E : XK) (r : Result) (s' : Shared) : Prop :=
  match r with
  | .ok (.ret u) => CE outer P w H s Q u s'
  | .ok _ => False
  | .error e => CX outer H s E e s'
structure FnOk (P : Program) (w : World) (K : PySem.W.Frag) (mg : Str → Option Value) (base : Heap) (CX : CXT) (k : Nat) (f : Addr) (fd : FuncData) (ps : List Str) (sp : Sp) : Prop where
  len : ∀ vs H Q E, sp vs H Q E → vs.length = ps.length
  run : ∀ (A : Around) (outer : List Env) (s : Shared) (H : Hp) (args : Args) (us : List Value) (vs : List V) (Q : VK) (E : XK), Room k A → Env0 P w K mg base A outer s H → BindsTo s fd args (ps.zip us) → Vals vs us → sp vs H Q E →
    codeAny (model P w) A (.call (.ref f) args) (CR CX outer P w H s Q E) s
theorem FnOk.mono {P : Program} {w : World} {K : PySem.W.Frag} {mg : Str → Option Value} {base : Heap} {CX : CXT} {j k : Nat} {f : Addr} {fd : FuncData} {ps : List Str} {sp : Sp} (F : FnOk P w K mg base CX j f fd ps sp) (h : j ≤ k) :
    FnOk P w K mg base CX k f fd ps sp := ⟨F.len, fun A outer s H args us vs Q E hr => F.run A outer s H args us vs Q E (hr.mono h)⟩
/-- a weaker promise -/
theorem FnOk.imp {P : Program} {w : World} {K : PySem.W.Frag} {mg : Str → Option Value} {base : Heap} {CX : CXT} {k : Nat} {f : Addr} {fd : FuncData} {ps : List Str} {sp sp' : Sp} (F : FnOk P w K mg base CX k f fd ps sp)
    (h : ∀ vs H Q E, sp' vs H Q E → sp vs H Q E) : FnOk P w K mg base CX k f fd ps sp' :=
  ⟨fun vs H Q E q => F.len vs H Q E (h _ _ _ _ q), fun A outer s H args us vs Q E hr he hb hv hs => F.run A outer s H args us vs Q E hr he hb hv (h _ _ _ _ hs)⟩

section
variable {X : Cx} {pins : List (Addr × Obj)} {σ : St} {H : Hp} {s s' : Shared}
/-- from a body: what a callee wants -/
theorem Inv.env0 (I : Inv X pins σ H s) : Env0 X.prog X.w X.K X.mg X.base X.A X.stack s H :=
  ⟨I.ok.frames, I.ok.mod, I.bs, Nat.le_trans I.ok.bsz I.sz, I.stack, I.stkFree, I.hok, I.bare⟩
/-- behind a call -/
theorem Inv.after {Q : VK} {u : Value} (I : Inv X pins σ H s) (h : CE X.stack X.prog X.w H s Q u s') : EP X pins σ Q u s' := by
  obtain ⟨v, H', os, bare, un, hok, r, q⟩ := h
  obtain ⟨hh, g, d, t, os'⟩ := s'
  obtain rfl : os' = s.os := os
  exact ⟨v, H', I.call (h' := hh) (g' := g) (d' := d) (t' := t) (ch := []) un hok bare (fun b z => absurd z (by simp)), r, q⟩
end

/-! ### calls -/
/-- f(..): the written arguments, then the defaults dvs; E: what is wanted of an exception -/
def tCall (sp : Sp) (dvs : List V) (E : XK) (t : TA) : TE := fun σ H Q => t σ H fun vs H1 => sp (vs ++ dvs) H1 Q E
/-- how the parameters are bound: us the positional arguments, kw the keywords' values by name, ds the defaults that fill up -/
def Binds (K : PySem.W.Frag) (fd : FuncData) (ps : List Str) (ds : List Value) : Prop :=
  ∀ (s : Shared) (us : List Value), K.In s.heap → (us ++ ds).length = ps.length → BindsTo s fd ⟨us, []⟩ (ps.zip (us ++ ds))
/-- every parameter is given -/
theorem Binds.all {K : PySem.W.Frag} {fd : FuncData} {ps : List Str} (h : ∀ us : List Value, us.length = ps.length → bindArgs fd ⟨us, []⟩ = pure (ps.zip us)) : Binds K fd ps [] := fun s us _ hl => by
  rw [List.append_nil] at hl ⊢
  exact .of_eq (h us hl)

/-- an exception of a callee reaches what this body wants of exceptions -/
def Passes (CX : CXT) (X : Cx) (E : XK) : Prop := ∀ (pins : List (Addr × Obj)) (σ : St) (H : Hp) (s : Shared) (e : Value) (s' : Shared), Inv X pins σ H s → CX X.stack H s E e s' → X.xe e s'

section
variable {X : Cx} {CX : CXT} {k : Nat} {f C : Addr} {fd : FuncData} {ps : List Str} {sp : Sp} {dvs : List V} {ds : List Value} {E : XK} {x m : Str} {p pos apos : Pos} {e o : Expr} {es : List Expr} {ta : TE} {t : TA}

/-- the callee runs -/
theorem run_fn {pins : List (Addr × Obj)} {σ : St} {H : Hp} {s : Shared} {Q : VK} {us : List Value} {vs : List V} (F : FnOk X.prog X.w X.K X.mg X.base CX k f fd ps sp) (hr : Room k X.A) (hb : Binds X.K fd ps ds) (hd : Vals dvs ds) (hx : Passes CX X E)
    (I : Inv X pins σ H s) (r : Vals vs us) (h : sp (vs ++ dvs) H Q E) : wpAny (model X.prog X.w) X.A (call (.ref f) us) (EP X pins σ Q) X.xe s := by
  have r2 : Vals (vs ++ dvs) (us ++ ds) := r.append hd
  have hl : (us ++ ds).length = ps.length := by rw [← r2.length]; exact F.len _ _ _ _ h
  refine wpAny_call (codeAny_mono (F.run X.A X.stack s H ⟨us, []⟩ (us ++ ds) (vs ++ dvs) Q E hr I.env0 (hb s us I.kIn hl) r2 h) fun r s' hq => ?_)
  cases r with
  | error e => exact hx pins σ H s e s' I hq
  | ok fl =>
    cases fl with
    | ret u => exact I.after hq
    | next => exact False.elim hq
    | brk => exact False.elim hq
    | cont => exact False.elim hq

theorem pe_call (F : FnOk X.prog X.w X.K X.mg X.base CX k f fd ps sp) (hr : Room k X.A) (hg : Gl X x) (hm : X.mg x = some (.ref f)) (hk : PySem.W.keepIn X.K (.ref f) = true) (hb : Binds X.K fd ps ds) (hd : Vals dvs ds) (hx : Passes CX X E)
    (ha : PA X (e :: es) t) (hdb : (x == ("__debug__" : Str)) = false := by decide) (he : starEach (e :: es) X.env = (false, eval e X.env) :: starEach es X.env := by rfl) (hpl : (backTo pos (starEach es X.env)).any (·.1) = false := by rfl) :
    PE X (.Call (.Name x p) (e :: es) [] pos) (tCall sp dvs E t) := by
  intro pins s σ H Q I h
  refine wpAny_Call_Name_kw (ld_glob I hg hm ?_ hdb)
  refine PySem.W.callWith_K (h₀ := X.base) I.ok.mod.kin hk (thn (ha pos pins s σ H _ I h) fun us s1 ⟨vs, H1, I1, r, q⟩ => ⟨I1.kIn, ?_⟩) he hpl
  exact run_fn F hr hb hd hx I1 r q
/-- what a class must have to be made -/
structure Mk (K : PySem.W.Frag) (C f : Addr) : Prop where
  makes : PySem.W.makesIn K C = true
  init : PySem.W.findIn K (.ref C) "__init__" = some (some (.ref f))
  fn : PySem.W.isFn K (.ref f) = true
  kp : PySem.W.keepIn K (.ref C) = true

end

/-! ### keywords -/
section
variable {X : Cx} {CX : CXT} {k : Nat} {f C : Addr} {fd : FuncData} {ps ks : List Str} {sp : Sp} {E : XK} {x m : Str} {p pos apos kpos : Pos} {e o : Expr} {es : List Expr} {kws : List Keyword} {te ta : TE} {t tk : TA} {nm : Option Str}
/-- how a call with keywords binds: g puts the positional values us and the keywords' values ws (names ks) in the parameters' order, defaults among them -/
structure KBinds (K : PySem.W.Frag) (fd : FuncData) (ps ks : List Str) (g : List Value → List Value → List Value) (gV : List V → List V → List V) : Prop where
  to : ∀ (s : Shared) (us ws : List Value), K.In s.heap → (g us ws).length = ps.length → BindsTo s fd ⟨us, ks.zip ws⟩ (ps.zip (g us ws))
  rel : ∀ {vs : List V} {us : List Value} {zs : List V} {ws : List Value}, Vals vs us → Vals zs ws → Vals (gV vs zs) (g us ws)
variable {g : List Value → List Value → List Value} {gV : List V → List V → List V}
end

/-! ### a def's body keeps its promise -/
/-- names: the parameters first -/
structure FnScope (N P : List Str) (sc : Scope) : Prop where
  kind : sc.kind = .function
  co : sc.isCoroutine = false
  gen : sc.isGenerator = false
  nd : N.Nodup
  pre : N.take P.length = P
  par : ∀ x ∈ P, sc.names.lookup x = some .local ∨ sc.names.lookup x = some .cell
  nofree : ∀ y ∈ sc.names, y.2 ≠ .free

theorem bindL_out {kindOf : Str → Option NameKind} {x : Str} : ∀ {binds : List (Str × Value)} {m : Str → Option Value}, (∀ v, (x, v) ∉ binds) → bindL kindOf binds m x = m x
  | [], _, _ => rfl
  | (n, v) :: r, m, h => by
    unfold bindL
    rw [bindL_out fun w hw => h w (List.mem_cons_of_mem _ hw)]
    split
    · have : x ≠ n := by rintro rfl; exact h v List.mem_cons_self
      simp [this]
    · rfl
theorem bindC_out {kindOf : Str → Option NameKind} {x : Str} : ∀ {binds : List (Str × Value)} {m : Str → Option Value}, (∀ v, (x, v) ∉ binds) → bindC kindOf binds m x = m x
  | [], _, _ => rfl
  | (n, v) :: r, m, h => by
    unfold bindC
    rw [bindC_out fun w hw => h w (List.mem_cons_of_mem _ hw)]
    split
    · rfl
    · have : x ≠ n := by rintro rfl; exact h v List.mem_cons_self
      simp [this]
theorem bindL_get {kindOf : Str → Option NameKind} {x : Str} {v : Value} : ∀ {P : List Str} {vs : List Value} {i : Nat} {m : Str → Option Value}, P.Nodup → P[i]? = some x → vs[i]? = some v → kindOf x = some .local →
    bindL kindOf (P.zip vs) m x = some v
  | [], _, _, _, _, h, _, _ => by simp at h
  | _ :: _, [], _, _, _, _, h, _ => by simp at h
  | p :: P, w :: vs, 0, m, nd, h1, h2, hk => by
    simp at h1 h2; subst h1; subst h2
    show bindL kindOf ((p, w) :: P.zip vs) m p = _
    unfold bindL
    rw [bindL_out fun v hv => (List.nodup_cons.mp nd).1 (List.of_mem_zip hv).1, if_pos hk]
    simp
  | p :: P, w :: vs, i + 1, m, nd, h1, h2, hk => by
    show bindL kindOf ((p, w) :: P.zip vs) m x = _
    unfold bindL
    exact bindL_get (i := i) (List.nodup_cons.mp nd).2 (by simpa using h1) (by simpa using h2) hk
theorem bindC_get {kindOf : Str → Option NameKind} {x : Str} {v : Value} : ∀ {P : List Str} {vs : List Value} {i : Nat} {m : Str → Option Value}, P.Nodup → P[i]? = some x → vs[i]? = some v → kindOf x ≠ some .local →
    bindC kindOf (P.zip vs) m x = some v
  | [], _, _, _, _, h, _, _ => by simp at h
  | _ :: _, [], _, _, _, _, h, _ => by simp at h
  | p :: P, w :: vs, 0, m, nd, h1, h2, hk => by
    simp at h1 h2; subst h1; subst h2
    show bindC kindOf ((p, w) :: P.zip vs) m p = _
    unfold bindC
    rw [bindC_out fun v hv => (List.nodup_cons.mp nd).1 (List.of_mem_zip hv).1, if_neg hk]
    simp
  | p :: P, w :: vs, i + 1, m, nd, h1, h2, hk => by
    show bindC kindOf ((p, w) :: P.zip vs) m x = _
    unfold bindC
    exact bindC_get (i := i) (List.nodup_cons.mp nd).2 (by simpa using h1) (by simpa using h2) hk

/-- the names' values at the entry -/
def start (N : List Str) (vs : List V) : St := vs.map some ++ List.replicate (N.length - vs.length) none

/-- the context of a def's body, at its entry; an exception leaves the frame, then lies as CX says -/
def cxOf (CX : CXT) (P : Program) (w : World) (K : PySem.W.Frag) (mg : Str → Option Value) (base : Heap) (N : List Str) (qual : Str) (scope : Scope) (f : Addr) (cd : Value) (A : Around) (outer : List Env) (s : Shared) (H : Hp) (E : XK) : Cx where
  prog := P
  w := w
  K := K
  mg := mg
  base := base
  A := A.deeper (envOfC qual scope s.heap.objs.size f cd)
  N := N
  s₀ := s
  H₀ := H
  env := envOfC qual scope s.heap.objs.size f cd
  outer := outer
  stack := envOfC qual scope s.heap.objs.size f cd :: outer
  ex := []
  calm := true
  fn := fun _ => true
  pn := []
  xe := fun e s' => wpAny (model P w) (A.deeper (envOfC qual scope s.heap.objs.size f cd)) (leaving (envOfC qual scope s.heap.objs.size f cd) e) (fun _ s'' => CX outer H s E e s'') (fun e' s'' => CX outer H s E e' s'') s'

theorem cell_has {sc : Scope} {n : Nat} {x : Str} (h : sc.names.lookup x = some .cell) : ∃ c, (cellsFrom n sc.names []).lookup x = some c := by
  have q := PySem.W.cellsFrom_some sc.names n [] (.inl h)
  exact Option.isSome_iff_exists.mp q

theorem inv_start {CX : CXT} {P : Program} {w : World} {K : PySem.W.Frag} {mg : Str → Option Value} {base : Heap} {N ps : List Str} {qual : Str} {scope : Scope} {f : Addr} {cd : Value} {A : Around} {outer : List Env} {s s1 : Shared} {H : Hp} {E : XK} {us : List Value} {vs : List V}
    (S : FnScope N ps scope) (hd : A.handled = none) (e0 : Env0 P w K mg base A outer s H) (hl : vs.length = ps.length) (r : Vals vs us)
    (x : InCallC s s.heap.objs.size (bindL (envOfC qual scope s.heap.objs.size f cd).kindOf (ps.zip us) fun _ => none) (cellsFrom (s.heap.objs.size + 1) scope.names []) (bindC (envOfC qual scope s.heap.objs.size f cd).kindOf (ps.zip us) fun _ => none) s1) :
    Inv (cxOf CX P w K mg base N qual scope f cd A outer s H E) [] (start N vs) H s1 := by
  have hpl : ps.length ≤ N.length := by have := congrArg List.length S.pre; rw [List.length_take] at this; omega
  obtain ⟨h1, tk, rfl, hk⟩ := x.done
  have noA : ∀ b : Addr, b ∉ (cxOf CX P w K mg base N qual scope f cd A outer s H E).ex := fun b z => absurd (show b ∈ ([] : List Addr) from z) (by simp)
  refine ⟨⟨e0.mod, S.kind, rfl, rfl, Nat.le_refl _, fun y z c h1 h2 => ?_, fun y hy => ?_, fun y c _ h => ?_, fun _ => hd, Around.frames_deeper e0.frames, .inr ⟨rfl, rfl⟩, fun b z => absurd z (noA b), e0.bs, e0.bsz, fun b _ _ => noA b, fun b z => absurd z (noA b), e0.funs, e0.frf⟩,
    rfl, e0.bare, Un.kept hk, ⟨_, x.toInCall.ns, fun i y v h1 h2 h3 => ?_⟩, fun y c h => ⟨_, x.cell y c h⟩, e0.hok.fresh (Nat.le_refl _), fun y c h => ?_, fun p hp => absurd (show p ∈ ([] : List (Addr × Obj)) from hp) (by simp), e0.hok.kept hk, ?_⟩
  · exact name_of_addr x.apart (PySem.mem_of_lookup h1) (PySem.mem_of_lookup h2)
  · have hy : scope.names.lookup y = some .cell ∨ scope.names.lookup y = some .free := hy
    rcases hy with hy | hy
    · exact cell_has hy
    · exact absurd rfl (S.nofree _ (PySem.mem_of_lookup hy))
  · exact Nat.le_of_lt (x.above y c (PySem.mem_of_lookup h))
  · have hi : i < vs.length := by
      unfold start at h2
      by_cases hi : i < vs.length
      · exact hi
      · rw [List.getElem?_append_right (by simpa using hi)] at h2
        rw [List.getElem?_replicate] at h2
        split at h2 <;> cases h2
    have ha : vs[i]? = some v := by
      unfold start at h2
      rw [List.getElem?_append_left (by simpa using hi), List.getElem?_map] at h2
      cases e : vs[i]? with
      | none => rw [e] at h2; cases h2
      | some a => rw [e] at h2; cases h2; rfl
    obtain ⟨u, hu, rv⟩ := r.get ha
    have hp : ps[i]? = some y := by
      rw [← S.pre, List.getElem?_take_of_lt (by omega)]; exact h1
    have ndP : ps.Nodup := by rw [← S.pre]; exact S.nd.sublist (List.take_sublist _ _)
    refine ⟨u, rv, ?_⟩
    rcases S.par y (List.mem_of_getElem? hp) with k | k
    · exact .inl ⟨k, bindL_get ndP hp hu k⟩
    · obtain ⟨c, e⟩ := cell_has (n := s.heap.objs.size + 1) k
      refine .inr ⟨.inl k, c, e, ?_⟩
      have q := x.cell y c e
      rw [bindC_get ndP hp hu (by show scope.names.lookup y ≠ _; rw [k]; decide)] at q
      exact q
  · exact e0.hok.fresh (Nat.le_of_lt (x.above y c (PySem.mem_of_lookup h)))
  · unfold start
    show _ = N.length
    rw [List.length_append, List.length_map, List.length_replicate]
    omega

/-- THE RULE: a def (or a method) of the text, by its body. The body's reading t is chosen for each entry; it is run at the parameters' values -/
theorem fn_of {CX : CXT} {P : Program} {w : World} {K : PySem.W.Frag} {mg : Str → Option Value} {base : Heap} {k : Nat} {f : Addr} {name qual : Str} {params : Arguments} {body : List Stmt} {scope : Scope} {dV kV doc pm cdv ct oc : Value} {an od : Option Addr}
    {osl : Array (Option Value)} {N ps : List Str} {sp : Sp} (lk : K.lookup f = some ⟨oc, od, .func (PySem.W.fnOf name qual params body scope dV kV doc pm an cdv ct), osl⟩) (hcd : PySem.W.codeIn K cdv qual = true) (S : FnScope N ps scope)
    (len : ∀ vs H Q E, sp vs H Q E → vs.length = ps.length)
    (hbody : ∀ (A : Around) (outer : List Env) (s : Shared) (H : Hp) (vs : List V) (Q : VK) (E : XK), Room k (A.deeper (envOfC qual scope s.heap.objs.size f cdv)) → sp vs H Q E →
      ∃ t, PSs (cxOf CX P w K mg base N qual scope f cdv A outer s H E) body t ∧ t { nx := fun _ H' => Q .non H', rt := Q } (start N vs) H) :
    FnOk P w K mg base CX (k + 1) f (PySem.W.fnOf name qual params body scope dV kV doc pm an cdv ct) ps sp := by
  refine ⟨len, fun A outer s H args us vs Q E hr e0 hb r hsp => ?_⟩
  have hl := len _ _ _ _ hsp
  have KX : K.In s.heap := e0.mod.kin.keeps fun b o e => (e0.bs b o e).1
  have lim : s.heap.NoLimit := e0.mod.nolimit.keeps fun b o e => (e0.bs b o e).1
  have hkind : ∀ y ∈ ps.zip us, scope.names.lookup y.1 = some .local ∨ (scope.names.lookup y.1 = some .cell ∧ ((cellsFrom (s.heap.objs.size + 1) scope.names []).lookup y.1).isSome = true) := fun ⟨n, v⟩ hy => by
    rcases S.par n (List.of_mem_zip hy).1 with q | q
    · exact .inl q
    · exact .inr ⟨q, PySem.W.cellsFrom_some _ _ _ (.inl q)⟩
  refine codeAny_call_function hr.depth (KX _ _ lk) rfl S.co S.gen rfl (PySem.W.codeRec_of KX hcd) (hb _ _ _ _ ?_)
  refine wpAny_newFunctionEnv_cells S.kind hkind fun env he s1 x => ?_
  subst he
  refine ⟨lim.keeps x.toInCall.keep, codeAny_func ?_⟩
  obtain ⟨t, ht, hq⟩ := hbody A outer s H vs Q E (hr.deeper _) hsp
  have I : Inv (cxOf CX P w K mg base N qual scope f cdv A outer s H E) [] (start N vs) H s1 := inv_start S hr.hd e0 hl r x
  refine wpAny_mono (ht [] s1 (start N vs) H _ I hq) (fun fl s' hs => ?_) fun e s' hs => hs
  have fin : ∀ {σ' : St} {H' : Hp} {v : V} {u : Value}, Inv (cxOf CX P w K mg base N qual scope f cdv A outer s H E) [] σ' H' s' → RelV v u → Q v H' → CE outer P w H s Q u s' :=
    fun {σ' H' v u} J rv q => ⟨v, H', J.os, J.bare, J.base, J.hok, rv, q⟩
  cases fl with
  | ret u =>
    obtain ⟨v, σ', H', J, rv, q⟩ := hs
    exact fin J rv q
  | next =>
    obtain ⟨σ', H', J, q⟩ := hs
    exact fin (v := V.non) (u := Value.none) J rfl q
  | brk =>
    obtain ⟨_, _, _, q⟩ := hs
    exact False.elim q
  | cont =>
    obtain ⟨_, _, _, q⟩ := hs
    exact False.elim q
end L2

namespace L2
open PySem PySem.Spec PyProof.Rows
section
variable {X : Cx} {x : Str} {p pos : Pos} {e : Expr} {es : List Expr} {t : TA} {id T : String} {r : List V → Hp → VK → Prop}

def tCB (r : List V → Hp → VK → Prop) (t : TA) : TE := fun σ H Q => t σ H fun vs H1 => r vs H1 Q
/-- f(e, ..), f a built-in function -/
theorem pe_callB (hc : CallR X (.builtin id) r) (hg : Gl X x) (hm : X.mg x = none) (hv : bootBuiltins x = some (.builtin id)) (ha : PA X (e :: es) t) (hn : x ≠ "__name__" := by decide) (hdb : (x == ("__debug__" : Str)) = false := by decide)
    (he : starEach (e :: es) X.env = (false, eval e X.env) :: starEach es X.env := by rfl) (hpl : (backTo pos (starEach es X.env)).any (·.1) = false := by rfl) : PE X (.Call (.Name x p) (e :: es) [] pos) (tCB r t) := by
  intro pins s σ H Q I h
  refine wpAny_Call_Name_kw (ld_blt I hg hm hv ?_ hn hdb)
  exact PyProof.Rows.callWith_builtin1 (thn (ha pos pins s σ H _ I h) fun us s1 ⟨vs, H1, I1, r1, q1⟩ => hc pins s1 σ H1 vs us Q I1 r1 q1) he hpl
/-- T(e, ..), T a built-in type -/
theorem pe_callTy (hc : CallR X (.type T) r) (hg : Gl X x) (hm : X.mg x = none) (hv : bootBuiltins x = some (.type T)) (ha : PA X (e :: es) t) (hn : x ≠ "__name__" := by decide) (hdb : (x == ("__debug__" : Str)) = false := by decide)
    (he : starEach (e :: es) X.env = (false, eval e X.env) :: starEach es X.env := by rfl) (hpl : (backTo pos (starEach es X.env)).any (·.1) = false := by rfl) : PE X (.Call (.Name x p) (e :: es) [] pos) (tCB r t) := by
  intro pins s σ H Q I h
  refine wpAny_Call_Name_kw (ld_blt I hg hm hv ?_ hn hdb)
  exact PyProof.Rows.callWith_type1 (thn (ha pos pins s σ H _ I h) fun us s1 ⟨vs, H1, I1, r1, q1⟩ => hc pins s1 σ H1 vs us Q I1 r1 q1) he hpl
end
end L2

namespace HT
open PySem PyProof.Rows

section
open PySem.SeqAt
open PySem.AutoSeq1 (wpAny_loadPart')
open PySem.MeetsSeq PySem.MeetsSeq2 PySem.MeetsSeq3

end

section
variable {prog : Program} {w : World} {A : Around} {E : Value → Shared → Prop} {s : Shared}

/-! ### t[a:b], not the whole -/
/-- a slice's bound as a place among n (d where it is left out) -/
def sIx (n d : Nat) : Option Int → Nat
  | none => d
  | some v => if v < 0 then (v + (n : Int)).toNat else min v.toNat n
theorem sIx_none (n d : Nat) : sIx n d none = d := rfl
theorem sIx_le (n d : Nat) (hd : d ≤ n) (o : Option Int) : sIx n d o ≤ n := by
  cases o with
  | none => exact hd
  | some v =>
    show (if v < 0 then (v + (n : Int)).toNat else min v.toNat n) ≤ n
    by_cases hv : v < 0
    · rw [if_pos hv]; omega
    · rw [if_neg hv]; exact Nat.min_le_right _ _
theorem clip_eq (v : Int) (n d : Nat) : (if v < 0 then max (v + (n : Int)) 0 else min v (n : Int)) = ((sIx n d (some v) : Nat) : Int) := by
  show (if v < 0 then max (v + (n : Int)) 0 else min v (n : Int)) = (((if v < 0 then (v + (n : Int)).toNat else min v.toNat n) : Nat) : Int)
  by_cases hv : v < 0
  · simp only [if_pos hv]; omega
  · simp only [if_neg hv]; omega
theorem adjust_gen (lo hi : Option Int) (n : Nat) : Builtin.Slice.sliceAdjust lo hi 1 (n : Int) = (((sIx n 0 lo : Nat) : Int), ((sIx n n hi : Nat) : Int)) := by
  have h1 : ¬ ((1 : Int) < 0) := by omega
  unfold Builtin.Slice.sliceAdjust
  simp only [h1, if_false]
  refine Prod.ext ?_ ?_
  · cases lo with
    | none => rfl
    | some v => exact clip_eq v n 0
  · cases hi with
    | none => rfl
    | some v => exact clip_eq v n n
theorem places_gen (i j : Nat) : Builtin.Slice.slicePlaces (i : Int) (j : Int) 1 = j - i := by
  unfold Builtin.Slice.slicePlaces
  have h1 : (1 : Int) > 0 := by omega
  simp only [h1, if_true, Int.ediv_one]
  split <;> omega
theorem slicePart_ {v : Value} {o : Option Int} {Q : Option Int → Shared → Prop} (p : IsPart v o) (h : Q o s) : wpAny (model prog w) A (Builtin.Slice.slicePartIndex v) Q E s := by
  cases p with
  | none => exact slicePart_none h
  | int i t => exact slicePart_int h
theorem sliceApplied_gen {sl : Addr} {vl vu : Value} {lo hi : Option Int} {n : Nat} {Q : Int × Int × Nat → Shared → Prop} (hs : s.heap.IsSliceOf sl vl vu .none) (pl : IsPart vl lo) (pu : IsPart vu hi)
    (h : Q (((sIx n 0 lo : Nat) : Int), 1, sIx n n hi - sIx n 0 lo) s) : wpAny (model prog w) A (Builtin.Slice.sliceApplied (.ref sl) (pure (n : Int))) Q E s := by
  obtain ⟨os, hos, hcs, hds⟩ := id hs
  unfold Builtin.Slice.sliceApplied Builtin.Slice.sliceFields
  refine wpAny_bind (wpAny_bind (wpAny_field hos hds (x := vl) rfl (wpAny_bind (wpAny_field hos hds (x := vu) rfl (wpAny_bind (wpAny_field hos hds (x := .none) rfl (wpAny_pure ?_)))))))
  refine wpAny_bind (slicePart_none ?_)
  show wpAny _ _ (if ((1 : Int) == 0) = true then _ else _) _ _ s
  rw [if_neg (by decide)]
  refine wpAny_bind (slicePart_ pl (wpAny_bind (slicePart_ pu (wpAny_bind (wpAny_pure ?_)))))
  show wpAny _ _ (match Builtin.Slice.sliceAdjust lo hi 1 (n : Int) with | (lo, hi) => pure (lo, (1 : Int), Builtin.Slice.slicePlaces lo hi 1)) _ _ s
  rw [adjust_gen lo hi n]
  show wpAny _ _ (pure (((sIx n 0 lo : Nat) : Int), (1 : Int), Builtin.Slice.slicePlaces ((sIx n 0 lo : Nat) : Int) ((sIx n n hi : Nat) : Int) 1)) _ _ s
  rw [places_gen]
  exact wpAny_pure h
theorem pick_gen (xs : Array Value) (i k : Nat) : ((List.range k).filterMap fun (m : Nat) => xs[((i : Int) + (m : Int) * 1).toNat]?).toArray = ((xs.toList.drop i).take k).toArray := by
  have e : (fun (m : Nat) => xs[((i : Int) + (m : Int) * 1).toNat]?) = fun m => xs[i + m]? := by
    funext m
    have : ((i : Int) + (m : Int) * 1).toNat = i + m := by omega
    rw [this]
  rw [e]
  have := pick_run xs i k
  rw [List.filterMap_map] at this
  have e2 : ((fun x => xs[x]?) ∘ fun x => i + x) = fun m => xs[i + m]? := rfl
  rw [e2] at this
  rw [this]

theorem getItem_tuple_cut {t sl : Addr} {items : Array Value} {vl vu : Value} {lo hi : Option Int} {Q : Value → Shared → Prop} (ht : IsTup s.heap t items) (hs : s.heap.IsSliceOf sl vl vu .none) (pl : IsPart vl lo) (pu : IsPart vu hi)
    (hw : ¬ (sIx items.size 0 lo = 0 ∧ sIx items.size items.size hi = items.size))
    (h : Q (.ref s.heap.objs.size) { s with heap := s.heap.push { cls := .type "tuple", data := .seq ((items.toList.drop (sIx items.size 0 lo)).take (sIx items.size items.size hi - sIx items.size 0 lo)).toArray } })
    (hsz : items.size ≤ sizeLine) : wpAny (model prog w) A (getItem (.ref t) (.ref sl)) Q E s := by
  have htake : sizeOk (.seq ((items.toList.drop (sIx items.size 0 lo)).take (sIx items.size items.size hi - sIx items.size 0 lo)).toArray) := by
    show ((items.toList.drop (sIx items.size 0 lo)).take (sIx items.size items.size hi - sIx items.size 0 lo)).toArray.size ≤ sizeLine
    rw [List.size_toArray, List.length_take, List.length_drop, Array.length_toList]
    omega
  have hj : sIx items.size items.size hi ≤ items.size := sIx_le _ _ (Nat.le_refl _) hi
  obtain ⟨os, hos, hcs, hds⟩ := id hs
  have hTs : s.TypeIs (.ref sl) "slice" := ⟨os, hos, hcs⟩
  unfold getItem
  try with_reducible refine wpAny_holding ?_
  first | refine wpAny_bind (wpAny_pure ?_) | skip
  refine wpAny_bind (wpAny_sequenceKey ht.typeIs (by decide) ?_)
  refine wpAny_bind (wpAny_callSpecial?_slot (name := Str.ofString "__getitem__") ht.typeIs PyProof.Rows.slot_tuple_getitem
    (wpAny_call_entry PyProof.Rows.slot_tuple_getitem ht.typeIs entry_tuple_getitem ?_ (args_tuple_getitem _ _)))
  show wpAny _ _ (Builtin.Tuple.tupleItemsOf (.ref t) >>= _) _ _ s
  refine wpAny_bind (tupleItemsOf_ ht ?_)
  refine wpAny_bind (wpAny_typeOf hTs ?_)
  rw [if_pos (by decide)]
  refine wpAny_bind (sliceApplied_gen hs pl pu ?_)
  have hno : ¬ ((((sIx items.size 0 lo : Nat) : Int) == 0 && (1 : Int) == 1 && (sIx items.size items.size hi - sIx items.size 0 lo) == items.size) = true) := by
    intro q
    rw [Bool.and_eq_true, Bool.and_eq_true] at q
    have q1 : ((sIx items.size 0 lo : Nat) : Int) = 0 := eq_of_beq q.1.1
    have q2 : sIx items.size items.size hi - sIx items.size 0 lo = items.size := eq_of_beq q.2
    exact hw ⟨by omega, by omega⟩
  show wpAny _ _ (if (((sIx items.size 0 lo : Nat) : Int) == 0 && (1 : Int) == 1 && (sIx items.size items.size hi - sIx items.size 0 lo) == items.size) = true then _ else _) _ _ s
  rw [if_neg hno, pick_gen]
  first
    | exact wpAny_bind (m := Builtin.Tuple.tupleExact _) (wpAny_newObj_type (wpAny_pure ⟨_, rfl, wpAny_pure h⟩) htake)
    | exact wpAny_bind (m := Builtin.Tuple.tupleExact _) (wpAny_newObj_type (wpAny_bind (wpAny_pure (wpAny_pure ⟨_, rfl, wpAny_pure h⟩))) htake)
    | exact wpAny_bind (wpAny_bind (m := Builtin.Tuple.tupleExact _) (wpAny_newObj_type (wpAny_pure (wpAny_pure ⟨_, rfl, wpAny_pure h⟩)) htake))
    | exact wpAny_bind (wpAny_bind (m := Builtin.Tuple.tupleExact _) (wpAny_newObj_type (wpAny_pure ⟨_, rfl, wpAny_pure h⟩) htake))
end
end HT

namespace L2
open PySem PySem.Spec PyProof.Rows

/-! ### the parts of a slice -/
abbrev TO := St → Hp → (Option Int → Hp → Prop) → Prop
/-- a slice's part (left out, or an int) -/
def PO (X : Cx) (e : Option Expr) (t : TO) : Prop :=
  ∀ (pins : List (Addr × Obj)) (s : Shared) (σ : St) (H : Hp) (Q : Option Int → Hp → Prop), Inv X pins σ H s → t σ H Q →
    wpAny (model X.prog X.w) X.A (evalPart e X.env) (fun u s' => ∃ o H', Inv X pins σ H' s' ∧ IsPart u o ∧ Q o H') X.xe s
def tNoPart : TO := fun _ H Q => Q none H
def tPart (t : TE) : TO := fun σ H Q => t σ H fun x H1 => ∃ i, x = .int i ∧ Q (some i) H1

section
variable {X : Cx} {e : Expr} {te : TE} {lo hi : Option Expr} {tl th : TO} {pos p2 : Pos}

theorem po_none : PO X none tNoPart := by
  intro pins s σ H Q I h
  rw [evalPart_none]
  exact wpAny_pure ⟨none, H, I, .none, h⟩
theorem po_some (h : PE X e te) : PO X (some e) (tPart te) := by
  intro pins s σ H Q I hw
  rw [evalPart_some]
  refine thn (h pins s σ H _ I hw) fun u s1 ⟨x, H1, I1, r1, q1⟩ => ?_
  obtain ⟨i, rfl, q⟩ := q1
  obtain ⟨t, rfl⟩ := r1
  exact ⟨some i, H1, I1, .int i t, q⟩

/-- what a slice of a value is, by values: the slice object stands at sl -/
def SlR (X : Cx) (r : V → Option Int → Option Int → Hp → VK → Prop) : Prop :=
  ∀ (pins : List (Addr × Obj)) (s : Shared) (σ : St) (H : Hp) (x : V) (v vl vu : Value) (lo hi : Option Int) (sl : Addr) (Q : VK), Inv X pins σ H s → RelV x v → s.heap.IsSliceOf sl vl vu .none → IsPart vl lo → IsPart vu hi → r x lo hi H Q →
    ∃ T id, typeLookup (.type T) "__getitem__" = pure (some (.builtin id)) ∧ s.TypeIs v T ∧ wpAny (model X.prog X.w) X.A (getItem v (.ref sl)) (EP X pins σ Q) X.xe s
theorem SlR.or {r r' : V → Option Int → Option Int → Hp → VK → Prop} (h : SlR X r) (h' : SlR X r') : SlR X (fun x lo hi H Q => r x lo hi H Q ∨ r' x lo hi H Q) := by
  intro pins s σ H x v vl vu lo hi sl Q I rx hs pl pu q
  rcases q with q | q
  · exact h pins s σ H x v vl vu lo hi sl Q I rx hs pl pu q
  · exact h' pins s σ H x v vl vu lo hi sl Q I rx hs pl pu q
def tSl (r : V → Option Int → Option Int → Hp → VK → Prop) (te : TE) (tl th : TO) : TE := fun σ H Q => te σ H fun x H1 => tl σ H1 fun l H2 => th σ H2 fun u H3 => r x l u H3 Q
/-- a[lo:hi], any a -/
theorem pe_slice {r : V → Option Int → Option Int → Hp → VK → Prop} (hr : SlR X r) (he : PE X e te) (hl : PO X lo tl) (hu : PO X hi th) : PE X (.Subscript e (.Slice lo hi none p2) pos) (tSl r te tl th) := by
  intro pins s σ H Q I h
  refine Subscript_ (thn (he pins s σ H _ I h) fun v s1 ⟨x, H1, I1, r1, q1⟩ => ?_)
  refine wpAny_Slice (thn (hl pins s1 σ H1 _ I1 q1) fun vl s2 ⟨l, H2, I2, pl, q2⟩ => thn (hu pins s2 σ H2 _ I2 q2) fun vu s3 ⟨u, H3, I3, pu, q3⟩ => ?_)
  rw [evalPart_none]
  refine wpAny_pure ?_
  have I4 : Inv X pins σ H3 { s3 with heap := s3.heap.push { cls := .type "slice", data := .fields #[vl, vu, .none] } } := I3.kept (t' := s3.toks) fun b ob q => Heap.get?_push_of_some _ q
  obtain ⟨T, id, hT, ht, hg⟩ := hr pins { s3 with heap := s3.heap.push { cls := .type "slice", data := .fields #[vl, vu, .none] } } σ H3 x v vl vu l u s3.heap.objs.size Q I4 r1 (Heap.IsSliceOf.new ..) pl pu q3
  show wpAny (model X.prog X.w) X.A (subscriptTail e (.Slice lo hi none p2) v (.ref s3.heap.objs.size)) (EP X pins σ Q) X.xe { s3 with heap := s3.heap.push { cls := .type "slice", data := .fields #[vl, vu, .none] } }
  exact tail_any (ops := [.ref s3.heap.objs.size, v]) ht hT hg (by with_unfolding_all rfl)

/-- the items of xs[lo:hi] -/
def cutV (xs : List V) (lo hi : Option Int) : List V := (xs.drop (HT.sIx xs.length 0 lo)).take (HT.sIx xs.length xs.length hi - HT.sIx xs.length 0 lo)
theorem cutV_length (xs : List V) (lo hi : Option Int) : (cutV xs lo hi).length ≤ xs.length := by
  unfold cutV
  rw [List.length_take, List.length_drop]
  omega
/-- t[lo:hi], not the whole of it (the whole would be t itself) -/
def rSlT (K : PySem.W.Frag) : V → Option Int → Option Int → Hp → VK → Prop := fun x lo hi H Q => ∃ a xs, x = .ref a ∧ SqT K H a xs ∧
  ¬ (HT.sIx xs.length 0 lo = 0 ∧ HT.sIx xs.length xs.length hi = xs.length) ∧ ∀ p, H p = none → Q (.ref p) (upd H p (.tup (cutV xs lo hi)))
theorem sl_tup : SlR X (rSlT X.K) := by
  intro pins s σ H x v vl vu lo hi sl Q I rx hs pl pu h
  obtain ⟨a, xs, rfl, hx, hw, q⟩ := h
  cases rx
  obtain ⟨its, r, ht, hz⟩ := I.tuple hx
  have hlen : its.toArray.size = xs.length := by rw [List.size_toArray]; exact r.length.symm
  refine ⟨"tuple", _, PyProof.Rows.slot_tuple_getitem.lookup, ht.typeIs, ?_⟩
  refine HT.getItem_tuple_cut ht hs pl pu (by rw [hlen]; exact hw) ?_ (by rw [hlen]; exact hz)
  rw [hlen]
  refine ⟨.ref s.heap.objs.size, _, I.laid (t' := s.toks) (o := .tup (cutV xs lo hi)) (fun b ob q => Heap.get?_push_of_some _ q) (Nat.le_refl _) ?_, rfl, q _ (I.hok.fresh (Nat.le_refl _))⟩
  exact ⟨Nat.le_trans (cutV_length xs lo hi) hz, _, (r.drop (HT.sIx xs.length 0 lo)).take (HT.sIx xs.length xs.length hi - HT.sIx xs.length 0 lo), IsTup.new _ _⟩

/-! ### t < u, t + u -/
end
end L2

namespace L2
open PySem PySem.Spec PyProof.Rows

/-! ### places -/
/-- the place that an index of any sign means -/
def ixN (n : Nat) (i : Int) : Option Nat := if 0 ≤ i then (if i < n then some i.toNat else none) else if -(n : Int) ≤ i then some (i + n).toNat else none
def atI {α : Type} (xs : List α) (i : Int) : Option α := (ixN xs.length i).bind fun j => xs[j]?
theorem ixN_seq {n : Nat} {i : Int} {j : Nat} (h : ixN n i = some j) : seqIndex? i n = some j ∧ j < n ∧ -(n : Int) ≤ i ∧ i < n := by
  unfold ixN at h
  by_cases h0 : 0 ≤ i
  · rw [if_pos h0] at h
    by_cases h1 : i < n
    · rw [if_pos h1] at h
      have e : i.toNat = j := Option.some.inj h
      exact ⟨by rw [seqIndex_of h0 h1, e], by omega, by omega, h1⟩
    · rw [if_neg h1] at h; cases h
  · rw [if_neg h0] at h
    by_cases h1 : -(n : Int) ≤ i
    · rw [if_pos h1] at h
      have e : (i + n).toNat = j := Option.some.inj h
      exact ⟨by rw [seqIndex_neg (by omega) h1, e], by omega, h1, by omega⟩
    · rw [if_neg h1] at h; cases h
theorem atI_get {α : Type} {xs : List α} {i : Int} {v : α} (h : atI xs i = some v) : ∃ j, seqIndex? i xs.length = some j ∧ xs[j]? = some v ∧ j < xs.length ∧ -(xs.length : Int) ≤ i ∧ i < xs.length := by
  unfold atI at h
  cases e : ixN xs.length i with
  | none => rw [e] at h; cases h
  | some j =>
    rw [e] at h
    obtain ⟨h1, h2, h3, h4⟩ := ixN_seq e
    exact ⟨j, h1, h, h2, h3, h4⟩
/-! ### what may be subscripted -/
/-- what stands as an index of a plain subscript -/
def PlainIx (b : Expr) : Prop := ∀ o i, subscripted b false o i = operate [o, i] (getItem o i)
/-- a subscript by values -/
def IxR (X : Cx) (r : R2) : Prop :=
  ∀ (value slice : Expr) (pins : List (Addr × Obj)) (s : Shared) (σ : St) (H : Hp) (x y : V) (v u : Value) (Q : VK), Inv X pins σ H s → RelV x v → RelV y u → r x y H Q →
    subscripted slice false v u = operate [v, u] (getItem v u) → wpAny (model X.prog X.w) X.A (subscriptTail value slice v u) (EP X pins σ Q) X.xe s
/-- a call of a builtin's method by values: the receiver, the arguments -/
def MtR (X : Cx) (id : String) (r : V → List V → Hp → VK → Prop) : Prop :=
  ∀ (pins : List (Addr × Obj)) (s : Shared) (σ : St) (H : Hp) (x : V) (xs : List V) (v : Value) (us : List Value) (Q : VK), Inv X pins σ H s → RelV x v → Vals xs us → r x xs H Q →
    wpAny (model X.prog X.w) X.A (call (.builtin id) (v :: us)) (EP X pins σ Q) X.xe s
section
variable {X : Cx} {a b : Expr} {ta tb : TE} {pos : Pos}
/-- a[b] -/
theorem pe_ix {r : R2} (hr : IxR X r) (ha : PE X a ta) (hb : PE X b tb) (hs : PlainIx b) : PE X (.Subscript a b pos) (tOp r ta tb) := by
  intro pins s σ H Q I h
  exact Subscript_ (binT ha hb I h fun v u s2 x y H2 I2 rx ry q => hr a b pins s2 σ H2 x y v u Q I2 rx ry q (hs _ _))

def rIxL (K : PySem.W.Frag) : R2 := fun x y H Q => ∃ p xs i v, x = .ref p ∧ y = .int i ∧ SqL K H p xs ∧ atI xs i = some v ∧ Q v H
def rIxT (K : PySem.W.Frag) : R2 := fun x y H Q => ∃ p xs i v, x = .ref p ∧ y = .int i ∧ SqT K H p xs ∧ atI xs i = some v ∧ Q v H
theorem ix_list : IxR X (rIxL X.K) := by
  intro value slice pins s σ H x y v u Q I rx ry h hs
  obtain ⟨p, xs, i, z, rfl, rfl, hq, he, q⟩ := h
  cases rx
  obtain ⟨t, rfl⟩ := ry
  obtain ⟨its, r, pl, hz⟩ := I.list hq
  obtain ⟨j, h1, h2, h3, h4, h5⟩ := atI_get he
  obtain ⟨w, ew, rw'⟩ := r.get h2
  have hl := r.length
  have hn := line63
  have fin : EP X pins σ Q w s := ⟨z, H, I, rw', q⟩
  by_cases h0 : 0 ≤ i
  · have hj : i.toNat = j := by
      rw [seqIndex_of h0 h5] at h1
      exact Option.some.inj h1
    exact item_listR pl.isList h0 (by omega) (by rw [hj]; simpa using ew) fin hs
  · have hj : (i + (its.toArray.size : Int)).toNat = j := by
      rw [seqIndex_neg (by omega) h4] at h1
      rw [List.size_toArray, ← hl]
      exact Option.some.inj h1
    exact subscriptTail_builtinR (x := w) pl.isList.typeIs slot_list_getitem.lookup
      (wpAny_getItem_list_neg (Q := fun r s' => r = w ∧ EP X pins σ Q r s') pl.isList (by omega) (by rw [List.size_toArray] <;> omega) (by omega) (by rw [hj]; simpa using ew) ⟨rfl, fin⟩) hs
theorem ix_tup : IxR X (rIxT X.K) := by
  intro value slice pins s σ H x y v u Q I rx ry h hs
  obtain ⟨p, xs, i, z, rfl, rfl, hq, he, q⟩ := h
  cases rx
  obtain ⟨t, rfl⟩ := ry
  obtain ⟨its, r, pl, hz⟩ := I.tuple hq
  obtain ⟨j, h1, h2, h3, h4, h5⟩ := atI_get he
  obtain ⟨w, ew, rw'⟩ := r.get h2
  have hl := r.length
  have hn := line63
  have fin : EP X pins σ Q w s := ⟨z, H, I, rw', q⟩
  exact subscriptTail_builtinR (x := w) pl.typeIs slot_tuple_getitem.lookup
    (getItem_tuple (j := j) (Q := fun r s' => r = w ∧ EP X pins σ Q r s') pl (by omega) (by omega) (by rw [List.size_toArray, ← hl]; exact h1) (by simpa using ew) ⟨rfl, fin⟩) hs
/-! ### xs[i] = v, any sign -/
/-- the list's object behind a store -/
theorem mapSeq_set (its : List Value) (n j : Nat) (u : Value) : Obj.mapSeq (·.setIfInBounds j u) { cls := .type "list", data := .seq its.toArray n } = { cls := .type "list", data := .seq (its.set j u).toArray n } := by
  simp [Obj.mapSeq]
theorem Inv.lst {pins : List (Addr × Obj)} {σ : St} {H : Hp} {s : Shared} {p : Addr} {xs : List V} (I : Inv X pins σ H s) (h : H p = some (.lst xs)) :
    ∃ (its : List Value) (n : Nat), Vals xs its ∧ s.heap.get? p = some { cls := .type "list", data := .seq its.toArray n } ∧ xs.length ≤ sizeLine := by
  obtain ⟨z, its, n, r, e⟩ := I.hok p _ h
  exact ⟨its, n, r, e, z⟩
/-- the list at p is written by an update of its object -/
theorem Inv.lstUpd {pins : List (Addr × Obj)} {σ : St} {H : Hp} {s : Shared} {p : Addr} {xs ys : List V} {its its' : List Value} {n n' : Nat} {f : Obj → Obj} (I : Inv X pins σ H s) (h : H p = some (.lst xs))
    (ho : s.heap.get? p = some { cls := .type "list", data := .seq its.toArray n }) (hf : f { cls := .type "list", data := .seq its.toArray n } = { cls := .type "list", data := .seq its'.toArray n' }) (r : Vals ys its') (hz : ys.length ≤ sizeLine) (t : Nat) :
    Inv X pins σ (upd H p (.lst ys)) { s with heap := s.heap.update p f, toks := t } := by
  have e : (s.heap.update p f).get? p = some { cls := .type "list", data := .seq its'.toArray n' } := by
    rw [Heap.get?_update_self f ho (by rw [hf] <;> rfl), hf]
  refine I.write (x := p) (e := p) (by rw [h]; trivial) (.inl rfl) (fun b u hb q => (Heap.get?_update_other _ _ (Ne.symm hb)).trans q) ⟨_, e⟩ ?_
  exact ⟨hz, its', n', r, e⟩
def rSetL : V → V → V → Hp → (Hp → Prop) → Prop := fun o i v H Q => ∃ p xs k j, o = .ref p ∧ i = .int k ∧ H p = some (.lst xs) ∧ ixN xs.length k = some j ∧ Q (upd H p (.lst (xs.set j v)))
theorem set_list : PSet X rSetL := by
  intro pins s σ H o i v ov iv u Q I ro ri rv h
  obtain ⟨p, xs, k, j, rfl, rfl, hp, hj, q⟩ := h
  cases ro
  obtain ⟨t, rfl⟩ := ri
  obtain ⟨its, n, r, ho, hz⟩ := I.lst hp
  obtain ⟨h1, h2, h3, h4⟩ := ixN_seq hj
  have hl := r.length
  have hn := line63
  have I' : Inv X pins σ (upd H p (.lst (xs.set j v))) { s with heap := s.heap.update p (Obj.mapSeq (·.setIfInBounds j u)) } :=
    I.lstUpd hp ho (mapSeq_set its n j u) (r.set rv j) (by rw [List.length_set]; exact hz) s.toks
  by_cases h0 : 0 ≤ k
  · have hk : k.toNat = j := by
      rw [seqIndex_of h0 h4] at h1
      exact Option.some.inj h1
    exact PySem.W.ki_setAt ho h0 (by omega) (by rw [List.size_toArray, ← hl]; exact h4) (by rw [hk]; exact ⟨_, I', q⟩)
  · have hk : (k + (its.toArray.size : Int)).toNat = j := by
      rw [seqIndex_neg (by omega) h3] at h1
      rw [List.size_toArray, ← hl]
      exact Option.some.inj h1
    exact PySem.W.ki_setBack ho (by omega) (by rw [List.size_toArray, ← hl]; exact h3) (by omega) (by rw [hk]; exact ⟨_, I', q⟩)

/-! ### slices -/
theorem slice_bounds (lo hi : Option Int) (n : Nat) : (sliceBounds lo hi none n).1 = ((HT.sIx n 0 lo : Nat) : Int) ∧ (sliceBounds lo hi none n).2.1 = ((HT.sIx n n hi : Nat) : Int) ∧ (sliceBounds lo hi none n).2.2 = 1 := by
  refine ⟨?_, ?_, rfl⟩
  · cases lo with
    | none => simp [sliceBounds, HT.sIx]
    | some i =>
      simp only [sliceBounds, HT.sIx, Option.getD_none, show (1 : Int) > 0 by decide, if_true]
      by_cases h : i < 0
      · simp only [h, if_true] <;> omega
      · simp only [h, if_false] <;> omega
  · cases hi with
    | none => simp [sliceBounds, HT.sIx]
    | some i =>
      simp only [sliceBounds, HT.sIx, Option.getD_none, show (1 : Int) > 0 by decide, if_true]
      by_cases h : i < 0
      · simp only [h, if_true] <;> omega
      · simp only [h, if_false] <;> omega
theorem slicePick_cut (its : List Value) (lo hi : Option Int) : slicePick its.toArray lo hi none = ((its.drop (HT.sIx its.length 0 lo)).take (HT.sIx its.length its.length hi - HT.sIx its.length 0 lo)).toArray := by
  obtain ⟨h1, h2, h3⟩ := slice_bounds lo hi its.toArray.size
  unfold slicePick
  rw [h1, h2, h3]
  simp only [sliceRange_one, pick_run, List.size_toArray] <;> rfl
/-- xs[lo:hi] of a list: a new list -/
def rSlL (K : PySem.W.Frag) : V → Option Int → Option Int → Hp → VK → Prop := fun x lo hi H Q => ∃ a xs, x = .ref a ∧ SqL K H a xs ∧ ∀ p, H p = none → Q (.ref p) (upd H p (.lst (cutV xs lo hi)))
theorem sl_list : SlR X (rSlL X.K) := by
  intro pins s σ H x v vl vu lo hi sl Q I rx hs pl pu h
  obtain ⟨a, xs, rfl, hx, q⟩ := h
  cases rx
  obtain ⟨its, r, ht, hz⟩ := I.list hx
  have hlen := r.length
  refine ⟨"list", _, slot_list_getitem.lookup, ht.isList.typeIs, ?_⟩
  refine wpAny_getItem_list_slice ht.isList hs pl pu .none (by simp) ?_ (by rw [List.size_toArray] <;> omega)
  rw [slicePick_cut, ← hlen]
  refine ⟨.ref s.heap.objs.size, _, I.laid (t' := s.toks) (o := .lst (cutV xs lo hi)) (fun b ob q => Heap.get?_push_of_some _ q) (Nat.le_refl _) ?_, rfl, q _ (I.hok.fresh (Nat.le_refl _))⟩
  exact ⟨Nat.le_trans (cutV_length xs lo hi) hz, _, 0, (r.drop (HT.sIx xs.length 0 lo)).take (HT.sIx xs.length xs.length hi - HT.sIx xs.length 0 lo), Heap.get?_push_size _ rfl⟩

/-! ### in, not in: flat items -/
def flatV : V → Bool
  | .non => true
  | .bl _ => true
  | .int _ => true
  | .str _ => true
  | _ => false
/-- == of flat values -/
def eqV : V → V → Bool
  | .non, .non => true
  | .bl a, .bl b => a == b
  | .bl a, .int b => (if a then 1 else 0) == b
  | .int a, .bl b => a == (if b then 1 else 0)
  | .int a, .int b => a == b
  | .str a, .str b => a == b
  | _, _ => false
theorem eqAt_V {A : Around} {s : Shared} {y x : V} {u v : Value} (ry : RelV y u) (rx : RelV x v) (fy : flatV y = true) (fx : flatV x = true) : SeqAt.EqAt A s u v (eqV y x) := by
  cases y with
  | non =>
    cases ry
    cases x with
    | non => cases rx; exact SeqAt.EqAt.same _
    | bl b => cases rx; exact SeqAt.EqAt.none_bool b
    | int b => obtain ⟨t, rfl⟩ := rx; exact SeqAt.EqAt.none_int b t
    | str b => obtain ⟨t, rfl⟩ := rx; exact SeqAt.EqAt.none_str b t
    | _ => exact absurd (show false = true from fx) Bool.false_ne_true
  | bl a =>
    cases ry
    cases x with
    | non => cases rx; exact SeqAt.EqAt.bool_none a
    | bl b => cases rx; exact SeqAt.EqAt.bool_bool a b
    | int b => obtain ⟨t, rfl⟩ := rx; exact SeqAt.EqAt.bool_int a b t
    | str b => obtain ⟨t, rfl⟩ := rx; exact SeqAt.EqAt.bool_str a b t
    | _ => exact absurd (show false = true from fx) Bool.false_ne_true
  | int a =>
    obtain ⟨t', rfl⟩ := ry
    cases x with
    | non => cases rx; exact SeqAt.EqAt.int_none a t'
    | bl b => cases rx; exact SeqAt.EqAt.int_bool a t' b
    | int b => obtain ⟨t, rfl⟩ := rx; exact SeqAt.EqAt.int_int a t' b t
    | str b => obtain ⟨t, rfl⟩ := rx; exact SeqAt.EqAt.int_str a t' b t
    | _ => exact absurd (show false = true from fx) Bool.false_ne_true
  | str a =>
    obtain ⟨t', rfl⟩ := ry
    cases x with
    | non => cases rx; exact SeqAt.EqAt.str_none a t'
    | bl b => cases rx; exact SeqAt.EqAt.str_bool a t' b
    | int b => obtain ⟨t, rfl⟩ := rx; exact SeqAt.EqAt.str_int a t' b t
    | str b => obtain ⟨t, rfl⟩ := rx; exact SeqAt.EqAt.str_str a t' b t
    | _ => exact absurd (show false = true from fx) Bool.false_ne_true
  | _ => exact absurd (show false = true from fy) Bool.false_ne_true
/-! ### len, list(x), tuple(x) of any list or tuple that is read -/
theorem call_len_seq : CallR X (.builtin "len") (fun xs H Q => ∃ p ys, xs = [.ref p] ∧ (SqL X.K H p ys ∨ SqT X.K H p ys) ∧ Q (.int ys.length) H) := by
  intro pins s σ H xs us Q I r h
  obtain ⟨p, ys, rfl, hq, q⟩ := h
  obtain ⟨u, rfl, rx⟩ := vals1 r
  cases rx
  have hn := line63
  rcases hq with hq | hq
  · obtain ⟨its, r', pl, hz⟩ := I.list hq
    have hlen := r'.length
    exact Calls.call_len_list pl.isList (by simp only [List.size_toArray] <;> omega) ⟨.int ys.length, H, I.tok _, ⟨s.toks + 1, by rw [List.size_toArray, hlen]⟩, q⟩
  · obtain ⟨its, r', pl, hz⟩ := I.tuple hq
    have hlen := r'.length
    exact len_tuple pl (by simp only [List.size_toArray] <;> omega) ⟨.int ys.length, H, I.tok _, ⟨s.toks + 1, by rw [List.size_toArray, hlen]⟩, q⟩
theorem call_list_of : CallR X (.type "list") (fun xs H Q => ∃ p ys, xs = [.ref p] ∧ (SqL X.K H p ys ∨ SqT X.K H p ys) ∧ ∀ l, H l = none → Q (.ref l) (upd H l (.lst ys))) := by
  intro pins s σ H xs us Q I r h
  obtain ⟨p, ys, rfl, hq, q⟩ := h
  obtain ⟨u, rfl, rx⟩ := vals1 r
  cases rx
  have fin : ∀ (its : List Value), Vals ys its → ys.length ≤ sizeLine → ∀ (h' : Heap) (c' : Nat), (∀ b o', s.heap.get? b = some o' → h'.get? b = some o') →
      h'.get? s.heap.objs.size = some { cls := .type "list", dict := none, data := .seq its.toArray c', slots := #[] } → EP X pins σ Q (.ref s.heap.objs.size) { s with heap := h' } := fun its r' hz h' c' kp e =>
    ⟨.ref s.heap.objs.size, _, I.laid (t' := s.toks) kp (Nat.le_refl _) (show ObjOk X.prog X.w _ h' _ (.lst ys) from ⟨hz, its, c', r', e⟩), rfl, q _ (I.hok.fresh (Nat.le_refl _))⟩
  rcases hq with hq | hq
  · obtain ⟨its, r', pl, hz⟩ := I.list hq
    have hlen := r'.length
    obtain ⟨o, ho, hc, n, hd⟩ := pl.isList
    exact call_list_seq p (.inl rfl) ho hc hd (fun h' c' kp e => fin its r' hz h' c' kp e) (by simp only [List.size_toArray] <;> omega)
  · obtain ⟨its, r', pl, hz⟩ := I.tuple hq
    have hlen := r'.length
    obtain ⟨o, ho, hc, n, hd⟩ := pl
    exact call_list_seq p (.inr rfl) ho hc hd (fun h' c' kp e => fin its r' hz h' c' kp e) (by simp only [List.size_toArray] <;> omega)
theorem call_tuple_of : CallR X (.type "tuple") (fun xs H Q => ∃ p ys, xs = [.ref p] ∧ ((SqL X.K H p ys ∧ ∀ l, H l = none → Q (.ref l) (upd H l (.tup ys))) ∨ (SqT X.K H p ys ∧ Q (.ref p) H))) := by
  intro pins s σ H xs us Q I r h
  obtain ⟨p, ys, rfl, h⟩ := h
  obtain ⟨u, rfl, rx⟩ := vals1 r
  cases rx
  rcases h with ⟨hq, q⟩ | ⟨hq, q⟩
  · obtain ⟨its, r', pl, hz⟩ := I.list hq
    have hlen := r'.length
    refine call_tuple_list pl.isList (fun h' kp => ?_) (by simp only [List.size_toArray] <;> omega)
    have I1 : Inv X pins σ H { s with heap := h' } := I.kept (t' := s.toks) kp
    have I2 : Inv X pins σ (upd H h'.objs.size (.tup ys)) { s with heap := h'.push { cls := .type "tuple", data := .seq its.toArray } } :=
      I1.laid (t' := s.toks) (fun b o e => Heap.get?_push_of_some _ e) (Nat.le_refl _) (show ObjOk X.prog X.w _ _ _ (.tup ys) from ⟨hz, its, r', IsTup.new _ _⟩)
    exact ⟨.ref h'.objs.size, _, I2, rfl, q _ (I1.hok.fresh (Nat.le_refl _))⟩
  · obtain ⟨its, r', pl, hz⟩ := I.tuple hq
    exact call_tuple_same pl ⟨.ref p, H, I, rfl, q⟩

/-! ### the call of a builtin's method: o.m(..) -/
/-- the value is of that builtin type -/
def tyV (K : PySem.W.Frag) (T : String) (x : V) (H : Hp) : Prop := match x with
  | .str _ => T = "str"
  | .int _ => T = "int"
  | .ref p => (T = "list" ∧ ∃ xs, SqL K H p xs) ∨ (T = "tuple" ∧ ∃ o, K.lookup p = some o ∧ o.cls = .type "tuple" ∧ o.dict = none) ∨
      (T = "dict" ∧ ((∃ kvs, H p = some (.dK kvs)) ∨ ∃ kvs, H p = some (.dT kvs))) ∨ (T = "set" ∧ ∃ S n, H p = some (.set S n))
  | _ => False
theorem tyV_is {pins : List (Addr × Obj)} {σ : St} {H : Hp} {s : Shared} {T : String} {x : V} {v : Value} (I : Inv X pins σ H s) (r : RelV x v) (ty : tyV X.K T x H) :
    s.TypeIs v T ∧ ∀ a, v = .ref a → ∃ ob, s.heap.get? a = some ob ∧ ob.dict = none := by
  cases x with
  | str z =>
    obtain ⟨t, rfl⟩ := r
    cases (show T = "str" from ty)
    exact ⟨typeIs_str s z t, fun _ e => nomatch e⟩
  | int i =>
    obtain ⟨t, rfl⟩ := r
    cases (show T = "int" from ty)
    exact ⟨typeIs_int s i t, fun _ e => nomatch e⟩
  | ref p =>
    cases r
    rcases ty with ⟨rfl, xs, hq⟩ | ⟨rfl, o, hk, hc, hd⟩ | ⟨rfl, hk⟩ | ⟨rfl, S, n, hk⟩
    · obtain ⟨its, _, pl, _⟩ := I.list hq
      refine ⟨pl.isList.typeIs, fun a e => ?_⟩
      cases e
      obtain ⟨o, n, e, c, hd, _⟩ := pl
      exact ⟨o, e, hd⟩
    · refine ⟨⟨o, I.kIn p o hk, hc⟩, fun a e => ?_⟩
      cases e
      exact ⟨o, I.kIn _ o hk, hd⟩
    · have z : ∃ o, s.heap.get? p = some o ∧ o.ExactDict := by
        rcases hk with ⟨kvs, hk⟩ | ⟨kvs, hk⟩
        · obtain ⟨_, _, _, _, o, _, _, e, ex, _⟩ := I.hok p _ hk
          exact ⟨o, e, ex⟩
        · obtain ⟨_, _, _, _, o, _, _, e, ex, _⟩ := I.hok p _ hk
          exact ⟨o, e, ex⟩
      obtain ⟨o, e, ex⟩ := z
      refine ⟨⟨o, e, ex.1⟩, fun a e2 => ?_⟩
      cases e2
      exact ⟨o, e, ex.2.1⟩
    · obtain ⟨o, _, _, _, e, ex, _⟩ := I.hok p _ hk
      refine ⟨⟨o, e, ex.1⟩, fun a e2 => ?_⟩
      cases e2
      exact ⟨o, e, ex.2.1⟩
  | _ => exact False.elim ty
def tBM (K : PySem.W.Frag) (T : String) (r : V → List V → Hp → VK → Prop) (to : TE) (t : TA) : TE := fun σ H Q => to σ H fun x H1 => tyV K T x H1 ∧ t σ H1 fun xs H2 => r x xs H2 Q
variable {o e : Expr} {es : List Expr} {to : TE} {t : TA} {name : Str} {apos cpos : Pos} {T id : String} {r : V → List V → Hp → VK → Prop}
theorem pe_bm (pa : PlainAttrs T) (slot : Slot T name id) (hty : typeOf (.builtin id) = pure (.type "method_descriptor")) (hm : MtR X id r) (ho : PE X o to) (ha : PA X (e :: es) t)
    (hbase : attributeBase o name X.env (eval o X.env) = eval o X.env := by rfl)
    (hfew : ((backTo cpos (starEach (e :: es) X.env)).all (fun x => !x.1) && (backToKw cpos (keywordEach [] X.env)).all (fun x => x.1.isSome)
      && decide ((e :: es).length + ([] : List Keyword).length + (if ([] : List Keyword).isEmpty then 0 else 1) < 30)) = true := by rfl)
    (hline : (apos.endLine == cpos.line) = true := by rfl) (hs : starEach (e :: es) X.env = (false, eval e X.env) :: starEach es X.env := by rfl) (hplain : (backTo cpos (starEach es X.env)).any (·.1) = false := by rfl) :
    PE X (.Call (.Attribute o name apos) (e :: es) [] cpos) (tBM X.K T r to t) := by
  intro pins s σ H Q I h
  refine wpAny_Call_method_late hbase hfew hline rfl (thn (ho pins s σ H _ I h) fun v s1 ⟨x, H1, I1, r1, ty, q1⟩ => ?_)
  obtain ⟨h1, h2⟩ := tyV_is I1 r1 ty
  refine ⟨T, id, pa, slot, hty, h1, h2, ?_⟩
  have hA := ha cpos pins s1 σ H1 _ I1 q1
  rw [hs] at hA ⊢
  refine Calls.callWith_builtin (by show (false || (backTo cpos (starEach es X.env)).any (·.1)) = false; rw [hplain] <;> rfl) (Calls.evalArgs_plain ?_)
  exact thn hA fun us s2 ⟨vs, H2, I2, r2, q2⟩ => hm pins s2 σ H2 x vs v us Q I2 r1 r2 q2
/- xs.append(e), list.index on a module's tuple .. are MtR facts of 06m -/
end
end L2

namespace L2
open PySem PySem.Spec PyProof.Rows

def MtM (X : Cx) (id : String) (r : V → List V → Hp → VK → Prop) : Prop :=
  ∀ (pins : List (Addr × Obj)) (s : Shared) (σ : St) (H : Hp) (x : V) (xs : List V) (v : Value) (us : List Value) (Q : VK), Inv X pins σ H s → RelV x v → Vals xs us → r x xs H Q →
    wpAny (model X.prog X.w) X.A (call (.builtin id) (v :: us)) (EP X pins σ Q) X.xe s

/-! ### lists of values -/
theorem Vals.one : ∀ {x : V} {us : List Value}, Vals [x] us → ∃ u, us = [u] ∧ RelV x u
  | _, _, .cons r .nil => ⟨_, rfl, r⟩
theorem Vals.eraseIdx : ∀ {xs : List V} {us : List Value} (i : Nat), Vals xs us → Vals (xs.eraseIdx i) (us.eraseIdx i)
  | _, _, _, .nil => .nil
  | _, _, 0, .cons _ t => t
  | _, _, i + 1, .cons r t => .cons r (Vals.eraseIdx i t)
theorem Vals.reverse {xs : List V} {us : List Value} (h : Vals xs us) : Vals xs.reverse us.reverse := by
  induction h with
  | nil => exact .nil
  | cons r t ih => rw [List.reverse_cons, List.reverse_cons]; exact Vals.append ih (.cons r .nil)
theorem Vals.rep {xs : List V} {us : List Value} (h : Vals xs us) : ∀ k : Nat, Vals (List.replicate k xs).flatten (List.replicate k us).flatten
  | 0 => .nil
  | k + 1 => by
    rw [List.replicate_succ, List.replicate_succ, List.flatten_cons, List.flatten_cons]
    exact Vals.append h (Vals.rep h k)
theorem len_erase {α : Type} : ∀ (l : List α) (i : Nat), (l.eraseIdx i).length ≤ l.length
  | [], _ => Nat.le_refl _
  | _ :: _, 0 => Nat.le_succ _
  | _ :: r, i + 1 => Nat.succ_le_succ (len_erase r i)
theorem foldl_rep (its : List Value) : ∀ (k : Nat) (acc : List Value),
    List.foldl (fun x1 x2 => x1 ++ x2) acc.toArray (List.replicate k its.toArray) = (acc ++ (List.replicate k its).flatten).toArray
  | 0, acc => by simp
  | k + 1, acc => by
    have e : acc.toArray ++ its.toArray = (acc ++ its).toArray := by simp
    have e2 : (acc ++ its) ++ (List.replicate k its).flatten = acc ++ (List.replicate (k + 1) its).flatten := by
      rw [List.replicate_succ, List.flatten_cons, List.append_assoc]
    rw [← e2, ← foldl_rep its k (acc ++ its), ← e, List.replicate_succ, List.foldl_cons]

section
variable {X : Cx} {pins : List (Addr × Obj)} {σ : St} {H : Hp} {s : Shared} {l b : Addr} {xs ys zs : List V}

/-! ### the two steps: a tracked list is rewritten, a new list is laid -/
theorem Inv.lset {its its' : List Value} {n : Nat} {f : Array Value → Array Value} {t' : Nat} (I : Inv X pins σ H s) (hH : H l = some (.lst xs))
    (e : s.heap.get? l = some { cls := .type "list", data := .seq its.toArray n }) (hf : f its.toArray = its'.toArray) (hv : Vals ys its') (hz : ys.length ≤ sizeLine) :
    Inv X pins σ (upd H l (.lst ys)) { s with heap := s.heap.update l (Obj.mapSeq f), toks := t' } := by
  have q := PySem.IsL.update e f
  rw [hf] at q
  refine I.write (x := l) (e := l) (by rw [hH]; exact trivial) (.inl rfl) (fun b' u hb hu => (Heap.get?_update_other s.heap (Obj.mapSeq f) (Ne.symm hb)).trans hu) ⟨_, q⟩ ?_
  exact ⟨hz, its', _, hv, q⟩
theorem Inv.lnew {its : List Value} {t' : Nat} (I : Inv X pins σ H s) (hv : Vals ys its) (hz : ys.length ≤ sizeLine) :
    Inv X pins σ (upd H s.heap.objs.size (.lst ys)) { s with heap := s.heap.push { cls := .type "list", data := .seq its.toArray }, toks := t' } :=
  I.laid (fun _ _ q => Heap.get?_push_of_some _ q) (Nat.le_refl _) ⟨hz, its, 0, hv, Heap.get?_push_size _ rfl⟩
theorem Inv.fresh (I : Inv X pins σ H s) : H s.heap.objs.size = none := I.hok.fresh (Nat.le_refl _)
theorem Inv.lstM (I : Inv X pins σ H s) (hH : H l = some (.lst xs)) : xs.length ≤ sizeLine ∧ ∃ (its : List Value) (n : Nat), Vals xs its ∧ xs.length = its.length ∧ s.heap.get? l = some { cls := .type "list", data := .seq its.toArray n } := by
  obtain ⟨z, its, n, r, e⟩ := I.hok l _ hH
  exact ⟨z, its, n, r, r.length, e⟩

theorem notLongL {n : Nat} (h : n ≤ sizeLine) : Builtin.List.listTooLong n = false := by
  unfold Builtin.List.listTooLong
  exact decide_eq_false (by omega)
end

section
variable {X : Cx}

/-! ### methods -/
def rAppend : V → List V → Hp → VK → Prop := fun x vs H Q => ∃ l xs y, x = .ref l ∧ vs = [y] ∧ H l = some (.lst xs) ∧ xs.length < sizeLine ∧ Q .non (upd H l (.lst (xs ++ [y])))
theorem mt_append : MtM X "list.append" rAppend := by
  intro pins s σ H x vs v us Q I rx rv h
  obtain ⟨l, xs, y, rfl, rfl, hH, hz, q⟩ := h
  cases rx
  obtain ⟨u, rfl, ru⟩ := rv.one
  obtain ⟨z, its, n, r, hl, e⟩ := I.lstM hH
  refine call_meets F.slot_list_append ⟨_, e, rfl⟩ F.entry_list_append (F.args_list_append_2 _ _) (PySem.list_append l its.toArray n u (by rw [List.size_toArray]; omega)) ⟨e, ?_⟩
  refine ⟨.non, _, I.lset (its' := its ++ [u]) hH e (by simp) (r.append (.cons ru .nil)) ?_, rfl, q⟩
  rw [List.length_append, List.length_singleton]
  omega

def rPopAt : V → List V → Hp → VK → Prop := fun x vs H Q => ∃ l xs i k y, x = .ref l ∧ vs = [.int i] ∧ H l = some (.lst xs) ∧ -(2 ^ 63) ≤ i ∧ i < 2 ^ 63 ∧ seqIndex? i xs.length = some k ∧ xs[k]? = some y ∧ Q y (upd H l (.lst (xs.eraseIdx k)))
theorem mt_popAt : MtM X "list.pop" rPopAt := by
  intro pins s σ H x vs v us Q I rx rv h
  obtain ⟨l, xs, i, k, y, rfl, rfl, hH, h1, h2, hk, hy, q⟩ := h
  cases rx
  obtain ⟨u, rfl, ru⟩ := rv.one
  obtain ⟨t, rfl⟩ := ru
  obtain ⟨z, its, n, r, hl, e⟩ := I.lstM hH
  obtain ⟨w, hw, rw'⟩ := r.get hy
  refine call_meets F.slot_list_pop ⟨_, e, rfl⟩ F.entry_list_pop (F.args_list_pop_2 _ _)
    (MeetsSeq.list_pop_at l its.toArray n i t k w (fitsIndex_both h1 h2) (by rw [List.size_toArray, ← hl]; exact hk) (by rw [← Array.getElem?_toList]; exact hw) (by rw [List.size_toArray]; omega)) ⟨e, ?_⟩
  refine ⟨y, _, I.lset (its' := its.eraseIdx k) hH e ?_ (r.eraseIdx k) ?_, rw', q⟩
  · show its.toArray.eraseIdxIfInBounds k = (its.eraseIdx k).toArray
    rw [List.eraseIdxIfInBounds_toArray]
  · have := len_erase xs k
    omega

/-! ### list + list, list += list, list * int -/
def rCat : R2 := fun x y H Q => ∃ l b xs zs, x = .ref l ∧ y = .ref b ∧ H l = some (.lst xs) ∧ H b = some (.lst zs) ∧ xs.length + zs.length ≤ sizeLine ∧ ∀ p, H p = none → Q (.ref p) (upd H p (.lst (xs ++ zs)))
theorem op_cat : OpR X (binaryOp .Add) rCat := by
  intro pins s σ H x y v u Q I rx ry h
  obtain ⟨l, b, xs, zs, rfl, rfl, hH, hB, hz, q⟩ := h
  cases rx
  cases ry
  obtain ⟨z, its, n, r, hl, e⟩ := I.lstM hH
  obtain ⟨z2, its2, n2, r2, hl2, e2⟩ := I.lstM hB
  refine PySem.P.add_list e e2 ?_ (by rw [List.size_toArray, List.size_toArray]; omega)
  have ea : its.toArray ++ its2.toArray = (its ++ its2).toArray := by simp
  rw [ea]
  exact ⟨.ref _, _, I.lnew (t' := s.toks) (r.append r2) (by rw [List.length_append]; omega), rfl, q _ I.fresh⟩
/-- a list times an int (a negative one is nothing) -/
def rRep : R2 := fun x y H Q => ∃ l k xs, x = .ref l ∧ y = .int k ∧ H l = some (.lst xs) ∧ -(2 ^ 63) ≤ k ∧ k < 2 ^ 63 ∧ xs.length * k.toNat ≤ sizeLine ∧
  ∀ p, H p = none → Q (.ref p) (upd H p (.lst (List.replicate k.toNat xs).flatten))
theorem len_rep {α : Type} (xs : List α) (k : Nat) : (List.replicate k xs).flatten.length = k * xs.length := by
  induction k with
  | zero => simp
  | succ k ih => rw [List.replicate_succ, List.flatten_cons, List.length_append, ih, Nat.succ_mul, Nat.add_comm]
theorem op_rep : OpR X (binaryOp .Mult) rRep := by
  intro pins s σ H x y v u Q I rx ry h
  obtain ⟨l, k, xs, rfl, rfl, hH, h1, h2, hz, q⟩ := h
  cases rx
  obtain ⟨t, rfl⟩ := ry
  obtain ⟨z, its, n, r, hl, e⟩ := I.lstM hH
  have hlen : its.toArray.size * k.toNat ≤ sizeLine := by rw [List.size_toArray, ← hl]; exact hz
  have hcap : ¬ its.toArray.size * k.toNat > (2 ^ 63 - 1) / 8 := by
    have : (sizeLine : Nat) ≤ (2 ^ 63 - 1) / 8 := by decide
    omega
  have hfit : ¬ (!Builtin.List.listFitsIndex k) = true := by
    rw [fitsIndex_both h1 h2]
    exact Bool.false_ne_true
  have hlong : ¬ Builtin.List.listTooLong (its.toArray.size * k.toNat) = true := by
    rw [notLongL hlen]
    exact Bool.false_ne_true
  have hnew : List.foldl (fun x1 x2 => x1 ++ x2) #[] (List.replicate (if its.toArray.isEmpty = true then 0 else k.toNat) its.toArray) = (List.replicate k.toNat its).flatten.toArray := by
    have f0 : ∀ m : Nat, List.foldl (fun x1 x2 => x1 ++ x2) #[] (List.replicate m its.toArray) = (List.replicate m its).flatten.toArray := fun m => by
      have := foldl_rep its m []
      rw [List.nil_append] at this
      exact this
    rw [f0]
    cases its with
    | nil => simp
    | cons a r' => rw [if_neg (by simp)]
  refine wpAny_binaryOp_repeat_ref (T := "list") (U := "int") (by decide) ⟨_, e, rfl⟩ (fun s' => typeIs_int s' k t) noFill_list_mul F.fills_int_mul F.slot_int_rmul repeat_list F.slot_int_index.lookup
    (call_meets F.slot_int_rmul (typeIs_int s k t) F.entry_int_rmul (F.args_int_rmul_2 _ _) (int___rmul___int_list k t l its.toArray n)
      ⟨e, rfl, ⟨_, e, rfl⟩, call_meets F.slot_list_mul ⟨_, e, rfl⟩ F.entry_list_mul (F.args_list_mul_2 _ _) (AutoListH.list___mul___list_int_3 l its.toArray n k t hfit hcap hlong) ⟨e, ?_⟩⟩)
  rw [hnew]
  exact ⟨.ref _, _, I.lnew (t' := s.toks) (r.rep k.toNat) (by rw [len_rep, Nat.mul_comm]; exact hz), rfl, q _ I.fresh⟩

/-! ### del xs[i] -/
end

/-! ### xs[a:b] = ys -/
section
variable {prog : Program} {w : World} {A : Around} {E : Value → Shared → Prop} {s : Shared}
end

section
variable {X : Cx}
end
end L2

namespace L2
open PySem PySem.Spec PyProof.Rows

/-! ### lists of pairs as tables -/
section
variable {κ : Type} [DecidableEq κ]
theorem RelO.getD {o : Option V} {u : Option Value} {d : V} {d' : Value} (r : RelO o u) (rd : RelV d d') : RelV (o.getD d) (u.getD d') := by
  cases o with
  | none => cases u with
    | none => exact rd
    | some _ => exact (show False from r).elim
  | some _ => cases u with
    | none => exact (show False from r).elim
    | some _ => exact r

theorem KV.any {kvs : List (κ × V)} {vs : List (κ × Value)} (r : KV kvs vs) (k : κ) : (kvs.any fun kv => decide (kv.1 = k)) = vs.any fun kv => decide (kv.1 = k) := by
  unfold KV at r
  induction r with
  | nil => rfl
  | cons h t ih => rw [List.any_cons, List.any_cons, ih, h.1]
theorem KV.length {kvs : List (κ × V)} {vs : List (κ × Value)} (r : KV kvs vs) : kvs.length = vs.length := Paired.length r
end


/-! ### a tracked dict, its keys ints and texts or tuples of these -/
section
variable {P : Program} {w : World} {H : Hp} {h : Heap} {a : Addr}
end

section
variable {X : Cx} {pins : List (Addr × Obj)} {σ : St} {H : Hp} {s : Shared} {a : Addr} {y v : V} {u r : Value} {o : Option V} {A : Around} {E : Value → Shared → Prop}

end

section
variable {X : Cx} {pins : List (Addr × Obj)} {σ : St} {H : Hp} {s : Shared} {a : Addr} {kvs : List (Key × V)} {k : Key} {u : Value} {A : Around} {E : Value → Shared → Prop}
end


/-! ### readings and rules -/
section
variable {X : Cx} {o i e value : Expr} {pos pos' tpos : Pos} {td ty tv : TE}
end


/-! ### displays -/
section
variable {X : Cx} {pos : Pos}
end

/-! ### methods -/
/-- a method call o.m(e) of a built-in, with one argument: what must be seen of the text -/
structure M1 (X : Cx) (o : Expr) (m : Str) (apos : Pos) (e : Expr) (cpos : Pos) : Prop where
  base : attributeBase o m X.env (eval o X.env) = eval o X.env
  few : ((backTo cpos (starEach [e] X.env)).all (fun x => !x.1) && (backToKw cpos (keywordEach [] X.env)).all (fun x => x.1.isSome)
    && decide (([e] : List Expr).length + ([] : List Keyword).length + (if ([] : List Keyword).isEmpty then 0 else 1) < 30)) = true
  line : (apos.endLine == cpos.line) = true
  trees : backTo cpos (starEach [e] X.env) = [(false, eval e X.env)]
structure M2 (X : Cx) (o : Expr) (m : Str) (apos : Pos) (e f : Expr) (cpos : Pos) : Prop where
  base : attributeBase o m X.env (eval o X.env) = eval o X.env
  few : ((backTo cpos (starEach [e, f] X.env)).all (fun x => !x.1) && (backToKw cpos (keywordEach [] X.env)).all (fun x => x.1.isSome)
    && decide (([e, f] : List Expr).length + ([] : List Keyword).length + (if ([] : List Keyword).isEmpty then 0 else 1) < 30)) = true
  line : (apos.endLine == cpos.line) = true
  trees : backTo cpos (starEach [e, f] X.env) = [(false, eval e X.env), (false, eval f X.env)]

section
variable {X : Cx} {pins : List (Addr × Obj)} {σ : St} {H : Hp} {s : Shared} {a : Addr} {y d : V} {u r : Value} {o : Option V} {A : Around} {E : Value → Shared → Prop}
end

section
variable {X : Cx} {o e f : Expr} {apos cpos : Pos} {td ty tx : TE}
end

/-! ### dict(d): a copy -/
section
variable {X : Cx} {pins : List (Addr × Obj)} {σ : St} {H : Hp} {s : Shared} {a : Addr} {kvs : List (Key × V)} {A : Around} {E : Value → Shared → Prop}
end


section
variable {X : Cx} {pins : List (Addr × Obj)} {σ : St} {H : Hp} {s : Shared} {a : Addr} {y : V} {u : Value} {A : Around} {E : Value → Shared → Prop}
end
end L2


namespace Att
open PySem PySem.W PySem.Calls PyProof.Rows

/-! ### the script -/
theorem ints_of_wellAll {P : Params} {h : Heap} : ∀ (ns : List Int) (vs : List Value), WellAll P h vs (ns.map WData.int) → IntsAre vs ns := by
  intro ns
  induction ns with
  | nil =>
    intro vs w
    rw [List.map_nil] at w
    cases w
    exact .nil
  | cons n ns ih =>
    intro vs w
    rw [List.map_cons] at w
    cases w with
    | cons a b =>
      cases a
      exact .cons _ _ (ih _ b)

theorem script_of {l : OpenLaw} {n : Nat} (hn : l.most = some n) {P : Params} {h : Heap} {args : List WData} {vals : List Value}
    (hpre : l.row.toRowW.claim.pre args = true) (hwl : WellAll P h vals args) :
    ∃ a vs ns, vals = [Value.ref a] ∧ args = [WData.list (ns.map WData.int)] ∧ h.get? a = some { cls := .type "list", data := .seq vs.toArray } ∧ IntsAre vs ns ∧ ns.length ≤ n := by
  have hsh : WShape.hasAll [] args [.list .int] = true := (pre_splitW hpre).1
  have hc : l.pre.holds [] { args := args } = true := (pre_splitW hpre).2
  obtain ⟨d, r, rfl, h1, h2⟩ := hasAllW_cons hsh
  obtain rfl := hasAllW_nil h2
  obtain ⟨xs, rfl, h3⟩ := hasW_list h1
  obtain ⟨ns, rfl⟩ := items_int h3
  have hlen : ns.length ≤ n := by
    unfold OpenLaw.pre at hc
    have h4 : (WTm.not (.lt (.lit (.int (n : Int))) (.len (.arg 0)))).holds [] { args := [.list (ns.map .int)] } = true := by
      have h4 := (holds_andW hc).1
      rw [hn] at h4
      exact h4
    have h5 := condW_of h4 (w_not (w_lt w_lit (w_len_list (w_arg rfl))))
    rw [List.length_map] at h5
    refine Nat.le_of_not_lt fun q => ?_
    have q' : (n : Int) < ((ns.length : Nat) : Int) := by omega
    first
      | (rw [decide_eq_true q'] at h5; exact absurd h5 (by decide))
      | (simp at h5; omega)
  cases hwl with
  | cons w1 w2 =>
    cases w2
    cases w1 with
    | list ho hall => exact ⟨_, _, ns, rfl, rfl, ho, ints_of_wellAll ns _ hall, hlen⟩

theorem post_true (l : OpenLaw) (args : List WData) : l.row.toRowW.claim.post args (.bool true) args = true :=
  postW_of (r := l.row.toRowW) (X := (true == true))
    (show WShape.has [] (.bool true) .bool = true by first | rfl | decide | simp [WShape.has, WShape.arms, WShape.armsAll])
    (show (WTm.eq .res (.lit (.bool true))).value [] { args := args, res := some (.bool true), after := args } = some (.bool (true == true)) from w_eq_bool (w_res rfl) w_lit) rfl

/-! ### the attachment: holds_open's last premise (the goal 'hc' behind k_head) from a wpAny of the law's body -/
/-- the same from a codeAny of the CALL (for a layer whose function contracts speak of calls) -/
theorem attach_call {l : OpenLaw} {n : Nat} {q : Program} {loose : List Str} {XP : (Str → Option Value) → Heap → Prop} {YP : World → Heap → Prop} {d : DefRec}
    (hn : l.most = some n) (hdf : d.params.defaults = [])
    (call : ∀ (w : World) (s₀ s₁ : Shared) (mg mb : Str → Option Value) (fa : Addr) (o : Obj) (pm cd doc : Value) (a : Addr) (vs : List Value) (ns : List Int),
      Ground q loose [] XP w s₀ mg mb s₁.heap → YP w s₁.heap →
      s₁.heap.get? fa = some o → o.data = .func (docDef d.name d.params d.body d.scope pm cd doc) → s₁.heap.CodeRec cd d.name → mg d.name = some (.ref fa) →
      s₁.heap.get? a = some { cls := .type "list", data := .seq vs.toArray } → IntsAre vs ns → ns.length ≤ n → s₁.gens = #[] →
      codeAny (model l.prog w) callerA (.call (.ref fa) ⟨[.ref a], []⟩) (fun r s' => r = .ok (.ret (.bool true)) ∧ OldK s₁.heap s'.heap ∧ s'.os = s₁.os ∧ AllBare s'.gens) s₁) :
    WalkO q loose XP YP l.row.toRowW d [] (fun f vs => PySem.call f vs) := by
  intro w s₀ s₁ mg mb G Y fa o pm cd doc dV kV ho hd hcd hD hmg hg args vals as hpre hlay hrd hwl hlo
  obtain rfl : dV = .none := Dflts.none hD hdf
  obtain rfl : kV = .none := Dflts.noKw hD
  obtain ⟨a, vs, ns, rfl, rfl, hobj, hints, hlen⟩ := script_of hn hpre hwl
  refine enter_call (codeAny_mono (call w s₀ s₁ mg mb fa o pm cd doc a vs ns G Y ho (fd_plain hd) hcd hmg hobj hints hlen hg) fun r s' hq => ?_)
  obtain ⟨rfl, h2, h3, h4⟩ := hq
  exact ⟨.inl ⟨.bool true, .bool true, [], rfl, fun _ => rfl, .bool true, post_true l _, fun _ => ⟨List.Pairwise.nil, fun _ hm => (nomatch hm)⟩⟩, h2, h3, h4⟩

/-! ### rules over ANY heap (no ledger) from facts about the written part K: the library's own take a ledger (News) for what they write -/
section
variable {prog : Program} {w : World} {A : Around} {E : Value → Shared → Prop} {s : Shared} {K : Frag}

/-! the whole heap as the ledger: makes every rule that writes through a ledger a rule over any heap -/
def ledger (h : Heap) (L d : Addr) : List (Addr × Obj) := (List.range h.objs.size).filterMap fun a => if a = L ∨ a = d then none else (h.get? a).map fun o => (a, o)
end
end Att

namespace L2
open PySem PySem.Spec PyProof.Rows

theorem vals_ints : ∀ {vs : List Value} {ns : List Int}, IntsAre vs ns → Vals (ns.map V.int) vs
  | _, _, .nil => .nil
  | _, _, .cons n t h => .cons ⟨t, rfl⟩ (vals_ints h)

/-- nothing is tracked but the script, known to the object (or it is an object of the module) -/
def Only (H : Hp) : Prop := ∀ b, H b = none ∨ ∃ o xs, H b = some (.frz o (.lst xs))

/-- THE HEAD: the law's promise, at the heap behind the top. F, the promise of the law's def, may use that base is part of the heap (so K.In base, base.Ns mainGlobals mg stand in Mod) -/
theorem law_call {P : Program} {w : World} {K : PySem.W.Frag} {mg mb : Str → Option Value} {CX : CXT} {k : Nat} {fa a : Addr} {fd : FuncData} {x : Str} {sp : Sp} {s₁ : Shared} {vs : List Value} {ns : List Int}
    (KX : K.In s₁.heap) (hns : s₁.heap.Ns mainGlobals mg) (hb : s₁.heap.Ns builtinsNs mb) (hbb : ∀ x : Str, x ≠ "__name__" → mb x = bootBuiltins x) (hlim : s₁.heap.NoLimit) (hg : s₁.gens = #[])
    (ha : s₁.heap.get? a = some { cls := .type "list", data := .seq vs.toArray }) (hi : IntsAre vs ns) (hl : ns.length ≤ sizeLine) (hr : Room k callerA)
    (F : ∀ base : Heap, K.In base → base.Ns mainGlobals mg → FnOk P w K mg base CX k fa fd [x] sp) (hbind : ∀ (s : Shared) (u : Value), BindsTo s fd ⟨[u], []⟩ [(x, u)])
    (hsp : ∀ H : Hp, Only H → SqL K H a (ns.map V.int) → sp [.ref a] H (fun v _ => v = .bl true) fun _ _ _ => False)
    (hCX : ∀ H e s', CX [] H s₁ (fun _ _ _ => False) e s' → False) :
    codeAny (model P w) callerA (.call (.ref fa) ⟨[.ref a], []⟩) (fun r s' => r = .ok (.ret (.bool true)) ∧ OldK s₁.heap s'.heap ∧ s'.os = s₁.os ∧ AllBare s'.gens) s₁ := by
  have rv := vals_ints hi
  have lenV := hi.length
  -- from an abstract heap in which nothing but the script may be tracked
  have core : ∀ H : Hp, Only H → SqL K H a (ns.map V.int) → HOk P w H s₁.heap → (∀ b, H b ≠ none → b = a) → (H a ≠ none → K.lookup a = none) →
      codeAny (model P w) callerA (.call (.ref fa) ⟨[.ref a], []⟩) (fun r s' => r = .ok (.ret (.bool true)) ∧ OldK s₁.heap s'.heap ∧ s'.os = s₁.os ∧ AllBare s'.gens) s₁ := by
    intro H hO hS hok hA hK
    have base_of : ∀ {b : Addr} {o : Obj}, s₁.heap.get? b = some o → H b = none → (hidT s₁.heap H).get? b = some o := fun e n => hidT_get e n
    have noA : ∀ {b : Addr} {o : Obj} {es : Array DictEntry} {ep : Nat}, s₁.heap.get? b = some o → o.data = .dict es ep → H b = none := fun {b o es ep} e d => by
      cases q : H b with
      | none => rfl
      | some u =>
        have e' : b = a := hA b (by rw [q]; simp)
        subst e'
        rw [ha] at e; cases e
        have d' : Data.seq vs.toArray _ = Data.dict es ep := d
        cases d'
    have nsK : ∀ {b : Addr} {m : Str → Option Value}, s₁.heap.Ns b m → (hidT s₁.heap H).Ns b m := fun {b m} ⟨o, es, ep, e, d, r⟩ => ⟨o, es, ep, base_of e (noA e d), d, r⟩
    have hKb : K.In (hidT s₁.heap H) := fun b o e => base_of (KX b o e) (by
      cases q : H b with
      | none => rfl
      | some u =>
        have e' : b = a := hA b (by rw [q]; simp)
        subst e'
        rw [hK (by rw [q]; simp)] at e; cases e)
    have hM : Mod K mg (hidT s₁.heap H) := ⟨hKb, nsK hns, ⟨mb, nsK hb, hbb⟩, let ⟨mc, h1, h2⟩ := hlim; ⟨mc, nsK h1, h2⟩⟩
    have e0 : Env0 P w K mg (hidT s₁.heap H) callerA [] s₁ H := ⟨rfl, hM, fun b o e => of_hidT e, Nat.le_of_eq (hidT_size _ _), trivial, fun b hb => absurd (show b ∈ ([] : List Addr) from hb) (by simp), hok, .of_eq hg⟩
    refine codeAny_mono ((F _ hKb (nsK hns)).run callerA [] s₁ H ⟨[.ref a], []⟩ [.ref a] [.ref a] _ _ hr e0 (hbind s₁ (.ref a)) (.cons rfl .nil) (hsp H hO hS)) fun r s' h => ?_
    cases r with
    | error e => exact (hCX H e s' h).elim
    | ok fl =>
      cases fl with
      | next => exact False.elim h
      | brk => exact False.elim h
      | cont => exact False.elim h
      | ret u =>
        obtain ⟨v, H', os, bare, un, hok', r', q⟩ := h
        have q' : v = .bl true := q
        subst q'
        obtain rfl : u = Value.bool true := r'
        refine ⟨rfl, OldK.of_keep fun b o e => ?_, os, bare⟩
        cases q : H b with
        | none => exact un.keep b o e q (by intro z; exact absurd (show b ∈ ([] : List Addr) from z) (by simp)) (by simp)
        | some u =>
          rcases hO b with z | ⟨ob, xs, z⟩
          · rw [q] at z; cases z
          · have z2 := un.frzs b ob _ z
            obtain ⟨e1, _⟩ := hok b _ z
            obtain ⟨e2, _⟩ := hok' b _ z2
            rw [e] at e1; cases e1
            exact e2
  cases hk : K.lookup a with
  | some o =>
    -- the script is one of the module's own objects
    have e := KX a o hk
    rw [ha] at e
    cases e
    refine core (fun _ => none) (fun _ => .inl rfl) (.inr ⟨_, vs.toArray, _, hk, rfl, rfl, rfl, by rw [List.size_toArray, lenV]; exact hl, by simpa using rv⟩) (fun b u z => by have z' : (none : Option HO) = some u := z; cases z') (fun b z => absurd rfl z) fun z => absurd rfl z
  | none =>
    refine core (fun b => if b = a then some (.frz { cls := .type "list", data := .seq vs.toArray } (.lst (ns.map V.int))) else none) (fun b => ?_) (.inl (.inr ⟨{ cls := .type "list", data := .seq vs.toArray }, if_pos rfl⟩)) (fun b u z => ?_) (fun b z => ?_) fun _ => hk
    · by_cases hb : b = a
      · exact .inr ⟨_, _, if_pos hb⟩
      · exact .inl (if_neg hb)
    · by_cases hb : b = a
      · have z' := (if_pos hb).symm.trans z
        cases z'
        subst hb
        exact ⟨ha, by rw [List.length_map]; exact hl, vs, _, rv, ha⟩
      · have z' := (if_neg hb).symm.trans z
        cases z'
    · by_cases hb : b = a
      · exact hb
      · exact absurd (if_neg hb) z
end L2

namespace L2
open PySem PySem.Spec PyProof.Rows

abbrev KOf {K : PySem.W.Frag} {h : Heap} (_ : K.In h) : PySem.W.Frag := K

/-- the goal that k_head leaves (case hc), from the law's promise. F gives the function object fd (K's own) once, then the promise over every base -/
theorem walk_of {l : PySem.W.OpenLaw} {n k : Nat} {q : Program} {loose : List Str} {XP : (Str → Option Value) → Heap → Prop} {YP : World → Heap → Prop} {d : DefRec} {K : Params → PySem.W.Frag} {CX : World → CXT} {sp : World → Sp} {x : Str}
    (hn : l.most = some n) (hn2 : n ≤ sizeLine) (hdf : d.params.defaults = []) (hr : Room k callerA)
    (hY : ∀ (w : World) (h : Heap), YP w h → (K w.params).In h)
    (F : ∀ (w : World) (mg : Str → Option Value) (fa : Addr) (h : Heap), (K w.params).In h → h.Ns mainGlobals mg → mg d.name = some (.ref fa) →
      ∃ fd : FuncData, (∀ (s : Shared) (u : Value), BindsTo s fd ⟨[u], []⟩ [(x, u)]) ∧
        ∀ base : Heap, (K w.params).In base → base.Ns mainGlobals mg → FnOk l.prog w (K w.params) mg base (CX w) k fa fd [x] (sp w))
    (hsp : ∀ (w : World) (H : Hp) (a : Addr) (ns : List Int), ns.length ≤ n → Only H → SqL (K w.params) H a (ns.map V.int) → sp w [.ref a] H (fun v _ => v = .bl true) fun _ _ _ => False)
    (hCX : ∀ (w : World) (H : Hp) (s : Shared) (e : Value) (s' : Shared), CX w [] H s (fun _ _ _ => False) e s' → False) :
    PySem.W.WalkO q loose XP YP l.row.toRowW d [] (fun f vs => PySem.call f vs) := by
  refine Att.attach_call hn hdf fun w s₀ s₁ mg mb fa o pm cd doc a vs ns G Y ho hd hcd hmg hobj hints hlen hg => ?_
  have KX := hY w _ Y
  obtain ⟨fd, hb, hF⟩ := F w mg fa _ KX G.T.g hmg
  exact law_call KX G.T.g G.T.b G.T.builtins G.T.nolimit hg hobj hints (Nat.le_trans hlen hn2) hr hF hb (fun H hO hS => hsp w H a ns hlen hO hS) fun H e s' => hCX w H s₁ e s'
/-- the same where the promise hangs on the written part alone: (sp := My.sp_law), no hole under a binder -/
theorem walk_ofK {l : PySem.W.OpenLaw} {n k : Nat} {q : Program} {loose : List Str} {XP : (Str → Option Value) → Heap → Prop} {YP : World → Heap → Prop} {d : DefRec} {K : Params → PySem.W.Frag} {CX : CXT} {sp : PySem.W.Frag → Sp} {x : Str}
    (hn : l.most = some n) (hn2 : n ≤ sizeLine) (hdf : d.params.defaults = []) (hr : Room k callerA)
    (hY : ∀ (w : World) (h : Heap), YP w h → (K w.params).In h)
    (F : ∀ (w : World) (mg : Str → Option Value) (fa : Addr) (h : Heap), (K w.params).In h → h.Ns mainGlobals mg → mg d.name = some (.ref fa) →
      ∃ fd : FuncData, (∀ (s : Shared) (u : Value), BindsTo s fd ⟨[u], []⟩ [(x, u)]) ∧
        ∀ base : Heap, (K w.params).In base → base.Ns mainGlobals mg → FnOk l.prog w (K w.params) mg base CX k fa fd [x] (sp (K w.params)))
    (hsp : ∀ (K : PySem.W.Frag) (H : Hp) (a : Addr) (ns : List Int), ns.length ≤ n → Only H → SqL K H a (ns.map V.int) → sp K [.ref a] H (fun v _ => v = .bl true) fun _ _ _ => False)
    (hCX : ∀ (H : Hp) (s : Shared) (e : Value) (s' : Shared), CX [] H s (fun _ _ _ => False) e s' → False) :
    PySem.W.WalkO q loose XP YP l.row.toRowW d [] (fun f vs => PySem.call f vs) :=
  walk_of (K := K) (CX := fun _ => CX) (sp := fun w => sp (K w.params)) hn hn2 hdf hr hY F (fun w H a ns h1 h2 h3 => hsp (K w.params) H a ns h1 h2 h3) fun _ H s e s' => hCX H s e s'
end L2

/- THE LAST THEOREM (shape; LID, My.* are yours):
   My.Adr: a structure of the addresses that your layer names (classes, functions); My.Txt K t: a structure (Prop) of the equations over K;
   My.txt_mk : {K} {implicit addresses ..} (e1 : nsIn K mainGlobals "law" = some (some (.ref f))) (e2 : K.lookup f = some ⟨oc, od, .func (fnOf "law" "law" params body scope dV kV doc pm an cdv ct), sl⟩) (e3 : codeIn K cdv "law" = true) .. : ∃ t, My.Txt K t

set_option maxRecDepth 100000 in
set_option maxHeartbeats 0 in
theorem PySem.Challenge.cw_LID_holds : PySem.Challenge.rw_LID.Holds := by
  w_on; o_law; k_head; (case hw => w_witness2)
  k_fill
  refine L2.walk_of (l := PySem.Challenge.rw_LID) (n := 63) (k := 40) (x := "script") (CX := fun w => ..) (sp := fun _ => My.sp_law) rfl (by decide) rfl ⟨rfl, by decide, by decide⟩ (fun w h Y => PySem.W.kIn_of Y) ?F ?S ?C
  case F =>
    intro w mg fa h KX G hmg
    have T : ∃ t, My.Txt (L2.KOf KX) t := by
      dsimp only [L2.KOf]                          -- K must stand as «<heap const> w.params» for k_is
      refine' My.txt_mk ?e1 ?e2 ?e3 ..
      (case e1 => PySem.W.k_is)                    -- in the order: a name -> its address -> its object -> its parts
      (case e2 => PySem.W.k_is)
      ..
    obtain ⟨t, T⟩ := T
    have e0 := hmg.symm.trans (PySem.W.mg_of KX G T.law)
    cases e0                                       -- fa is the law's own address
    exact ⟨_, fun s u => .of_eq rfl, fun base kb nb => My.law_fn T kb nb⟩     -- if «.of_eq rfl» comes too early: refine' ⟨_, ?b, fun base kb nb => My.law_fn T kb nb⟩; exact fun s u => .of_eq rfl
  case S => exact fun w H a ns hl hO hS => ..
  case C => exact ..
(the tactic k_is has no namespace: write k_is) -/

/-! SHORT WORDS over the layer: a def of the text, its body, what a loop and a test want. -/
namespace L2
open PySem PySem.Spec PyProof.Rows

/-! ### the text by places -/
def defArgs (s : Stmt) : Arguments := match s with
  | .FunctionDef _ a _ _ _ _ _ _ _ _ => a
  | _ => { posonlyargs := [], args := [], vararg := none, kwonlyargs := [], kw_defaults := [], kwarg := none, defaults := [] }
def defBody (s : Stmt) : List Stmt := match s with
  | .FunctionDef _ _ b _ _ _ _ _ _ _ => b
  | _ => []
def defScope (s : Stmt) : Scope := match s with
  | .FunctionDef _ _ _ _ _ _ sc _ _ _ => sc
  | _ => { kind := .function, names := [], isGenerator := false, isCoroutine := false }

/-! ### no exception leaves a def -/
abbrev CX0 : CXT := fun _ _ _ _ _ _ => False
abbrev E0 : XK := fun _ _ _ => False
theorem pass0 {X : Cx} : Passes CX0 X E0 := fun _ _ _ _ _ _ _ h => h.elim

/-! ### a def (or method) of the text as it stands behind the top -/
structure Fun (K : PySem.W.Frag) (x qual : Str) (st : Stmt) (f : Addr) (fd : FuncData) : Prop where
  ex : ∃ (oc : Value) (od : Option Addr) (kV doc pm : Value) (an : Option Addr) (cdv ct : Value) (osl : Array (Option Value)),
    fd = PySem.W.fnOf x qual (defArgs st) (defBody st) (defScope st) .none kV doc pm an cdv ct ∧ K.lookup f = some ⟨oc, od, .func fd, osl⟩ ∧ PySem.W.codeIn K cdv qual = true
  kp : PySem.W.keepIn K (.ref f) = true
section
variable {P : Program} {w : World} {K : PySem.W.Frag} {mg : Str → Option Value} {base : Heap}
/-- THE RULE for a def: its body as a term of rules, and the reading of that term -/
theorem Fun.ok {x qual : Str} {st : Stmt} {f : Addr} {fd : FuncData} {N ps : List Str} {k : Nat} {sp : Sp} (F : Fun K x qual st f fd) (S : FnScope N ps (defScope st)) (len : ∀ vs H Q E, sp vs H Q E → vs.length = ps.length)
    (hbody : ∀ (cdv : Value) (A : Around) (outer : List Env) (s : Shared) (H : Hp) (vs : List V) (Q : VK) (E : XK), Room k (A.deeper (envOfC qual (defScope st) s.heap.objs.size f cdv)) → sp vs H Q E →
      ∃ t, PSs (cxOf CX0 P w K mg base N qual (defScope st) f cdv A outer s H E).nox (defBody st) t ∧ t { nx := fun _ H' => Q .non H', rt := Q } (start N vs) H) : FnOk P w K mg base CX0 (k + 1) f fd ps sp := by
  obtain ⟨oc, od, kV, doc, pm, an, cdv, ct, osl, rfl, lk, hcd⟩ := F.ex
  refine fn_of lk hcd S len fun A outer s H vs Q E hr hsp => ?_
  obtain ⟨t, h, q⟩ := hbody cdv A outer s H vs Q E hr hsp
  exact ⟨t, h.nox, q⟩
/-- how its arguments bind (no defaults): h is «fun _ _ _ _ _ _ us hl => match us, hl with | [_, _], _ => rfl», one _ a parameter -/
theorem Fun.binds {x qual : Str} {st : Stmt} {f : Addr} {fd : FuncData} {ps : List Str} (F : Fun K x qual st f fd)
    (h : ∀ (kV doc pm : Value) (an : Option Addr) (cdv ct : Value) (us : List Value), us.length = ps.length → bindArgs (PySem.W.fnOf x qual (defArgs st) (defBody st) (defScope st) .none kV doc pm an cdv ct) ⟨us, []⟩ = pure (ps.zip us)) : Binds K fd ps [] := by
  obtain ⟨oc, od, kV, doc, pm, an, cdv, ct, osl, rfl, lk, hcd⟩ := F.ex
  exact .all (h kV doc pm an cdv ct)
theorem fun_mk {x qual : Str} {st : Stmt} {f : Addr} {oc : Value} {od an : Option Addr} {osl : Array (Option Value)} {kV doc pm cdv ct : Value} (l : K.lookup f = some ⟨oc, od, .func (PySem.W.fnOf x qual (defArgs st) (defBody st) (defScope st) .none kV doc pm an cdv ct), osl⟩)
    (c : PySem.W.codeIn K cdv qual = true) (k : PySem.W.keepIn K (.ref f) = true) : Fun K x qual st f (PySem.W.fnOf x qual (defArgs st) (defBody st) (defScope st) .none kV doc pm an cdv ct) := ⟨⟨oc, od, kV, doc, pm, an, cdv, ct, osl, rfl, l, c⟩, k⟩
end
/-! ### expressions in short: the name that stands in the i-th slot -/
section
variable {X : Cx}
theorem pv (i : Nat) {x : Str} {pos : Pos} (hN : X.N[i]? = some x := by rfl) (hv : Vis X.env.scope x := by first | exact Or.inl rfl | exact Or.inr (Or.inl rfl) | exact Or.inr (Or.inr rfl)) (hd : (x == ("__debug__" : Str)) = false := by decide)
    (hcd : (x == ("__classdict__" : Str)) = false := by decide) : PE X (.Name x pos) (tVar i) := pe_var hN hv hd hcd
end

/-! ### tests -/
theorem iteF {A B : Prop} (h : B) : if false = true then A else B := by
  rw [if_neg Bool.false_ne_true]
  exact h
theorem iteT {A B : Prop} (h : A) : if true = true then A else B := by
  rw [if_pos rfl]
  exact h
theorem ite2 {c A B : Prop} [Decidable c] (h1 : c → A) (h2 : ¬ c → B) : if c then A else B := by
  by_cases h : c
  · rw [if_pos h]
    exact h1 h
  · rw [if_neg h]
    exact h2 h
/-! ### heaps -/
/-- all that was tracked is as it was -/
def Same (H H' : Hp) : Prop := ∀ b o, H b = some o → H' b = some o
theorem Same.refl (H : Hp) : Same H H := fun _ _ h => h
theorem Same.trans {H H1 H2 : Hp} (a : Same H H1) (b : Same H1 H2) : Same H H2 := fun c o h => b c o (a c o h)
theorem Same.free {H H' : Hp} (e : Same H H') {l : Addr} (h : H' l = Option.none) : H l = Option.none := by
  cases q : H l with
  | none => rfl
  | some o =>
    rw [e l o q] at h
    cases h
theorem Same.seq {K : PySem.W.Frag} {H H' : Hp} {a : Addr} {xs : List V} (e : Same H H') (h : SqL K H a xs) : SqL K H' a xs := by
  rcases h with (h | ⟨o, h⟩) | h
  · exact .inl (.inl (e _ _ h))
  · exact .inl (.inr ⟨o, e _ _ h⟩)
  · exact .inr h

end L2


/-! ## comprehensions, over the layer -/
namespace L2
open PySem PySem.Spec PyProof.Rows

/-- the tests of a comprehension -/
def PTs (X : Cx) (ifs : List Expr) (t : TT) : Prop :=
  ∀ (pins : List (Addr × Obj)) (s : Shared) (σ : St) (H : Hp) (Q : Bool → Hp → Prop), Inv X pins σ H s → t σ H Q →
    wpAny (model X.prog X.w) X.A (forIn ifs true fun c r => if r = true then do let ok ← isTrue c X.env (eval c X.env); pure (ForInStep.yield ok) else pure (ForInStep.yield r)) (TP X pins σ Q) X.xe s
def tYes : TT := fun _ H Q => Q true H
theorem pts_nil {X : Cx} : PTs X [] tYes := fun _ _ _ H _ I h => wpAny_tests_nil ⟨H, I, h⟩
/-- a comprehension's turn, whatever the iterator keeps -/
theorem compLoop_any {prog : Program} {w : World} {A : Around} {s : Shared} {R : Result → Shared → Prop} {elt target iter : Expr} {ifs : List Expr} {scope : Scope} {pos : Pos} {it acc : Value} {env : Env} (J : Nat → Shared → Prop)
    (turn : ∀ n s, J n s → wpAny (model prog w) A (pyNext it) (fun r s1 => match r with
      | none => R (.ok .next) s1
      | some v => wpAny (model prog w) A (letOwnedTupleGo target it v) (fun _ s2 => wpAny (model prog w) A (assign target env v) (fun _ s3 =>
          wpAny (model prog w) A (forIn ifs true fun c r => if r = true then do let ok ← isTrue c env (eval c env); pure (ForInStep.yield ok) else pure (ForInStep.yield r)) (fun ok s4 =>
            if ok = true then wpAny (model prog w) A (eval elt env) (fun x s5 =>
              wpAny (model prog w) A (call (.builtin "list.append") [acc, x]) (fun _ s6 => ∃ m, m < n ∧ J m s6) (fun _ _ => False) s5) (fun _ _ => False) s4
            else ∃ m, m < n ∧ J m s4) (fun _ _ => False) s3) (fun _ _ => False) s2) (fun _ _ => False) s1) (fun _ _ => False) s)
    (n : Nat) (h : J n s) : codeAny (model prog w) A (.compLoop (.ListComp elt [⟨target, iter, ifs, 0⟩] scope pos) 0 it acc env) R s := by
  refine codeAny_loop rfl J (fun n s hI => ?_) n h
  show wpAny _ A ((compTurn (.ListComp elt [⟨target, iter, ifs, 0⟩] scope pos) 0 it acc env).onRaise (fun x => do noteFrame x env; theTreesLotGoes x)) _ _ s
  refine wpAny_noted ?_
  rw [compTurn_list]
  refine wpAny_bind (wpAny_standAt (wpAny_bind (wpAny_mono (turn n s hI) (fun r s1 h1 => ?_) fun _ _ z => z.elim)))
  cases r with
  | none => exact wpAny_pure h1
  | some v =>
    refine wpAny_bind (wpAny_mono h1 (fun _ s2 h2 => ?_) fun _ _ z => z.elim)
    refine wpAny_bind (wpAny_mono h2 (fun _ s3 h3 => wpAny_bind (wpAny_mono h3 (fun ok s4 h4 => ?_) fun _ _ z => z.elim)) fun _ _ z => z.elim)
    cases ok with
    | false => exact wpAny_pure ⟨rfl, h4⟩
    | true =>
      exact wpAny_bind (wpAny_bind (wpAny_mono h4 (fun x s5 h5 => wpAny_bind (wpAny_mono h5 (fun _ s6 h6 => wpAny_pure (wpAny_pure ⟨rfl, h6⟩)) fun _ _ z => z.elim)) fun _ _ z => z.elim))

/-! ### the cells that a block sees -/
def closL (cells : List (Str × Addr)) : List (Str × NameKind) → List (Str × Addr) → List (Str × Addr)
  | [], acc => acc
  | (n, k) :: r, acc => if k == .free then closL cells r ((n, (cells.lookup n).getD 0) :: acc) else closL cells r acc
theorem closure_go {env : Env} : ∀ (names : List (Str × NameKind)) (acc : List (Str × Addr)), (∀ y ∈ names, y.2 = .free → ∃ c, env.cells.lookup y.1 = some c) →
    (forIn names acc fun (x : Str × NameKind) (cs : List (Str × Addr)) => (if (x.2 == .free) = true then do let a ← cellOf env x.1; pure (ForInStep.yield ((x.1, a) :: cs)) else pure (ForInStep.yield cs) : Sem (ForInStep (List (Str × Addr))))) = pure (closL env.cells names acc)
  | [], acc, _ => rfl
  | (n, k) :: r, acc, h => by
    have ih := fun acc => closure_go r acc fun y hy => h y (List.mem_cons_of_mem _ hy)
    rw [List.forIn_cons]
    unfold closL
    by_cases hk : (k == NameKind.free) = true
    · obtain ⟨c, hc⟩ := h (n, k) List.mem_cons_self (by simpa using hk)
      have e : cellOf env n = pure c := by
        unfold cellOf
        rw [show env.cells.lookup n = some c from hc]
      simp only [hk, if_true, e, pure_bind]
      rw [ih, show env.cells.lookup n = some c from hc]
      rfl
    · simp only [hk, Bool.false_eq_true, if_false, pure_bind]
      exact ih acc
theorem closure_of {env : Env} {scope : Scope} (h : ∀ y ∈ scope.names, y.2 = .free → ∃ c, env.cells.lookup y.1 = some c) : closureFor scope env = pure (closL env.cells scope.names []) := by
  have e := closure_go scope.names [] h
  unfold closureFor
  simp only [bind_pure] at e ⊢
  exact e
theorem closL_sub {env : Env} : ∀ (names : List (Str × NameKind)) (acc : List (Str × Addr)), (∀ y ∈ names, y.2 = .free → ∃ c, env.cells.lookup y.1 = some c) → (∀ x c, acc.lookup x = some c → env.cells.lookup x = some c) →
    ∀ x c, (closL env.cells names acc).lookup x = some c → env.cells.lookup x = some c
  | [], acc, _, ha, x, c, e => ha x c e
  | (n, k) :: r, acc, h, ha, x, c, e => by
    unfold closL at e
    by_cases hk : (k == NameKind.free) = true
    · rw [if_pos hk] at e
      obtain ⟨d, hd⟩ := h (n, k) List.mem_cons_self (by simpa using hk)
      refine closL_sub r _ (fun y hy => h y (List.mem_cons_of_mem _ hy)) (fun y b q => ?_) x c e
      rw [List.lookup_cons] at q
      by_cases hy : (y == n) = true
      · rw [hy] at q
        have hy' : y = n := by simpa using hy
        have hd' : env.cells.lookup n = some d := hd
        rw [hd'] at q
        have q' : d = b := Option.some.inj q
        rw [hy', hd', q']
      · have hy' : (y == n) = false := by simpa using hy
        rw [hy'] at q
        exact ha y b q
    · rw [if_neg hk] at e
      exact closL_sub r acc (fun y hy => h y (List.mem_cons_of_mem _ hy)) ha x c e
theorem closL_acc {cells : List (Str × Addr)} : ∀ (names : List (Str × NameKind)) (acc : List (Str × Addr)) (x : Str), (acc.lookup x).isSome = true → ((closL cells names acc).lookup x).isSome = true
  | [], _, _, h => h
  | (n, k) :: r, acc, x, h => by
    unfold closL
    by_cases hk : (k == NameKind.free) = true
    · rw [if_pos hk]
      refine closL_acc r _ x ?_
      rw [List.lookup_cons]
      by_cases hx : (x == n) = true
      · rw [hx]; rfl
      · have hx' : (x == n) = false := by simpa using hx
        rw [hx']; exact h
    · rw [if_neg hk]
      exact closL_acc r acc x h
theorem closL_has {cells : List (Str × Addr)} : ∀ (names : List (Str × NameKind)) (acc : List (Str × Addr)) (x : Str), (x, NameKind.free) ∈ names → ((closL cells names acc).lookup x).isSome = true
  | [], _, _, h => nomatch h
  | (n, k) :: r, acc, x, h => by
    unfold closL
    rcases List.mem_cons.mp h with e | h
    · cases e
      rw [if_pos (by rfl)]
      refine closL_acc r _ _ ?_
      rw [List.lookup_cons]
      simp
    · by_cases hk : (k == NameKind.free) = true
      · rw [if_pos hk]; exact closL_has r _ x h
      · rw [if_neg hk]; exact closL_has r _ x h
theorem lookup_relabel {env : Env} : ∀ {names : List (Str × NameKind)} {x : Str} {k : NameKind}, (names.map fun (n, k) => if (k == NameKind.free && env.scope.kind == .function && env.kindOf n == some .cell) then (n, NameKind.cell) else (n, k)).lookup x = some k →
    (k = .cell ∨ k = .free) → (x, NameKind.free) ∈ names ∨ (x, NameKind.cell) ∈ names
  | [], _, _, h, _ => by simp at h
  | (n, q) :: r, x, k, h, hk => by
    have h' : List.lookup x ((if (q == NameKind.free && env.scope.kind == .function && env.kindOf n == some .cell) = true then (n, NameKind.cell) else (n, q)) :: r.map fun (n, k) => if (k == NameKind.free && env.scope.kind == .function && env.kindOf n == some .cell) then (n, NameKind.cell) else (n, k)) = some k := h
    by_cases hc : (q == NameKind.free && env.scope.kind == .function && env.kindOf n == some .cell) = true
    · rw [if_pos hc, List.lookup_cons] at h'
      have hq : q = .free := by
        simp only [Bool.and_eq_true, beq_iff_eq] at hc
        exact hc.1.1
      by_cases hx : (x == n) = true
      · have hx' : x = n := by simpa using hx
        subst hx'; subst hq
        exact .inl List.mem_cons_self
      · have hx' : (x == n) = false := by simpa using hx
        rw [hx'] at h'
        rcases lookup_relabel (env := env) h' hk with z | z
        · exact .inl (List.mem_cons_of_mem _ z)
        · exact .inr (List.mem_cons_of_mem _ z)
    · rw [if_neg hc, List.lookup_cons] at h'
      by_cases hx : (x == n) = true
      · rw [hx] at h'
        have hx' : x = n := by simpa using hx
        subst hx'
        have e : q = k := Option.some.inj h'
        subst e
        rcases hk with rfl | rfl
        · exact .inr List.mem_cons_self
        · exact .inl List.mem_cons_self
      · have hx' : (x == n) = false := by simpa using hx
        rw [hx'] at h'
        rcases lookup_relabel (env := env) h' hk with z | z
        · exact .inl (List.mem_cons_of_mem _ z)
        · exact .inr (List.mem_cons_of_mem _ z)
theorem relabel_free {env : Env} : ∀ {names : List (Str × NameKind)} {x : Str}, names.lookup x = some .free →
    (names.map fun (n, k) => if (k == NameKind.free && env.scope.kind == .function && env.kindOf n == some .cell) then (n, NameKind.cell) else (n, k)).lookup x = some .cell ∨
    (names.map fun (n, k) => if (k == NameKind.free && env.scope.kind == .function && env.kindOf n == some .cell) then (n, NameKind.cell) else (n, k)).lookup x = some .free
  | [], _, h => by simp at h
  | (n, q) :: r, x, h => by
    show List.lookup x ((if (q == NameKind.free && env.scope.kind == .function && env.kindOf n == some .cell) = true then (n, NameKind.cell) else (n, q)) :: _) = _ ∨ List.lookup x ((if (q == NameKind.free && env.scope.kind == .function && env.kindOf n == some .cell) = true then (n, NameKind.cell) else (n, q)) :: _) = _
    rw [List.lookup_cons] at h
    by_cases hc : (q == NameKind.free && env.scope.kind == .function && env.kindOf n == some .cell) = true
    · rw [if_pos hc, List.lookup_cons]
      by_cases hx : (x == n) = true
      · rw [hx]; exact .inl rfl
      · have hx' : (x == n) = false := by simpa using hx
        rw [hx'] at h ⊢
        exact relabel_free h
    · rw [if_neg hc, List.lookup_cons]
      by_cases hx : (x == n) = true
      · rw [hx] at h ⊢; exact .inr h
      · have hx' : (x == n) = false := by simpa using hx
        rw [hx'] at h ⊢
        exact relabel_free h

/-! ### the block -/
/-- the context of a comprehension's block -/
def cxC (X : Cx) (N' : List Str) (scope : Scope) (C : Addr) (s : Shared) (H : Hp) (fp : List Addr) : Cx where
  prog := X.prog
  w := X.w
  K := X.K
  mg := X.mg
  base := X.base
  A := X.A
  N := N'
  s₀ := s
  H₀ := H
  env := compEnvC scope (closL X.env.cells scope.names []) C X.env
  outer := X.stack
  stack := X.stack
  ex := fp
  fn := fun _ => false
  calm := X.calm
  pn := []
  xe := fun _ _ => False
/-- the block's values at a turn's start: its own names unknown, the seen ones as they are -/
def σC (o : Nat) (fr : List Nat) (σ : St) : St := List.replicate o none ++ fr.map fun j => (σ[j]?).join
/-- what the text must be like: sc0, N: the scope and the names around; names N' of the block, its o own ones first, behind them those it sees, at the places fr of N -/
structure CompScope (sc0 : Scope) (N N' : List Str) (o : Nat) (fr : List Nat) (scope : Scope) : Prop where
  kind : scope.kind = .function
  nocell : (scope.names.all fun y => y.2 != .cell) = true
  loc : (scope.names.all fun y => y.2 != .local || scope.names.lookup y.1 == some .local) = true
  free : (scope.names.all fun y => y.2 != .free || sc0.names.lookup y.1 == some .cell || sc0.names.lookup y.1 == some .free) = true
  len : N'.length = o + fr.length
  sees : ((List.range fr.length).all fun j => match fr[j]? with
    | none => false
    | some y => match N[y]? with
      | none => false
      | some x => N'[o + j]? == some x && scope.names.lookup x == some .free) = true
/-- the reading. W: turn, measure, the items so far, heap -/
def LcR (J : It) (g : TG) (tt : TT) (te : TE) (o : Nat) (fr : List Nat) (σ : St) (H1 : Hp) (Q : VK) : Prop := ∃ W : Nat → Nat → List V → Hp → Prop, (∃ m, W 0 m [] H1) ∧ ∀ i m ys H, W i m ys H →
  (J.stop i H ∧ ys.length ≤ sizeLine ∧ ∀ p, H p = none → Q (.ref p) (upd H p (.lst ys))) ∨
  (J.go i H ∧ ys.length < sizeLine ∧ ∀ x H', J.yld i H x H' → g x (σC o fr σ) H' fun σ2 H2 => tt σ2 H2 fun b H3 => if b = true then te σ2 H3 fun y H4 => ∃ m', m' < m ∧ W (i + 1) m' (ys ++ [y]) H4 else ∃ m', m' < m ∧ W (i + 1) m' ys H3)
def tLc (wi : TI) (g : TG) (tt : TT) (te : TE) (o : Nat) (fr : List Nat) : TE := fun σ H Q => wi σ H fun J H1 => LcR J g tt te o fr σ H1 Q
/-- a target that stores into the own names alone -/
def OwnG (o : Nat) (g : TG) : Prop := ∀ (x : V) (ow fr : St) (H : Hp) (Q : St → Hp → Prop), ow.length = o → g x (ow ++ fr) H Q → g x (ow ++ fr) H fun σ2 H2 => (∃ ow', ow'.length = o ∧ σ2 = ow' ++ fr) ∧ Q σ2 H2
theorem own_name {o i : Nat} (h : i < o) : OwnG o (gName i) := fun x ow fr H Q hl q => ⟨⟨ow.set i (some x), by rw [List.length_set]; exact hl, by rw [List.set_append_left _ _ (by omega)]⟩, q⟩
def OwnGs (o : Nat) (g : TGs) : Prop := ∀ (xs : List V) (ow fr : St) (H : Hp) (Q : St → Hp → Prop), ow.length = o → g xs (ow ++ fr) H Q → g xs (ow ++ fr) H fun σ2 H2 => (∃ ow', ow'.length = o ∧ σ2 = ow' ++ fr) ∧ Q σ2 H2
theorem own_nil {o : Nat} : OwnGs o gNil := fun _ ow _ _ _ hl ⟨e, q⟩ => ⟨e, ⟨ow, hl, rfl⟩, q⟩
theorem own_cons {o i : Nat} {u : TGs} (h : i < o) (h2 : OwnGs o u) : OwnGs o (gCons (gName i) u) := by
  rintro xs ow fr H Q hl ⟨v, r, rfl, q⟩
  refine ⟨v, r, rfl, ?_⟩
  have q' : u r ((ow ++ fr).set i (some v)) H Q := q
  show u r ((ow ++ fr).set i (some v)) H _
  rw [List.set_append_left _ _ (by omega)] at q' ⊢
  exact h2 r (ow.set i (some v)) fr H Q (by rw [List.length_set]; exact hl) q'
theorem own_tup {K : PySem.W.Frag} {o n : Nat} {u : TGs} (h : OwnGs o u) : OwnG o (gTup K n u) := by
  rintro x ow fr H Q hl ⟨a, xs, rfl, hs, hn, q⟩
  exact ⟨a, xs, rfl, hs, hn, h xs ow fr H Q hl q⟩

section
variable {X : Cx} {pins : List (Addr × Obj)} {σ : St} {H : Hp} {s : Shared} {N' : List Str} {o : Nat} {fr : List Nat} {scope : Scope} {fp : List Addr}
abbrev accObj (us : List Value) : Obj := { cls := .type "list", data := .seq us.toArray us.length }
theorem CompScope.nocell' {sc0 : Scope} {N : List Str} (S : CompScope sc0 N N' o fr scope) : ∀ y ∈ scope.names, y.2 ≠ .cell := fun y hy e => by
  have q := List.all_eq_true.mp S.nocell y hy
  rw [e] at q
  exact absurd q (by decide)
theorem CompScope.loc' {sc0 : Scope} {N : List Str} (S : CompScope sc0 N N' o fr scope) : ∀ y ∈ scope.names, y.2 = .local → scope.names.lookup y.1 = some .local := fun y hy e => by
  have q := List.all_eq_true.mp S.loc y hy
  rw [e] at q
  simpa using q
theorem CompScope.free' {sc0 : Scope} {N : List Str} (S : CompScope sc0 N N' o fr scope) (hs : X.env.scope = sc0) : ∀ y ∈ scope.names, y.2 = .free → X.env.kindOf y.1 = some .cell ∨ X.env.kindOf y.1 = some .free := fun y hy e => by
  have q := List.all_eq_true.mp S.free y hy
  rw [e] at q
  show X.env.scope.names.lookup y.1 = _ ∨ X.env.scope.names.lookup y.1 = _
  rw [hs]
  simpa using q
theorem CompScope.sees' {sc0 : Scope} {N : List Str} (S : CompScope sc0 N N' o fr scope) : ∀ j y, fr[j]? = some y → ∃ x, N[y]? = some x ∧ N'[o + j]? = some x ∧ scope.names.lookup x = some .free := fun j y e => by
  have hj : j < fr.length := (List.getElem?_eq_some_iff.mp e).1
  have q := List.all_eq_true.mp S.sees j (List.mem_range.mpr hj)
  rw [e] at q
  dsimp only at q
  cases ex : N[y]? with
  | none => rw [ex] at q; cases q
  | some x =>
    rw [ex] at q
    dsimp only at q
    rw [Bool.and_eq_true, beq_iff_eq, beq_iff_eq] at q
    exact ⟨x, rfl, q.1, q.2⟩
theorem CompScope.cells {sc0 : Scope} {N0 : List Str} (S : CompScope sc0 N0 N' o fr scope) (hs : X.env.scope = sc0) (I : Inv X pins σ H s) : ∀ y ∈ scope.names, y.2 = .free → ∃ c, X.env.cells.lookup y.1 = some c := fun y hy e => I.ok.has y.1 (S.free' hs y hy e)
theorem CompScope.sub {sc0 : Scope} {N0 : List Str} (S : CompScope sc0 N0 N' o fr scope) (hs : X.env.scope = sc0) (I : Inv X pins σ H s) : ∀ x c, (closL X.env.cells scope.names []).lookup x = some c → X.env.cells.lookup x = some c :=
  closL_sub (env := X.env) scope.names [] (S.cells hs I) (fun _ _ z => nomatch z)
/-- the block's entry: the list at D, the block's names at C -/
theorem Inv.block {sc0 : Scope} {N0 : List Str} (S : CompScope sc0 N0 N' o fr scope) (hs : X.env.scope = sc0) (hN : X.N = N0) (I : Inv X pins σ H s) (hf : ∀ b ∈ fp, FpOk X pins H b) (hfl : ∀ b ∈ fp, b < s.heap.objs.size) {h1 : Heap} {C D : Addr} {m : Str → Option Value} {us : List Value} {t : Nat}
    (hC : s.heap.objs.size ≤ C) (hD : s.heap.objs.size ≤ D) (hDC : D ≠ C)
    (old : ∀ b ob, s.heap.get? b = some ob → h1.get? b = some ob) (hn : h1.Ns C m) (ha : h1.get? D = some (accObj us)) : Inv (cxC X N' scope C s H fp) [(D, accObj us)] (σC o fr σ) H { s with heap := h1, toks := t } := by
  have sub := S.sub hs I
  have frC : ∀ b ∈ frs X.stack, b < s.heap.objs.size := fun b hb => by
    obtain ⟨_, ob, ho, _⟩ := I.stack.mem hb
    exact Heap.lt_size ho
  refine ⟨⟨I.ok.mod, S.kind, I.ok.glob, I.ok.blt, hC, fun x y c h1 h2 => I.ok.inj x y c (sub x c h1) (sub y c h2), fun x hx => ?_, fun x c hfx _ => (nomatch hfx), I.ok.hd, I.ok.frames, .inl rfl, fun b hb => ?_, I.bs, Nat.le_trans I.ok.bsz I.sz, fun b ob e hb => ?_, fun b hb hb' => ?_, I.stack, I.stkFree⟩,
    rfl, I.bare, Un.kept old, ⟨m, hn, fun i x v e1 e2 e3 => ?_⟩, fun x c e => ?_, I.hok.fresh hC, fun x c e => I.freeC x c (sub x c e), fun p hp => ?_, I.hok.kept old, ?_⟩
  · have hx' : (relabel scope X.env).names.lookup x = some .cell ∨ (relabel scope X.env).names.lookup x = some .free := hx
    have key : (x, NameKind.free) ∈ scope.names := by
      rcases hx' with z | z
      · rcases lookup_relabel (env := X.env) z (.inl rfl) with q | q
        · exact q
        · exact absurd rfl (S.nocell' _ q)
      · rcases lookup_relabel (env := X.env) z (.inr rfl) with q | q
        · exact q
        · exact absurd rfl (S.nocell' _ q)
    exact Option.isSome_iff_exists.mp (closL_has (cells := X.env.cells) scope.names [] x key)
  · obtain ⟨f0, f1, f2, f3, f4, f5⟩ := hf b hb
    exact ⟨Nat.ne_of_lt (Nat.lt_of_lt_of_le (hfl b hb) hC), fun x c e => f4 x c (sub x c e)⟩
  · obtain ⟨f0, f1, f2, f3, f4, f5⟩ := hf b hb
    rcases f3 with z | z
    · exact I.ok.noex b ob e z
    · exact absurd (Nat.lt_of_lt_of_le (Heap.lt_size e) (Nat.le_trans I.ok.bsz z)) (Nat.lt_irrefl _)
  · obtain ⟨f0, f1, f2, f3, f4, f5⟩ := hf b hb
    rcases List.mem_cons.mp (I.stkSub b hb') with z | z
    · exact f1 z
    · exact f2 z
  · unfold σC at e2
    by_cases hi : i < o
    · rw [List.getElem?_append_left (by rw [List.length_replicate]; exact hi), List.getElem?_replicate, if_pos hi] at e2
      cases e2
    · rw [List.getElem?_append_right (by rw [List.length_replicate]; exact Nat.not_lt.mp hi), List.length_replicate, List.getElem?_map] at e2
      cases hy : fr[i - o]? with
      | none => rw [hy] at e2; cases e2
      | some y =>
        rw [hy] at e2
        have e2' : (σ[y]?).join = some v := Option.some.inj e2
        have e3' : σ[y]? = some (some v) := by
          cases q : σ[y]? with
          | none => rw [q] at e2'; cases e2'
          | some z => rw [q] at e2'; exact congrArg some e2'
        obtain ⟨x', s2, s1, s3⟩ := S.sees' (i - o) y hy
        rw [← hN] at s2
        rw [show o + (i - o) = i by omega] at s1
        have ex : x = x' := by
          have e1' : N'[i]? = some x := e1
          rw [e1'] at s1
          exact Option.some.inj s1
        subst ex
        have hmem := PySem.mem_of_lookup s3
        obtain ⟨m0, _, hl⟩ := I.loc
        have hk := S.free' hs (x, .free) hmem rfl
        obtain ⟨u, ru, lk⟩ := hl y x v s2 e3' (by rcases hk with z | z; exact .inr (.inl z); exact .inr (.inr z))
        refine ⟨u, ru, .inr ⟨relabel_free (env := X.env) s3, ?_⟩⟩
        obtain ⟨c', hc'⟩ := Option.isSome_iff_exists.mp (closL_has (cells := X.env.cells) scope.names [] x hmem)
        refine ⟨c', hc', ?_⟩
        rcases lk with ⟨z, _⟩ | ⟨_, c, e, ob, ho, hd⟩
        · rcases hk with z' | z'
          · rw [z] at z'; cases z'
          · rw [z] at z'; cases z'
        · have ec : c = c' := by
            have := sub x c' hc'
            rw [e] at this
            exact Option.some.inj this
          subst ec
          exact ⟨ob, old _ _ ho, hd⟩
  · obtain ⟨v, ob, ho, hd⟩ := I.cell x c (sub x c e)
    exact ⟨v, ob, old _ _ ho, hd⟩
  · have e : p = (D, accObj us) := by simpa using (show p ∈ ([] : List (Addr × Obj)) ++ [(D, accObj us)] from hp)
    subst e
    refine ⟨ha, I.hok.fresh hD, hDC, fun z => absurd (Nat.lt_of_lt_of_le (frC D z) hD) (Nat.lt_irrefl _), fun v z => nomatch z⟩
  · show (σC o fr σ).length = N'.length
    unfold σC
    rw [List.length_append, List.length_replicate, List.length_map, S.len]
/-- the block's end, seen from the def: the new list is tracked, the block's names are pinned -/
theorem Inv.unblock (I : Inv X pins σ H s) (hf : ∀ b ∈ fp, FpOk X pins H b) {C D : Addr} {us : List Value} {ys : List V} {σ' : St} {H' : Hp} {s' : Shared} (hC : s.heap.objs.size ≤ C) (hD : s.heap.objs.size ≤ D) (hDC : D ≠ C)
    (I' : Inv (cxC X N' scope C s H fp) [(D, accObj us)] σ' H' s') (r : Vals ys us) (hz : ys.length ≤ sizeLine) : ∃ oC m, s'.heap.get? C = some oC ∧ s'.heap.Ns C m ∧ Inv X (pins ++ [(C, oC)]) σ (upd H' D (.lst ys)) s' := by
  obtain ⟨aD, nD, _, _, _⟩ := I'.pin (D, accObj us) (by simp)
  have aD : s'.heap.get? D = some (accObj us) := aD
  have nD : H' D = none := nD
  have un : Un (frs X.stack) fp H H' s.heap s'.heap := I'.base
  have lt : ∀ b u, H b = some u → b ≠ D := fun b u e => Nat.ne_of_lt (Nat.lt_of_lt_of_le (I.hok.lt e) hD)
  have un2 : Un (frs X.stack) fp H (upd H' D (.lst ys)) s.heap s'.heap := by
    refine ⟨un.keep, un.slot, fun b ob e n hx => ?_, un.there, fun b xs e => ?_, fun b ob u e => ?_, fun b ps e => ?_⟩
    · rw [upd_ne (Nat.ne_of_lt (Nat.lt_of_lt_of_le (Heap.lt_size e) hD))]
      exact un.free b ob e n hx
    · rw [upd_ne (lt b _ e)]; exact un.tups b xs e
    · rw [upd_ne (lt b _ e)]; exact un.frzs b ob u e
    · obtain ⟨more, q⟩ := un.tbls b ps e
      exact ⟨more, by rw [upd_ne (lt b _ e)]; exact q⟩
  have hok : HOk X.prog X.w (upd H' D (.lst ys)) s'.heap := fun b u e => by
    by_cases hb : b = D
    · subst hb
      rw [upd_same] at e
      cases e
      exact ⟨hz, us, us.length, r, aD⟩
    · rw [upd_ne hb] at e
      exact (I'.hok b u e).stay (fun c v _ q => q) (fun c q => by rw [upd_ne (ne_of_none q nD)]; exact q) fun c xs q => by rw [upd_ne (ne_of_none q nD)]; exact q
  have os : s'.os = s.os := I'.os
  have J : Inv X pins σ (upd H' D (.lst ys)) s' := I.call' (ch := fp) os un2 hok I'.bare fun b hb => by
    obtain ⟨f0, f1, f2, f3, f4, f5⟩ := hf b hb
    exact ⟨f3, f1, f4, f5⟩
  obtain ⟨m, hn, _⟩ := I'.loc
  have hn : s'.heap.Ns C m := hn
  obtain ⟨oC, es, ep, hoC, hdC, _⟩ := id hn
  refine ⟨oC, m, hoC, hn, J.pins_of fun p hp => ?_⟩
  rcases List.mem_append.mp hp with z | z
  · exact J.pin p (List.mem_append_right _ z)
  · have e : p = (C, oC) := by simpa using z
    subst e
    have nC : H' C = none := I'.free
    refine ⟨hoC, by rw [upd_ne (Ne.symm hDC)]; exact nC, Nat.ne_of_gt (Nat.lt_of_lt_of_le I.lt hC), I.nofs hC, fun v z => ?_⟩
    have z' : oC.data = .cell v := z
    rw [hdC] at z'
    cases z'
end

section
variable {X : Cx} {N' : List Str} {o : Nat} {fr : List Nat} {scope : Scope} {elt tg iter : Expr} {ifs : List Expr} {pos : Pos} {wi : TI} {g : TG} {tt : TT} {te : TE}
/-- a comprehension runs; use: what is done with the list while the block's names still stand -/
theorem lc_run (hc : X.calm = true) {sc0 : Scope} {N0 : List Str} (S : CompScope sc0 N0 N' o fr scope) (hi : PI X tg iter wi) (ho : OwnG o g)
    (hg : ∀ (C : Addr) (s : Shared) (H : Hp) (fp : List Addr), PG (cxC X N' scope C s H fp) tg g)
    (ht : ∀ (C : Addr) (s : Shared) (H : Hp) (fp : List Addr), PTs (cxC X N' scope C s H fp) ifs tt)
    (he : ∀ (C : Addr) (s : Shared) (H : Hp) (fp : List Addr), PE (cxC X N' scope C s H fp) elt te)
    (hs : ∀ x, foldedSetIterable iter X.env x = pure x) (hsc : X.env.scope = sc0) (hN0 : X.N = N0) {pins : List (Addr × Obj)} {s : Shared} {σ : St} {H : Hp} {Qv : VK} (I : Inv X pins σ H s) (h : tLc wi g tt te o fr σ H Qv)
    {use : Option (Value → Sem Unit)} {Q : Value → Shared → Prop} {E : Value → Shared → Prop}
    (hE : ∀ e s', X.xe e s' → E e s')
    (fin : ∀ (C oC D : _) (m : Str → Option Value) (H' : Hp) (ys : List V) (s' : Shared), Inv X (pins ++ [(C, oC)]) σ (upd H' D (.lst ys)) s' → Qv (.ref D) (upd H' D (.lst ys)) → s'.heap.Ns C m → H' C = none → C ≠ D →
      C ≠ X.env.locals → X.s₀.heap.objs.size ≤ C → (∀ x c, X.env.cells.lookup x = some c → c ≠ C) → (∀ p ∈ X.pn ++ pins, p.1 ≠ C) → compPost (model X.prog X.w) X.A E use Q (.ref D) C (.ok .next) s') :
    wpAny (model X.prog X.w) X.A (comprehension (.ListComp elt [⟨tg, iter, ifs, 0⟩] scope pos) scope X.env (firstIterPos [⟨tg, iter, ifs, 0⟩] pos) (newList []) false (eval iter X.env) use) Q E s := by
  refine wpAny_comprehension_free (use := use) rfl hs (closure_of (S.cells hsc I)) S.kind S.loc' (wpAny_mono (hi pins s σ H _ I h) (fun xv s1 h1 => wpAny_mono h1 (fun itv s2 h2 => ?_) hE) hE)
  obtain ⟨it, fp, tn, J, H2, rfl, I2, T, st2, f2, W, ⟨m0, w0⟩, turn⟩ := h2
  have hfl : ∀ b ∈ fp, b < s2.heap.objs.size := fun b hb => by
    obtain ⟨ob, e, _⟩ := T.obj 0 _ st2 b hb
    exact Heap.lt_size e
  refine wpAny_newObj_type (wpAny_newFunctionEnv S.nocell' (by intro y hy; simp at hy) (fun h1 hns1 hsb1 => ?_) S.kind)
  dsimp only at hns1 hsb1 ⊢
  generalize hH2 : s2.heap.push { cls := .type "list", dict := none, data := .seq ([] : List Value).toArray } = G at hns1 hsb1 ⊢
  have hCe : G.objs.size = s2.heap.objs.size + 1 := by rw [← hH2, Heap.size_push]
  have hC : s2.heap.objs.size ≤ G.objs.size := by rw [hCe]; exact Nat.le_succ _
  have hDC : s2.heap.objs.size ≠ G.objs.size := by rw [hCe]; exact Nat.ne_of_lt (Nat.lt_succ_self _)
  have old : ∀ b ob, s2.heap.get? b = some ob → h1.get? b = some ob := fun b ob e =>
    hsb1.extBut b ob (Nat.ne_of_lt (Nat.lt_of_lt_of_le (Heap.lt_size e) hC)) (Heap.get?_push_of_some _ (hH2 ▸ Heap.get?_push_of_some _ e))
  have hacc : h1.get? s2.heap.objs.size = some (accObj []) := hsb1.extBut _ _ hDC (Heap.get?_push_of_some _ (hH2 ▸ Heap.get?_push_size _ rfl))
  have st1 : tn 0 h1 := T.keep _ _ _ st2 fun b _ ob e => old b ob e
  have fpC : ∀ {us : List Value} {H' : Hp}, (∀ b ∈ fp, H' b = none) → ∀ b ∈ fp, FpOk (cxC X N' scope G.objs.size s2 H2 fp) [(s2.heap.objs.size, accObj us)] H' b := fun {us H'} hn b hb => by
    obtain ⟨f0, f1, f3, f4, f5, f6⟩ := f2 b hb
    refine ⟨hn b hb, Nat.ne_of_lt (Nat.lt_of_lt_of_le (hfl b hb) hC), fun z => ?_, .inl hb, fun x c e => f5 x c (S.sub hsc I2 x c e), fun p hp => ?_⟩
    · rcases List.mem_cons.mp (I2.stkSub b z) with q | q
      · exact f1 q
      · exact f3 q
    · have e : p = (s2.heap.objs.size, accObj us) := by simpa using (show p ∈ ([] : List (Addr × Obj)) ++ [(s2.heap.objs.size, accObj us)] from hp)
      subst e
      exact Nat.ne_of_gt (hfl b hb)
  have loop : ∀ s3 : Shared, s3 = { s2 with heap := h1, toks := s2.toks + ([] : List (Str × Value)).length } →
      codeAny (model X.prog X.w) X.A (.compLoop (.ListComp elt [⟨tg, iter, ifs, 0⟩] scope pos) 0 (.ref it) (.ref s2.heap.objs.size) (compEnvC scope (closL X.env.cells scope.names []) G.objs.size X.env))
        (compPost (model X.prog X.w) X.A E use Q (.ref s2.heap.objs.size) G.objs.size) s3 := by
    rintro s3 rfl
    refine compLoop_any (fun n s' => ∃ i σ' H' ys us, Inv (cxC X N' scope G.objs.size s2 H2 fp) [(s2.heap.objs.size, accObj us)] σ' H' s' ∧ σ' = σC o fr σ ∧ Vals ys us ∧ tn i s'.heap ∧ (∀ b ∈ fp, H' b = none) ∧ W i n ys H') ?_ m0
      ⟨0, _, H2, [], [], I2.block S hsc hN0 f2 hfl hC (Nat.le_refl _) hDC old hns1 hacc, rfl, .nil, st1, fun b hb => (f2 b hb).1, w0⟩
    rintro n s' ⟨i, σ', H', ys, us, I', rfl, rv, st', fr', w'⟩
    rcases turn i n ys H' w' with ⟨stop, hz, q⟩ | ⟨go, hz, step⟩
    · refine thn (T.done (cxC X N' scope G.objs.size s2 H2 fp) rfl rfl rfl hc i _ s' _ H' _ I' (fpC fr') st' stop) fun r s4 ⟨hr, I4⟩ => ?_
      subst hr
      obtain ⟨oC, m, hoC, hn, J4⟩ := I2.unblock f2 hC (Nat.le_refl _) hDC I4 rv hz
      exact fin _ oC _ m H' ys s4 J4 (q _ (I4.pin (s2.heap.objs.size, accObj us) (by simp)).2.1) hn I4.free (Ne.symm hDC) (Nat.ne_of_gt (Nat.lt_of_lt_of_le I2.lt hC)) (Nat.le_trans I2.sz hC)
        (fun x c e => by obtain ⟨v, z⟩ := I2.cell x c e; exact Nat.ne_of_lt (Nat.lt_of_lt_of_le z.lt hC)) fun p hp => Nat.ne_of_lt (Nat.lt_of_lt_of_le (Heap.lt_size (I2.pin p hp).1) hC)
    · refine thn (T.item (cxC X N' scope G.objs.size s2 H2 fp) rfl rfl rfl hc i _ s' _ H' _ I' (fpC fr') st' go) fun r s4 ⟨u, hr, h4⟩ => ?_
      subst hr
      refine thn h4 fun _ s5 ⟨x, H5, I5, r5, y5, st5, fr5⟩ => ?_
      have hst := step x H5 y5
      have hst' := ho x (List.replicate o none) (fr.map fun j => (σ[j]?).join) H5 _ (List.length_replicate ..) hst
      -- the iterator's records are pinned while the block's own code runs
      have I5' := I5.pinned (fpC (us := us) fr5) (T.obj _ _ st5)
      refine thn (hg _ _ _ _ _ s5 _ H5 x u _ I5' r5 hst') fun _ s6 ⟨σ6, H6, I6, ⟨ow, hol, e6⟩, q6⟩ => ?_
      subst e6
      refine thn (ht _ _ _ _ _ s6 _ H6 _ I6 q6) fun b s7 ⟨H7, I7, q7⟩ => ?_
      have back : ∀ {us' : List Value} {σ8 : St} {H8 : Hp} {s8 : Shared}, Inv (cxC X N' scope G.objs.size s2 H2 fp) ([(s2.heap.objs.size, accObj us')] ++ pinsAt fp s5.heap) (ow ++ fr.map fun j => (σ[j]?).join) H8 s8 →
          Inv (cxC X N' scope G.objs.size s2 H2 fp) [(s2.heap.objs.size, accObj us')] (σC o fr σ) H8 s8 ∧ tn (i + 1) s8.heap ∧ ∀ b ∈ fp, H8 b = none := fun {us' σ8 H8 s8} I8 => by
        refine ⟨I8.unpinned.weak ?_ fun j v e => ?_, T.keep _ _ _ st5 fun b hb ob e => (I8.pin (b, ob) (List.mem_append_right _ (List.mem_append_right _ (mem_pinsAt hb e)))).1, fun b hb => ?_⟩
        · unfold σC
          rw [List.length_append, List.length_append, List.length_replicate, hol]
        · unfold σC at e
          by_cases hj : j < o
          · rw [List.getElem?_append_left (by rw [List.length_replicate]; exact hj), List.getElem?_replicate, if_pos hj] at e
            cases e
          · rw [List.getElem?_append_right (by rw [List.length_replicate]; exact Nat.not_lt.mp hj), List.length_replicate] at e
            rw [List.getElem?_append_right (by rw [hol]; exact Nat.not_lt.mp hj), hol]
            exact e
        · obtain ⟨ob, e, _⟩ := T.obj _ _ st5 b hb
          exact (I8.pin (b, ob) (List.mem_append_right _ (List.mem_append_right _ (mem_pinsAt hb e)))).2.1
      cases b with
      | false =>
        rw [if_neg Bool.false_ne_true] at q7 ⊢
        obtain ⟨m', hm, w7⟩ := q7
        obtain ⟨I8, st8, fr8⟩ := back (us' := us) (σ8 := []) I7
        exact ⟨m', hm, i + 1, _, H7, ys, us, I8, rfl, rv, st8, fr8, w7⟩
      | true =>
        rw [if_pos rfl] at q7 ⊢
        refine thn (he _ _ _ _ _ s7 _ H7 _ I7 q7) fun y s8 ⟨yv, H8, I8, r8, m', hm, w8⟩ => ?_
        obtain ⟨aD, nD, _, _, _⟩ := I8.pin (s2.heap.objs.size, accObj us) (by simp)
        have aD : s8.heap.get? s2.heap.objs.size = some (accObj us) := aD
        have nD : H8 s2.heap.objs.size = none := nD
        have hul : us.length ≤ sizeLine := by rw [← rv.length]; exact Nat.le_of_lt hz
        refine append_at (hsz := by show us.toArray.size ≤ sizeLine; rw [List.size_toArray]; exact hul) aD fun h9 hs9 hD9 => ?_
        have hD9' : h9.get? s2.heap.objs.size = some (accObj (us ++ [y])) := by
          rw [hD9]
          show some ({ cls := .type "list", data := .seq (us.toArray.push y) (us.length + 1) } : Obj) = some { cls := .type "list", data := .seq (us ++ [y]).toArray (us ++ [y]).length }
          rw [List.length_append, List.length_singleton, List.push_toArray]
        have I9 : Inv (cxC X N' scope G.objs.size s2 H2 fp) (pinsAt fp s5.heap) (ow ++ fr.map fun j => (σ[j]?).join) H8 { s8 with heap := h9 } :=
          (I8.pins_of (pins' := pinsAt fp s5.heap) fun p hp => I8.pin p (List.mem_append_right _ (List.mem_append_right _ hp))).turned (t' := s8.toks) (it := s2.heap.objs.size) (fun b ob hb e => hs9.extBut b ob hb e) nD hDC (.inr (Nat.le_refl _))
            (fun x c e => by
              obtain ⟨v, z⟩ := I2.cell x c (S.sub hsc I2 x c e)
              exact Nat.ne_of_lt z.lt)
            fun p hp => by
              obtain ⟨hb, _⟩ := of_pinsAt (show p ∈ pinsAt fp s5.heap from by simpa [cxC] using hp)
              exact Nat.ne_of_lt (hfl p.1 hb)
        have I9' : Inv (cxC X N' scope G.objs.size s2 H2 fp) ([(s2.heap.objs.size, accObj (us ++ [y]))] ++ pinsAt fp s5.heap) (ow ++ fr.map fun j => (σ[j]?).join) H8 { s8 with heap := h9 } :=
          I9.pins_of fun p hp => by
            rcases List.mem_append.mp hp with z | z
            · have e : p = (s2.heap.objs.size, accObj (us ++ [y])) := by simpa using z
              subst e
              refine ⟨hD9', nD, hDC, fun z => ?_, fun v z => nomatch z⟩
              obtain ⟨_, ob, hob, _⟩ := I2.stack.mem z
              exact Nat.lt_irrefl _ (Heap.lt_size hob)
            · exact I9.pin p (List.mem_append_right _ z)
        obtain ⟨I10, st10, fr10⟩ := back (us' := us ++ [y]) (σ8 := []) I9'
        exact ⟨m', hm, i + 1, _, H8, ys ++ [yv], us ++ [y], I10, rfl, Vals.append rv (.cons r8 .nil), st10, fr10, w8⟩
  exact codeAny_compStart_list (loop _ rfl) (T.self _ 0 _ _ _ st1 (loop _ rfl))

/-- [elt for tg in iter if ..] -/
theorem pe_lc (hc : X.calm = true) {sc0 : Scope} {N0 : List Str} (S : CompScope sc0 N0 N' o fr scope) (hi : PI X tg iter wi) (ho : OwnG o g)
    (hg : ∀ (C : Addr) (s : Shared) (H : Hp) (fp : List Addr), PG (cxC X N' scope C s H fp) tg g)
    (ht : ∀ (C : Addr) (s : Shared) (H : Hp) (fp : List Addr), PTs (cxC X N' scope C s H fp) ifs tt)
    (he : ∀ (C : Addr) (s : Shared) (H : Hp) (fp : List Addr), PE (cxC X N' scope C s H fp) elt te)
    (hs : ∀ x, foldedSetIterable iter X.env x = pure x := by intro _; rfl) (hsc : X.env.scope = sc0 := by rfl) (hN0 : X.N = N0 := by rfl) : PE X (.ListComp elt [⟨tg, iter, ifs, 0⟩] scope pos) (tLc wi g tt te o fr) := by
  intro pins s σ H Q I h
  rw [eval_ListComp]
  refine lc_run hc S hi ho hg ht he hs hsc hN0 I h (use := none) (fun _ _ z => z) fun C oC D m H' ys s' J q hn nC hCD hCL hCs hCc hCp => ?_
  refine ⟨m, hn, fun h' hs' => ⟨.ref D, upd H' D (.lst ys), ?_, rfl, q⟩⟩
  refine J.unpinned.turned (t' := s'.toks) (it := C) (fun b ob hb e => hs'.extBut b ob hb e) (by rw [upd_ne hCD]; exact nC) hCL (.inr hCs) hCc hCp
/-- name = [elt for tg in iter if ..], where the name is stored while the block's names still stand -/
theorem ps_lc {i : Nat} {x : Str} {px : Pos} {spos : Pos} (hc : X.calm = true) (hN : X.N.Nodup) (hx : X.N[i]? = some x) (hl : X.env.kindOf x = some .local) {sc0 : Scope} {N0 : List Str} (S : CompScope sc0 N0 N' o fr scope) (hi : PI X tg iter wi) (ho : OwnG o g)
    (hg : ∀ (C : Addr) (s : Shared) (H : Hp) (fp : List Addr), PG (cxC X N' scope C s H fp) tg g)
    (ht : ∀ (C : Addr) (s : Shared) (H : Hp) (fp : List Addr), PTs (cxC X N' scope C s H fp) ifs tt)
    (he : ∀ (C : Addr) (s : Shared) (H : Hp) (fp : List Addr), PE (cxC X N' scope C s H fp) elt te)
    (hs : ∀ x, foldedSetIterable iter X.env x = pure x := by intro _; rfl) (hsc : X.env.scope = sc0 := by rfl) (hN0 : X.N = N0 := by rfl)
    (hsw : swapsWith (.ListComp elt [⟨tg, iter, ifs, 0⟩] scope pos) (some (.Name x px)) spos.line X.env = pure true := by rfl) :
    PS X (.Assign [.Name x px] (.ListComp elt [⟨tg, iter, ifs, 0⟩] scope pos) spos) (tAsg (tLc wi g tt te o fr) (gName i)) := by
  intro pins s σ H D I h
  rw [exec_Assign_Name_used _ _ _ _ hsw]
  refine wpAny_bind (wpAny_standAt (wpAny_bind ?_))
  show wpAny _ X.A (do let _ ← comprehension (.ListComp elt [⟨tg, iter, ifs, 0⟩] scope pos) scope X.env (firstIterPos [⟨tg, iter, ifs, 0⟩] pos) (newList []) false (eval iter X.env) (some (assign (.Name x px) X.env))) _ _ s
  refine wpAny_bind (wpAny_mono (lc_run (Q := fun _ s' => SP X pins D .next s') hc S hi ho hg ht he hs hsc hN0 I h (use := some (assign (.Name x px) X.env)) (fun _ _ z => z) fun C oC Dd m H' ys s' J q hn nC hCD hCL hCs hCc hCp => ?_) (fun _ s' hq => wpAny_pure (wpAny_pure hq)) fun _ _ e => e)
  show wpAny _ X.A (assign (.Name x px) X.env (.ref Dd)) _ _ _
  refine wpAny_assign_Name (store_ok J hN hx (.inl hl) (v := .ref Dd) rfl (fun s2 I2 => ?_) (.inr hl))
  have g1 := (I2.pin (C, oC) (by simp)).1
  have g1 : s2.heap.get? C = some oC := g1
  have n2 : s2.heap.Ns C m := by
    obtain ⟨oc, es, ep, e, r⟩ := hn
    have e0 := (J.pin (C, oC) (by simp)).1
    have e0 : s'.heap.get? C = some oC := e0
    rw [e] at e0
    cases e0
    exact ⟨_, es, ep, g1, r⟩
  refine ⟨m, n2, fun h' hs' => ⟨_, upd H' Dd (.lst ys), ?_, q⟩⟩
  exact I2.unpinned.turned (t' := s2.toks) (it := C) (fun b ob hb e => hs'.extBut b ob hb e) (by rw [upd_ne hCD]; exact nC) hCL (.inr hCs) hCc hCp
end
end L2

/-! ## more rules over the layer: range as a value, sum, set, enumerate, dict methods, deep == -/
namespace L2
open PySem PySem.Spec PyProof.Rows
section
variable {X : Cx}
theorem vals_two : ∀ {x y : V} {us : List Value}, Vals [x, y] us → ∃ u v, us = [u, v] ∧ RelV x u ∧ RelV y v
  | _, _, _, .cons r (.cons r' .nil) => ⟨_, _, rfl, r, r'⟩
theorem ints_of_vals : ∀ {ns : List Int} {us : List Value}, Vals (ns.map V.int) us → IntsAre us ns
  | [], _, .nil => .nil
  | n :: ns, _, .cons r t => by
    obtain ⟨tk, rfl⟩ := r
    exact .cons n tk (ints_of_vals t)
/-! ### range(..) as an object -/
/-! ### sum of ints -/
theorem call_sum_ints (hc : X.calm = true) : CallR X (.builtin "sum") (fun xs H Q => ∃ (p : Addr) (ns : List Int), xs = [.ref p] ∧ SqL X.K H p (ns.map V.int) ∧ Q (.int ns.sum) H) := by
  intro pins s σ H xs us Q I r h
  obtain ⟨p, ns, rfl, hq, q⟩ := h
  obtain ⟨u, rfl, ru⟩ := vals1 r
  obtain rfl : u = Value.ref p := ru
  obtain ⟨its, rv, pl, hz⟩ := I.list hq
  have hi := ints_of_vals rv
  have hall := hi.allInts
  obtain ⟨xs, ex⟩ := hall.items
  have hl := pl.isList
  rw [ex] at hl
  refine sum_intListG (I.ok.hd hc) hl fun h' tk t' hk => ?_
  have e1 : preSum (numAt xs) xs.size = ns.sum := by
    have e2 := hi.numsOf
    rw [show its = its.toArray.toList from rfl, ex, nums_intItems] at e2
    rw [preSum_eq, List.take_of_length_le (by simp), ← e2]
  exact ⟨.int ns.sum, H, I.kept hk, ⟨t', by rw [e1]⟩, q⟩
/-! ### set(list of ints), its length -/
def seen (ns : List Int) : List Int := firstMet (fun i => ns.getD i 0) ns.length
/-! ### isinstance against a built-in type -/
theorem call_isi {T : String} : CallR X (.builtin "isinstance") (fun xs H Q => ∃ x t b, xs = [x, .ty T] ∧ TyOf X.K H x t ∧ PySem.W.kitOne X.K t (.type T) = some b ∧ Q (.bl b) H) := by
  intro pins s σ H xs us Q I r h
  obtain ⟨x, t, b, rfl, ty, e, q⟩ := h
  obtain ⟨u, v, rfl, ru, rv⟩ := vals_two r
  obtain rfl : v = Value.type T := rv
  exact isinst_ok I ru ty e fun tk => ⟨.bl b, H, I.tok tk, rfl, q⟩
/-! ### for i, x in enumerate(list) -/
/-- at turn i: a new pair (i, the list's i-th) -/
def Ite (K : PySem.W.Frag) (a : Addr) : It :=
  ⟨fun i H => ∃ xs x, SqL K H a xs ∧ xs[i]? = some x, fun i H v H' => ∃ T x, H T = none ∧ v = .ref T ∧ H' = upd H T (.tup [.int i, x]) ∧ ∀ xs, SqL K H a xs → xs[i]? = some x, fun i H => ∃ xs, SqL K H a xs ∧ xs.length ≤ i⟩
def iEnum (K : PySem.W.Frag) (ta : TA) : TI := fun σ H R => ta σ H fun vs H1 => ∃ a, vs = [.ref a] ∧ (∃ xs, SqL K H1 a xs) ∧ R (Ite K a) H1
theorem turn_enum {P : Program} {w : World} {K : PySem.W.Frag} {elts : List Expr} {x1 : Nat} {pos : Pos} (a e it : Addr) (hne : e ≠ it) : Turn P w K (.Tuple elts x1 pos) (Ite K a) [e, it] e (fun i h => (∃ old, IsEnum h e it i old) ∧ h.IsListIter it a i) where
  mem := by simp
  obj := fun i h st b hb => by
    obtain ⟨⟨old, he⟩, o, eo, c, d⟩ := st
    rcases List.mem_cons.mp hb with z | hb
    · subst z
      exact ⟨_, he, fun v z => by
        have z' : Data.fields _ = Data.cell v := z
        cases z'⟩
    · have z : b = it := by simpa using hb
      subst z
      exact ⟨o, eo, fun v z => by rw [d] at z; cases z⟩
  keep := fun i h h' st k => by
    obtain ⟨⟨old, he⟩, hit⟩ := st
    exact ⟨⟨old, k e (by simp) _ he⟩, hit.at fun o x => k it (by simp) o x⟩
  item := by
    intro X hP hw hK hc i pins s σ H E I hf st hg
    subst hP hw hK
    obtain ⟨xs, x, hq, hx⟩ := hg
    obtain ⟨⟨old, he⟩, hit⟩ := st
    obtain ⟨its, rv, p, hz⟩ := I.list hq
    obtain ⟨u, hu, ru⟩ := rv.get hx
    obtain ⟨f0, f1, f2, f3, f4, f5⟩ := hf e (by simp)
    obtain ⟨g0, g1, g2, g3, g4, g5⟩ := hf it (by simp)
    have hT0 : H s.heap.objs.size = none := I.hok.fresh (Nat.le_refl _)
    refine wpAny_pyNext_enum_item he hit p.isList (x := u) (by simpa using hu) hne fun h' ho hit' hT hsz hk => ?_
    have ltT : ∀ b ob, s.heap.get? b = some ob → b ≠ s.heap.objs.size := fun b ob z => Nat.ne_of_lt (Heap.lt_size z)
    have ltH : ∀ b ob, H b = some ob → b ≠ s.heap.objs.size := fun b ob z => Nat.ne_of_lt (I.hok.lt z)
    have nof : ∀ b ob, H b = some ob → b ≠ e ∧ b ≠ it := fun b ob z => ⟨fun q => (by rw [q, f0] at z; cases z), fun q => (by rw [q, g0] at z; cases z)⟩
    have I1 : Inv X pins σ (upd H s.heap.objs.size (.tup [.int i, x])) { s with heap := h', toks := s.toks + 1 } := by
      refine I.step (g' := s.gens) (d' := s.drawn) (ch := [e, it]) (fun b hb => ?_) (fun b o _ _ hcx z _ => hk b o (fun q => hcx (by simp [q])) (fun q => hcx (by simp [q])) z) (fun b o _ _ hcx z _ => ⟨o.slots, hk b o (fun q => hcx (by simp [q])) (fun q => hcx (by simp [q])) z⟩)
        (fun b o _ z n => by rw [upd_ne (ltT b o z)]; exact n) (fun b o hcx z => ⟨o, hk b o (fun q => hcx (by simp [q])) (fun q => hcx (by simp [q])) z⟩) (fun b ys z => by rw [upd_ne (ltH b _ z)]; exact z) (fun b o v z => by rw [upd_ne (ltH b _ z)]; exact z)
        (fun b ps z => ⟨#[], by rw [upd_ne (ltH b _ z), z]; simp⟩) (fun m hm => ?_) (fun b v z => ?_) I.bare
      · rcases List.mem_cons.mp hb with q | hb
        · rw [q]; exact ⟨f3, f1, f4, f5⟩
        · have q : b = it := by simpa using hb
          rw [q]; exact ⟨g3, g1, g4, g5⟩
      · obtain ⟨o, es, ep, ho', r⟩ := hm
        exact ⟨o, es, ep, hk _ o (Ne.symm f1) (Ne.symm g1) ho', r⟩
      · by_cases hb : b = s.heap.objs.size
        · subst hb
          rw [upd_same] at z
          cases z
          exact ⟨by show 2 ≤ sizeLine; decide, [.int i s.toks, u], .cons ⟨_, rfl⟩ (.cons ru .nil), ⟨_, hT, rfl, _, rfl⟩⟩
        · rw [upd_ne hb] at z
          refine (I.hok b v z).stay (fun c w' hc' q => ?_) (fun c q => by rw [upd_ne (ltH c _ q)]; exact q) fun c ys q => by rw [upd_ne (ltH c _ q)]; exact q
          rcases hc' with rfl | hc'
          · exact hk c w' (nof c _ z).1 (nof c _ z).2 q
          · exact hk c w' (nof c _ hc').1 (nof c _ hc').2 q
    refine ⟨_, rfl, wpAny_letOwnedTupleGo_enum ho fun h2 he2 hs2 => ?_⟩
    have fT : e ≠ s.heap.objs.size := ltT e _ he
    have I2 : Inv X pins σ (upd H s.heap.objs.size (.tup [.int i, x])) { s with heap := h2, toks := s.toks + 1 } := Inv.turned (s := { s with heap := h', toks := s.toks + 1 }) (h' := h2) (t' := s.toks + 1) (it := e) I1 (fun b o hb z => hs2.extBut b o hb z) (by rw [upd_ne fT]; exact f0) f1 f3 f4 f5
    refine ⟨.ref s.heap.objs.size, _, I2, rfl, ⟨_, x, hT0, rfl, rfl, fun ys hy => by rw [I.list_inj hy hq]; exact hx⟩, ⟨⟨u, by simpa using he2⟩, hit'.at fun o z => hs2.extBut it o (Ne.symm hne) z⟩, fun b hb => ?_⟩
    rcases List.mem_cons.mp hb with q | hb
    · rw [q, upd_ne fT]; exact f0
    · have q : b = it := by simpa using hb
      obtain ⟨o, eo, _⟩ := hit
      rw [q, upd_ne (ltT it o eo)]; exact g0
  done := by
    intro X hP hw hK hc i pins s σ H E I hf st hg
    subst hP hw hK
    obtain ⟨xs, hq, hx⟩ := hg
    obtain ⟨⟨old, he⟩, hit⟩ := st
    obtain ⟨its, rv, p, hz⟩ := I.list hq
    obtain ⟨g0, g1, g2, g3, g4, g5⟩ := hf it (by simp)
    have hl := rv.length
    exact wpAny_pyNext_enum_end (I.ok.hd hc) he hit p.isList (by simp; omega) fun h' eb => ⟨rfl, I.turned (t' := s.toks) (it := it) (fun b o hb z => eb b o hb z) g0 g1 g3 g4 g5⟩
  self := fun _ _ _ _ _ st h => let ⟨⟨_, he⟩, _⟩ := st; wpAny_pyIter_enum he h
theorem pi_enum {elts : List Expr} {x1 : Nat} {tpos : Pos} {a : Expr} {ta : TA} {p pos : Pos} (hg : Gl X "enumerate") (hm : X.mg "enumerate" = none) (ha : PA X [a] ta) (hs : starEach [a] X.env = [(false, eval a X.env)] := by rfl) :
    PI X (.Tuple elts x1 tpos) (.Call (.Name "enumerate" p) [a] [] pos) (iEnum X.K ta) := by
  intro pins s σ H R I h
  refine Call_ (ld_blt I hg hm Boot.«enumerate» (PyProof.Rows.callWith_type1 (thn (ha pos pins s σ H _ I h) fun us s1 ⟨vs, H1, I1, r1, q1⟩ => ?_) hs rfl))
  obtain ⟨b, e, ⟨xs, hq⟩, q⟩ := q1
  subst e
  obtain ⟨u, rfl, ru⟩ := vals1 r1
  obtain rfl : u = Value.ref b := ru
  obtain ⟨its, rv, pl, hz⟩ := I1.list hq
  refine call_enumerate_list pl.isList fun h' he hit hsz hk => ?_
  have I2 : Inv X pins σ H1 { s1 with heap := h' } := I1.kept (t' := s1.toks) hk
  refine wpAny_pyIter_enum he ?_
  have nn : ∀ k, s1.heap.objs.size ≤ k → H1 k = none := fun k hk => I1.hok.fresh hk
  refine ⟨s1.heap.objs.size + 1, [s1.heap.objs.size + 1, s1.heap.objs.size], _, _, H1, rfl, I2, turn_enum b _ _ (Nat.succ_ne_self _), ⟨⟨_, he⟩, hit⟩, fun c hc => ?_, q⟩
  have hle : s1.heap.objs.size ≤ c := by
    rcases List.mem_cons.mp hc with q | hc
    · rw [q]; exact Nat.le_succ _
    · have q : c = s1.heap.objs.size := by simpa using hc
      rw [q]; exact Nat.le_refl _
  exact I1.fpOk hle (nn c hle)
end
end L2

/-! ## a dict's setdefault and values; == of lists and tuples to any depth -/
namespace L2
open PySem PySem.Spec PyProof.Rows
section
variable {X : Cx}
end

/-! ### == to any depth -/
/-- the answer of x == y by the abstract heap, down to depth n -/
inductive EqD (K : PySem.W.Frag) (H : Hp) : Nat → V → V → Bool → Prop
  | flat {n : Nat} {x y : V} (fx : flatV x = true) (fy : flatV y = true) : EqD K H n x y (eqV x y)
  | lsts {n : Nat} {a b : Addr} {xs ys : List V} {e : Nat → Bool} (ha : SqL K H a xs) (hb : SqL K H b ys) (hl : xs.length = ys.length) (h : ∀ i x y, xs[i]? = some x → ys[i]? = some y → EqD K H n x y (e i)) : EqD K H (n + 1) (.ref a) (.ref b) ((List.range xs.length).all e)
  | lens {n : Nat} {a b : Addr} {xs ys : List V} (ha : SqL K H a xs) (hb : SqL K H b ys) (hl : xs.length ≠ ys.length) : EqD K H (n + 1) (.ref a) (.ref b) false
  | tups {n : Nat} {a b : Addr} {xs ys : List V} {e : Nat → Bool} (ha : SqT K H a xs) (hb : SqT K H b ys) (h : ∀ i x y, xs[i]? = some x → ys[i]? = some y → EqD K H n x y (e i)) :
      EqD K H (n + 1) (.ref a) (.ref b) ((List.range (min xs.length ys.length)).all e && xs.length == ys.length)
theorem eqV_self {x : V} (h : flatV x = true) : eqV x x = true := by
  cases x <;> first | rfl | (simp [eqV]; done) | exact absurd (show false = true from h) Bool.false_ne_true
section
variable {X : Cx} {pins : List (Addr × Obj)} {σ : St} {H : Hp} {s : Shared}
theorem Vals.at {xs : List V} {us : List Value} {j : Nat} (r : Vals xs us) (h : j < us.length) : ∃ x, xs[j]? = some x ∧ RelV x us[j] := by
  have hl := r.length
  have hx : xs[j]? = some (xs[j]'(by omega)) := List.getElem?_eq_getElem (by omega)
  obtain ⟨u, e, ru⟩ := r.get hx
  rw [List.getElem?_eq_getElem h] at e
  cases e
  exact ⟨_, hx, ru⟩
/-- a thing and itself -/
theorem EqD.self {n : Nat} {x y : V} {b : Bool} (q : EqD X.K H n x y b) (I : Inv X pins σ H s) : x = y → b = true := by
  induction q with
  | flat fx fy => intro e; subst e; exact eqV_self fx
  | @lsts n a b xs ys e ha hb hl h ih =>
    intro z
    cases z
    have e1 : xs = ys := I.list_inj ha hb
    subst e1
    rw [List.all_eq_true]
    intro i hi
    have hx : xs[i]? = some (xs[i]'(List.mem_range.mp hi)) := List.getElem?_eq_getElem _
    exact ih i _ _ hx hx rfl
  | @lens n a b xs ys ha hb hl =>
    intro z
    cases z
    exact absurd (congrArg List.length (I.list_inj ha hb)) hl
  | @tups n a b xs ys e ha hb h ih =>
    intro z
    cases z
    have e1 : xs = ys := I.tuple_inj ha hb
    subst e1
    rw [Nat.min_self, Bool.and_eq_true, List.all_eq_true]
    refine ⟨fun i hi => ?_, by simp⟩
    have hx : xs[i]? = some (xs[i]'(List.mem_range.mp hi)) := List.getElem?_eq_getElem _
    exact ih i _ _ hx hx rfl
theorem EqD.at {n : Nat} {x y : V} {b : Bool} (q : EqD X.K H n x y b) (I : Inv X pins σ H s) : ∀ {A : Around} {u v : Value}, A.units + n < cLine → RelV x u → RelV y v → SeqAt.EqAt A s u v b := by
  induction q with
  | flat fx fy => intro A u v _ ru rv; exact eqAt_V ru rv fx fy
  | @lsts n a b xs ys e ha hb hl h ih =>
    intro A u v hu ru rv
    obtain rfl : u = Value.ref a := ru
    obtain rfl : v = Value.ref b := rv
    by_cases hab : a = b
    · have z := EqD.self (EqD.lsts ha hb hl h) I (congrArg V.ref hab)
      rw [z, hab]
      exact SeqAt.EqAt.same _
    obtain ⟨us, rx, px, _⟩ := I.list ha
    obtain ⟨vs, ry, py, _⟩ := I.list hb
    have l1 := rx.length
    have l2 := ry.length
    have z := SeqAt.RcAt.lists (A := A) (s := s) (e := e) px.isList py.isList (by rw [List.size_toArray, List.size_toArray]; omega) (by omega) fun j h1 h2 => by
      obtain ⟨x, ex, rx'⟩ := rx.at (j := j) (by simpa using h1)
      obtain ⟨y, ey, ry'⟩ := ry.at (j := j) (by simpa using h2)
      exact ih j x y ex ey (A := A.in1) (by show A.units + 1 + n < cLine; omega) (by simpa using rx') (by simpa using ry')
    rw [List.size_toArray, ← l1] at z
    exact SeqAt.EqAt.of_refs hab z
  | @lens n a b xs ys ha hb hl =>
    intro A u v hu ru rv
    obtain rfl : u = Value.ref a := ru
    obtain rfl : v = Value.ref b := rv
    obtain ⟨us, rx, px, _⟩ := I.list ha
    obtain ⟨vs, ry, py, _⟩ := I.list hb
    have l1 := rx.length
    have l2 := ry.length
    have hab : a ≠ b := fun z => by
      subst z
      exact hl (congrArg List.length (I.list_inj ha hb))
    exact SeqAt.EqAt.of_refs hab (SeqAt.RcAt.lists_lengths px.isList py.isList (by rw [List.size_toArray, List.size_toArray]; simp; omega) (by omega))
  | @tups n a b xs ys e ha hb h ih =>
    intro A u v hu ru rv
    obtain rfl : u = Value.ref a := ru
    obtain rfl : v = Value.ref b := rv
    by_cases hab : a = b
    · have z := EqD.self (EqD.tups ha hb h) I (congrArg V.ref hab)
      rw [z, hab]
      exact SeqAt.EqAt.same _
    obtain ⟨us, rx, px, _⟩ := I.tuple ha
    obtain ⟨vs, ry, py, _⟩ := I.tuple hb
    have l1 := rx.length
    have l2 := ry.length
    have z := SeqAt.RcAt.tuples (A := A) (s := s) (e := e) (show s.heap.IsTuple a us.toArray from px) (show s.heap.IsTuple b vs.toArray from py) (by omega) fun j h1 h2 => by
      obtain ⟨x, ex, rx'⟩ := rx.at (j := j) (by simpa using h1)
      obtain ⟨y, ey, ry'⟩ := ry.at (j := j) (by simpa using h2)
      exact ih j x y ex ey (A := A.in1) (by show A.units + 1 + n < cLine; omega) (by simpa using rx') (by simpa using ry')
    rw [List.size_toArray, List.size_toArray, ← l1, ← l2] at z
    exact SeqAt.EqAt.of_refs hab z
end
section
variable {X : Cx}
/-- x == y, x != y of two lists or two tuples -/
def rEqD (K : PySem.W.Frag) (neg : Bool) : R2 := fun x y H Q => ∃ n b p q, x = .ref p ∧ y = .ref q ∧ n ≤ 6 ∧ EqD K H n x y b ∧ Q (.bl (if neg then !b else b)) H
theorem op_eqD (hu : X.A.units + 8 < cLine) : OpR X (compareOp .Eq) (rEqD X.K false) := by
  intro pins s σ H x y u v Q I ru rv h
  obtain ⟨n, b, p, q, rfl, rfl, hn, d, hq⟩ := h
  obtain rfl : u = Value.ref p := ru
  obtain rfl : v = Value.ref q := rv
  have fin : EP X pins σ Q (.bool b) s := ⟨.bl b, H, I, rfl, hq⟩
  cases d with
  | flat fx fy => exact absurd (show false = true from fx) Bool.false_ne_true
  | @lsts n _ _ xs ys e ha hb hl h =>
    obtain ⟨us, rx, px, _⟩ := I.list ha
    obtain ⟨vs, ry, py, _⟩ := I.list hb
    have l1 := rx.length
    have l2 := ry.length
    refine SeqAt.eq_listAt (e := e) px.isList py.isList (by rw [List.size_toArray, List.size_toArray]; omega) (by omega) (fun j h1 h2 => ?_) (by rw [List.size_toArray, ← l1]; exact fin)
    obtain ⟨x, ex, rx'⟩ := rx.at (j := j) (by simpa using h1)
    obtain ⟨y, ey, ry'⟩ := ry.at (j := j) (by simpa using h2)
    exact (h j x y ex ey).at I (A := X.A.in1) (by show X.A.units + 1 + n < cLine; omega) (by simpa using rx') (by simpa using ry')
  | @lens n _ _ xs ys ha hb hl =>
    obtain ⟨us, rx, px, _⟩ := I.list ha
    obtain ⟨vs, ry, py, _⟩ := I.list hb
    have l1 := rx.length
    have l2 := ry.length
    exact SeqAt.eq_list_lengthsAt px.isList py.isList (by rw [List.size_toArray, List.size_toArray]; simp; omega) (by omega) fin
  | @tups n _ _ xs ys e ha hb h =>
    obtain ⟨us, rx, px, _⟩ := I.tuple ha
    obtain ⟨vs, ry, py, _⟩ := I.tuple hb
    have l1 := rx.length
    have l2 := ry.length
    refine SeqAt.eq_tupleAt (e := e) (show s.heap.IsTuple p us.toArray from px) (show s.heap.IsTuple q vs.toArray from py) (by omega) (fun j h1 h2 => ?_) (by rw [List.size_toArray, List.size_toArray, ← l1, ← l2]; exact fin)
    obtain ⟨x, ex, rx'⟩ := rx.at (j := j) (by simpa using h1)
    obtain ⟨y, ey, ry'⟩ := ry.at (j := j) (by simpa using h2)
    exact (h j x y ex ey).at I (A := X.A.in1) (by show X.A.units + 1 + n < cLine; omega) (by simpa using rx') (by simpa using ry')
theorem op_neD (hu : X.A.units + 8 < cLine) : OpR X (compareOp .NotEq) (rEqD X.K true) := by
  intro pins s σ H x y u v Q I ru rv h
  obtain ⟨n, b, p, q, rfl, rfl, hn, d, hq⟩ := h
  obtain rfl : u = Value.ref p := ru
  obtain rfl : v = Value.ref q := rv
  have fin : EP X pins σ Q (.bool (!b)) s := ⟨.bl (!b), H, I, rfl, hq⟩
  cases d with
  | flat fx fy => exact absurd (show false = true from fx) Bool.false_ne_true
  | @lsts n _ _ xs ys e ha hb hl h =>
    obtain ⟨us, rx, px, _⟩ := I.list ha
    obtain ⟨vs, ry, py, _⟩ := I.list hb
    have l1 := rx.length
    have l2 := ry.length
    refine SeqAt.RcNeAt.lists (e := e) px.isList py.isList (by rw [List.size_toArray, List.size_toArray]; omega) (by omega) (fun j h1 h2 => ?_) _ _ _ _ (by rw [List.size_toArray, ← l1]; exact fin)
    obtain ⟨x, ex, rx'⟩ := rx.at (j := j) (by simpa using h1)
    obtain ⟨y, ey, ry'⟩ := ry.at (j := j) (by simpa using h2)
    exact (h j x y ex ey).at I (A := X.A.in1) (by show X.A.units + 1 + n < cLine; omega) (by simpa using rx') (by simpa using ry')
  | @lens n _ _ xs ys ha hb hl =>
    obtain ⟨us, rx, px, _⟩ := I.list ha
    obtain ⟨vs, ry, py, _⟩ := I.list hb
    have l1 := rx.length
    have l2 := ry.length
    exact SeqAt.RcNeAt.lists_lengths px.isList py.isList (by rw [List.size_toArray, List.size_toArray]; simp; omega) (by omega) _ _ _ _ fin
  | @tups n _ _ xs ys e ha hb h =>
    obtain ⟨us, rx, px, _⟩ := I.tuple ha
    obtain ⟨vs, ry, py, _⟩ := I.tuple hb
    have l1 := rx.length
    have l2 := ry.length
    refine SeqAt.RcNeAt.tuples (e := e) (show s.heap.IsTuple p us.toArray from px) (show s.heap.IsTuple q vs.toArray from py) (by omega) (fun j h1 h2 => ?_) _ _ _ _ (by rw [List.size_toArray, List.size_toArray, ← l1, ← l2]; exact fin)
    obtain ⟨x, ex, rx'⟩ := rx.at (j := j) (by simpa using h1)
    obtain ⟨y, ey, ry'⟩ := ry.at (j := j) (by simpa using h2)
    exact (h j x y ex ey).at I (A := X.A.in1) (by show X.A.units + 1 + n < cLine; omega) (by simpa using rx') (by simpa using ry')
end
end L2

/-! ## own words over the layer: heaps, pairs, webs, loops over lists and tuples -/
namespace My
open PySem L2
abbrev IL (ns : List Int) : List V := ns.map V.int
theorem il_length (ns : List Int) : (IL ns).length = ns.length := List.length_map ..
theorem il_snoc (a : List Int) (r : Int) : IL (a ++ [r]) = IL a ++ [.int r] := List.map_append ..
theorem il_take (a : List Int) (n : Nat) : IL (a.take n) = (IL a).take n := List.map_take ..
theorem il_drop (a : List Int) (n : Nat) : IL (a.drop n) = (IL a).drop n := List.map_drop ..
theorem il_set (a : List Int) (n : Nat) (z : Int) : IL (a.set n z) = (IL a).set n (.int z) := List.map_set ..
theorem il_at {ns : List Int} {i : Nat} {z : Int} (h : ns[i]? = some z) : (IL ns)[i]? = some (.int z) := by rw [List.getElem?_map, h]; rfl
theorem il_get {ns : List Int} {i : Nat} {x : V} (h : (IL ns)[i]? = some x) : ∃ z, x = .int z ∧ ns[i]? = some z := by
  rw [List.getElem?_map] at h
  cases e : ns[i]? with
  | none => rw [e] at h; cases h
  | some z => rw [e] at h; exact ⟨z, (Option.some.inj h).symm, rfl⟩
theorem same_upd {H H2 : Hp} {a : Addr} {o : HO} (hn : H a = none) (s : Same H H2) : Same H (upd H2 a o) := fun b u e => by rw [upd_ne (ne_of_none e hn)]; exact s b u e
theorem same_new {H H2 : Hp} {p : Addr} {o : HO} (s : Same H H2) (hp : H2 p = none) : Same H (upd H2 p o) := same_upd (s.free hp) s
theorem same_at {H : Hp} {p : Addr} {o : HO} (hp : H p = none) : Same H (upd H p o) := same_new (Same.refl H) hp
theorem sqT_same {K : PySem.W.Frag} {H H' : Hp} {a : Addr} {xs : List V} (e : Same H H') (h : SqT K H a xs) : SqT K H' a xs := by
  rcases h with (h | ⟨o, h⟩) | h
  · exact .inl (.inl (e _ _ h))
  · exact .inl (.inr ⟨o, e _ _ h⟩)
  · exact .inr h
theorem small60 {n : Nat} (h : n ≤ 1000000) : n ≤ sizeLine := Nat.le_trans h (by decide)
theorem small60' {n : Nat} (h : n ≤ 1000000) : n < sizeLine := Nat.lt_of_le_of_lt h (by decide)
theorem hu8 {A : Around} {k : Nat} (hr : Room k A) : A.units + 8 < cLine := Nat.lt_of_le_of_lt (Nat.add_le_add_left (by decide : 8 ≤ 64) _) hr.units
/-- a list's item by a reckoned index -/
theorem atI_of {α : Type} {xs : List α} {i : Int} {n : Nat} {x : α} (hi : i = (n : Int)) (h : xs[n]? = some x) : atI xs i = some x := by
  subst hi
  have hn : n < xs.length := (List.getElem?_eq_some_iff.mp h).1
  unfold atI ixN
  rw [if_pos (Int.natCast_nonneg n), if_pos (by omega)]
  simpa using h
/-! ### tests -/
theorem itd {c A B : Prop} [Decidable c] (hc : c) (h : A) : if decide c = true then A else B := by rw [if_pos (decide_eq_true hc)]; exact h
theorem itdn {c A B : Prop} [Decidable c] (hc : ¬ c) (h : B) : if decide c = true then A else B := by rw [if_neg (by simp [hc])]; exact h
theorem itn {c A B : Prop} [Decidable c] (hc : c) (h : B) : if (!decide c) = true then A else B := by rw [if_neg (by simp [hc])]; exact h
theorem itnn {c A B : Prop} [Decidable c] (hc : ¬ c) (h : A) : if (!decide c) = true then A else B := by rw [if_pos (by simp [hc])]; exact h
theorem itd2 {c A B : Prop} [Decidable c] (h1 : c → A) (h2 : ¬ c → B) : if decide c = true then A else B := by
  by_cases h : c
  · exact itd h (h1 h)
  · exact itdn h (h2 h)
theorem itn2 {c A B : Prop} [Decidable c] (h1 : c → B) (h2 : ¬ c → A) : if (!decide c) = true then A else B := by
  by_cases h : c
  · exact itn h (h1 h)
  · exact itnn h (h2 h)
/-! ### lists or tuples -/
/-- a list (false) or a tuple (true) -/
def SqK (k : Bool) (K : PySem.W.Frag) (H : Hp) (a : Addr) (xs : List V) : Prop := match k with
  | false => SqL K H a xs
  | true => SqT K H a xs
theorem SqK.same {k : Bool} {K : PySem.W.Frag} {H H' : Hp} {a : Addr} {xs : List V} (e : Same H H') (h : SqK k K H a xs) : SqK k K H' a xs := by
  cases k with
  | false => exact e.seq h
  | true => exact sqT_same e h
theorem SqK.or {k : Bool} {K : PySem.W.Frag} {H : Hp} {a : Addr} {xs : List V} (h : SqK k K H a xs) : SqL K H a xs ∨ SqT K H a xs := by
  cases k with
  | false => exact .inl h
  | true => exact .inr h
def iSeq (K : PySem.W.Frag) (tl : TE) : TI := fun σ H R => tl σ H fun x H1 => ∃ a, x = .ref a ∧ (((∃ xs, SqL K H1 a xs) ∧ R (Itl K a) H1) ∨ ((∃ xs, SqT K H1 a xs) ∧ R (Itt K a) H1))
theorem pi_seq {X : Cx} {tg : Expr} {l : Expr} {tl : TE} (hl : PE X l tl) : PI X tg l (iSeq X.K tl) := by
  intro pins s σ H R I h
  refine thn (hl pins s σ H _ I h) fun v s1 ⟨x, H1, I1, r1, q1⟩ => ?_
  obtain ⟨a, e, q⟩ := q1
  subst e
  cases r1
  rcases q with ⟨⟨xs, hq⟩, q⟩ | ⟨⟨xs, hq⟩, q⟩
  · obtain ⟨its, rv, p, hz⟩ := I1.list hq
    refine wpAny_pyIter_list p.isList ?_
    refine ⟨s1.heap.objs.size, [s1.heap.objs.size], _, _, H1, rfl, I1.kept (t' := s1.toks) fun b o e => Heap.get?_push_of_some _ e, turn_list a _, ⟨_, Heap.get?_push_size _ rfl, rfl, rfl⟩, fun b hb => ?_, q⟩
    have e : b = s1.heap.objs.size := by simpa using hb
    subst e
    exact I1.fpOk (Nat.le_refl _) (I1.hok.fresh (Nat.le_refl _))
  · obtain ⟨its, rv, p, hz⟩ := I1.tuple hq
    refine wpAny_pyIter_tuple (show s1.heap.IsTuple a its.toArray from p) ?_
    refine ⟨s1.heap.objs.size, [s1.heap.objs.size], _, _, H1, rfl, I1.kept (t' := s1.toks) fun b o e => Heap.get?_push_of_some _ e, turn_tuple a _, ⟨_, Heap.get?_push_size _ rfl, rfl, rfl⟩, fun b hb => ?_, q⟩
    have e : b = s1.heap.objs.size := by simpa using hb
    subst e
    exact I1.fpOk (Nat.le_refl _) (I1.hok.fresh (Nat.le_refl _))
/-- a loop over a list or a tuple that the body leaves as it is -/
theorem for_seq {K : PySem.W.Frag} {k : Bool} {a : Addr} {xs : List V} {g : TG} {tb : TS} {D : Ends} {σ : St} {H : Hp} (Pv : Nat → St → Hp → Prop) (h0 : Pv 0 σ H) (hl : ∀ i σ H, i ≤ xs.length → Pv i σ H → SqK k K H a xs)
    (hs : ∀ i x σ H, xs[i]? = some x → Pv i σ H → g x σ H fun σ2 H2 => tb { D with nx := Pv (i + 1), ct := Pv (i + 1), bk := D.nx } σ2 H2) (hd : ∀ σ H, Pv xs.length σ H → D.nx σ H) :
    (((∃ xs, SqL K H a xs) ∧ ∃ W : Nat → Nat → St → Hp → Prop, (∃ m, W 0 m σ H) ∧ ∀ i m σ H, W i m σ H →
      ((Itl K a).stop i H ∧ D.nx σ H) ∨ ((Itl K a).go i H ∧ ∃ N : St → Hp → Prop, (∀ σ' H', N σ' H' → ∃ m', m' < m ∧ W (i + 1) m' σ' H') ∧ ∀ x H', (Itl K a).yld i H x H' → g x σ H' fun σ2 H2 => tb { D with nx := N, ct := N, bk := D.nx } σ2 H2)) ∨
     ((∃ xs, SqT K H a xs) ∧ ∃ W : Nat → Nat → St → Hp → Prop, (∃ m, W 0 m σ H) ∧ ∀ i m σ H, W i m σ H →
      ((Itt K a).stop i H ∧ D.nx σ H) ∨ ((Itt K a).go i H ∧ ∃ N : St → Hp → Prop, (∀ σ' H', N σ' H' → ∃ m', m' < m ∧ W (i + 1) m' σ' H') ∧ ∀ x H', (Itt K a).yld i H x H' → g x σ H' fun σ2 H2 => tb { D with nx := N, ct := N, bk := D.nx } σ2 H2))) := by
  cases k with
  | false => exact .inl ⟨⟨xs, hl 0 σ H (Nat.zero_le _) h0⟩, for_list (K := K) (a := a) (xs := xs) Pv h0 hl hs hd⟩
  | true => exact .inr ⟨⟨xs, hl 0 σ H (Nat.zero_le _) h0⟩, for_tup (K := K) (a := a) (xs := xs) Pv h0 hl hs hd⟩
/-! ### pairs of ints -/
def PairV (H : Hp) (v : V) (p : Int × Int) : Prop := ∃ t, v = .ref t ∧ H t = some (.tup [.int p.1, .int p.2])
def PairsV (H : Hp) (xs : List V) (ps : List (Int × Int)) : Prop := xs.length = ps.length ∧ ∀ (i : Nat) (p : Int × Int), ps[i]? = some p → ∃ v, xs[i]? = some v ∧ PairV H v p
theorem PairV.same {H H' : Hp} {v : V} {p : Int × Int} (s : Same H H') (h : PairV H v p) : PairV H' v p := let ⟨t, e, q⟩ := h; ⟨t, e, s _ _ q⟩
theorem PairsV.same {H H' : Hp} {xs : List V} {ps : List (Int × Int)} (s : Same H H') (h : PairsV H xs ps) : PairsV H' xs ps := ⟨h.1, fun i p e => let ⟨v, e1, q⟩ := h.2 i p e; ⟨v, e1, q.same s⟩⟩
theorem PairsV.at {H : Hp} {xs : List V} {ps : List (Int × Int)} (h : PairsV H xs ps) {i : Nat} {v : V} (e : xs[i]? = some v) : ∃ p, ps[i]? = some p ∧ PairV H v p := by
  have hi : i < xs.length := (List.getElem?_eq_some_iff.mp e).1
  have hp : i < ps.length := by rw [← h.1]; exact hi
  obtain ⟨v', e1, q⟩ := h.2 i ps[i] (List.getElem?_eq_getElem hp)
  rw [e] at e1
  cases e1
  exact ⟨_, List.getElem?_eq_getElem hp, q⟩
theorem PairsV.nil {H : Hp} : PairsV H [] [] := ⟨rfl, fun i p e => by simp at e⟩
theorem PairsV.snoc {H : Hp} {xs : List V} {ps : List (Int × Int)} {v : V} {p : Int × Int} (h : PairsV H xs ps) (q : PairV H v p) : PairsV H (xs ++ [v]) (ps ++ [p]) := by
  refine ⟨by rw [List.length_append, List.length_append, h.1]; rfl, fun i p' e => ?_⟩
  by_cases hi : i < ps.length
  · rw [List.getElem?_append_left hi] at e
    rw [List.getElem?_append_left (by rw [h.1]; exact hi)]
    exact h.2 i p' e
  · have hl : i = ps.length := by
      have := (List.getElem?_eq_some_iff.mp e).1
      rw [List.length_append, List.length_singleton] at this
      omega
    subst hl
    rw [List.getElem?_append_right (Nat.le_refl _), Nat.sub_self] at e
    rw [List.getElem?_append_right (by rw [h.1]; exact Nat.le_refl _), h.1, Nat.sub_self]
    have e' : p = p' := Option.some.inj e
    subst e'
    exact ⟨v, rfl, q⟩
/-! ### a Web -/
/-- what a web keeps to -/
def GoodW (n : Int) (ps : List (Int × Int)) : Prop := 1 ≤ n ∧ n ≤ 14 ∧ ps.length ≤ 30 ∧ ∀ p ∈ ps, 0 ≤ p.1 ∧ p.1 < n ∧ 0 ≤ p.2 ∧ p.2 < n
/-! ### what the top has made -/
def FX (K : PySem.W.Frag) (mg : Str → Option Value) (x qual : Str) (st : Stmt) : Prop := ∃ (f : Addr) (fd : FuncData), mg x = some (.ref f) ∧ Fun K x qual st f fd
theorem fx_mk {K : PySem.W.Frag} {h : Heap} {mg : Str → Option Value} {x : Str} {st : Stmt} {f : Addr} {oc : Value} {od an : Option Addr} {osl : Array (Option Value)} {kV doc pm cdv ct : Value} (X : K.In h) (G : h.Ns mainGlobals mg)
    (a : PySem.W.nsIn K mainGlobals x = some (some (.ref f))) (l : K.lookup f = some ⟨oc, od, .func (PySem.W.fnOf x x (defArgs st) (defBody st) (defScope st) .none kV doc pm an cdv ct), osl⟩) (c : PySem.W.codeIn K cdv x = true) (k : PySem.W.keepIn K (.ref f) = true) : FX K mg x x st :=
  ⟨f, _, PySem.W.mg_of X G a, fun_mk l c k⟩
end My

/-! ## comprehensions: the forms one uses -/
namespace My
open PySem L2
theorem nm {i : Nat} {x : V} {σ : St} {H : Hp} {Q : St → Hp → Prop} (h : Q (σ.set i (some x)) H) : gName i x σ H Q := h
section
variable {K : PySem.W.Frag} {a : Addr} {xs : List V} {g : TG} {tt : TT} {te : TE} {o : Nat} {fr : List Nat} {σ : St} {H : Hp} {Q : VK}
/-- what a turn wants, by an invariant over turn, items so far, heap -/
abbrev LcTurn (Pv : Nat → List V → Hp → Prop) (g : TG) (tt : TT) (te : TE) (o : Nat) (fr : List Nat) (σ : St) (i : Nat) (x : V) (ys : List V) (H : Hp) : Prop :=
  ∀ S : Nat → List V → Hp → Prop, (∀ ys H, Pv (i + 1) ys H → S (i + 1) ys H) → g x (σC o fr σ) H fun σ2 H2 => tt σ2 H2 fun b H3 => if b = true then te σ2 H3 fun y H4 => S (i + 1) (ys ++ [y]) H4 else S (i + 1) ys H3
theorem lc_list (Pv : Nat → List V → Hp → Prop) (h0 : Pv 0 [] H) (hz : xs.length < sizeLine) (hl : ∀ i ys H, i ≤ xs.length → Pv i ys H → SqL K H a xs ∧ ys.length ≤ i)
    (hs : ∀ i x ys H, xs[i]? = some x → Pv i ys H → LcTurn Pv g tt te o fr σ i x ys H) (hd : ∀ ys H, Pv xs.length ys H → ∀ p, H p = none → Q (.ref p) (upd H p (.lst ys))) : LcR (Itl K a) g tt te o fr σ H Q := by
  refine ⟨fun i m ys H => m = xs.length - i ∧ i ≤ xs.length ∧ Pv i ys H, ⟨xs.length, by simp, Nat.zero_le _, h0⟩, ?_⟩
  rintro i m ys H ⟨rfl, hi, p⟩
  obtain ⟨q, hy⟩ := hl i ys H hi p
  by_cases hlt : i < xs.length
  · refine .inr ⟨⟨xs, xs[i], q, by simp [hlt]⟩, by omega, fun x H' ⟨e, y⟩ => ?_⟩
    subst e
    have hx := y xs q
    exact hs i x ys _ hx p (fun j ys H => ∃ m', m' < xs.length - i ∧ m' = xs.length - j ∧ j ≤ xs.length ∧ Pv j ys H) fun ys H p' => ⟨xs.length - (i + 1), by omega, rfl, hlt, p'⟩
  · have e : i = xs.length := by omega
    subst e
    exact .inl ⟨⟨xs, q, Nat.le_refl _⟩, by omega, hd ys H p⟩
theorem lc_tup (Pv : Nat → List V → Hp → Prop) (h0 : Pv 0 [] H) (hz : xs.length < sizeLine) (hl : ∀ i ys H, i ≤ xs.length → Pv i ys H → SqT K H a xs ∧ ys.length ≤ i)
    (hs : ∀ i x ys H, xs[i]? = some x → Pv i ys H → LcTurn Pv g tt te o fr σ i x ys H) (hd : ∀ ys H, Pv xs.length ys H → ∀ p, H p = none → Q (.ref p) (upd H p (.lst ys))) : LcR (Itt K a) g tt te o fr σ H Q := by
  refine ⟨fun i m ys H => m = xs.length - i ∧ i ≤ xs.length ∧ Pv i ys H, ⟨xs.length, by simp, Nat.zero_le _, h0⟩, ?_⟩
  rintro i m ys H ⟨rfl, hi, p⟩
  obtain ⟨q, hy⟩ := hl i ys H hi p
  by_cases hlt : i < xs.length
  · refine .inr ⟨⟨xs, xs[i], q, by simp [hlt]⟩, by omega, fun x H' ⟨e, y⟩ => ?_⟩
    subst e
    have hx := y xs q
    exact hs i x ys _ hx p (fun j ys H => ∃ m', m' < xs.length - i ∧ m' = xs.length - j ∧ j ≤ xs.length ∧ Pv j ys H) fun ys H p' => ⟨xs.length - (i + 1), by omega, rfl, hlt, p'⟩
  · have e : i = xs.length := by omega
    subst e
    exact .inl ⟨⟨xs, q, Nat.le_refl _⟩, by omega, hd ys H p⟩
theorem lc_seq {k : Bool} (Pv : Nat → List V → Hp → Prop) (h0 : Pv 0 [] H) (hz : xs.length < sizeLine) (hl : ∀ i ys H, i ≤ xs.length → Pv i ys H → SqK k K H a xs ∧ ys.length ≤ i)
    (hs : ∀ i x ys H, xs[i]? = some x → Pv i ys H → LcTurn Pv g tt te o fr σ i x ys H) (hd : ∀ ys H, Pv xs.length ys H → ∀ p, H p = none → Q (.ref p) (upd H p (.lst ys))) :
    ((∃ xs, SqL K H a xs) ∧ LcR (Itl K a) g tt te o fr σ H Q) ∨ ((∃ xs, SqT K H a xs) ∧ LcR (Itt K a) g tt te o fr σ H Q) := by
  cases k with
  | false => exact .inl ⟨⟨xs, (hl 0 [] H (Nat.zero_le _) h0).1⟩, lc_list Pv h0 hz hl hs hd⟩
  | true => exact .inr ⟨⟨xs, (hl 0 [] H (Nat.zero_le _) h0).1⟩, lc_tup Pv h0 hz hl hs hd⟩
theorem lc_range {lo : Int} {n : Nat} (Pv : Nat → List V → Hp → Prop) (h0 : Pv 0 [] H) (hz : n < sizeLine) (hl : ∀ i ys H, i ≤ n → Pv i ys H → ys.length ≤ i)
    (hs : ∀ i ys H, i < n → Pv i ys H → LcTurn Pv g tt te o fr σ i (.int (lo + i)) ys H) (hd : ∀ ys H, Pv n ys H → ∀ p, H p = none → Q (.ref p) (upd H p (.lst ys))) : LcR (Itr lo n) g tt te o fr σ H Q := by
  refine ⟨fun i m ys H => m = n - i ∧ i ≤ n ∧ Pv i ys H, ⟨n, by simp, Nat.zero_le _, h0⟩, ?_⟩
  rintro i m ys H ⟨rfl, hi, p⟩
  have hy := hl i ys H hi p
  by_cases hlt : i < n
  · refine .inr ⟨hlt, by omega, fun x H' ⟨e, y⟩ => ?_⟩
    subst e
    subst y
    exact hs i ys _ hlt p (fun j ys H => ∃ m', m' < n - i ∧ m' = n - j ∧ j ≤ n ∧ Pv j ys H) fun ys H p' => ⟨n - (i + 1), by omega, rfl, hlt, p'⟩
  · have e : i = n := by omega
    subst e
    exact .inl ⟨Nat.le_refl _, by omega, hd ys H p⟩
end
end My
namespace My
open PySem L2
theorem getD_of {α : Type} {l : List α} {i : Nat} {x d : α} (h : l[i]? = some x) : l.getD i d = x := by rw [List.getD_eq_getElem?_getD, h]; rfl
theorem nd_snoc {α : Type} {l : List α} {x : α} (h : l.Nodup) (hx : x ∉ l) : (l ++ [x]).Nodup := by
  rw [List.nodup_append]
  refine ⟨h, by simp, fun a ha b hb => ?_⟩
  rw [List.mem_singleton] at hb
  subst hb
  rintro rfl
  exact hx ha
/-- for i, x in enumerate(a list that the body leaves as it is): a new pair at each turn -/
theorem for_enum {K : PySem.W.Frag} {a : Addr} {xs : List V} {g : TG} {tb : TS} {D : Ends} {σ : St} {H : Hp} (Pv : Nat → St → Hp → Prop) (h0 : Pv 0 σ H) (hl : ∀ i σ H, i ≤ xs.length → Pv i σ H → SqL K H a xs)
    (hs : ∀ (i : Nat) x σ H (p : Addr), H p = none → xs[i]? = some x → Pv i σ H → g (.ref p) σ (upd H p (.tup [.int i, x])) fun σ2 H2 => tb { D with nx := Pv (i + 1), ct := Pv (i + 1), bk := D.nx } σ2 H2) (hd : ∀ σ H, Pv xs.length σ H → D.nx σ H) :
    ∃ W : Nat → Nat → St → Hp → Prop, (∃ m, W 0 m σ H) ∧ ∀ i m σ H, W i m σ H →
      ((Ite K a).stop i H ∧ D.nx σ H) ∨ ((Ite K a).go i H ∧ ∃ N : St → Hp → Prop, (∀ σ' H', N σ' H' → ∃ m', m' < m ∧ W (i + 1) m' σ' H') ∧ ∀ x H', (Ite K a).yld i H x H' → g x σ H' fun σ2 H2 => tb { D with nx := N, ct := N, bk := D.nx } σ2 H2) := by
  refine ⟨fun i m σ H => m = xs.length - i ∧ i ≤ xs.length ∧ Pv i σ H, ⟨xs.length, by simp, Nat.zero_le _, h0⟩, ?_⟩
  rintro i m σ H ⟨rfl, hi, p⟩
  have q := hl i σ H hi p
  by_cases hlt : i < xs.length
  · refine .inr ⟨⟨xs, xs[i], q, by simp [hlt]⟩, Pv (i + 1), fun σ' H' p' => ⟨xs.length - (i + 1), by omega, rfl, hlt, p'⟩, fun x H' ⟨T, y, hT, ex, eH, hy⟩ => ?_⟩
    subst ex eH
    exact hs i y σ H T hT (hy xs q) p
  · have e : i = xs.length := by omega
    subst e
    exact .inl ⟨⟨xs, q, Nat.le_refl _⟩, hd σ H p⟩
end My
namespace My
open PySem L2
theorem cut_from {xs : List V} {i : Int} (h0 : 0 ≤ i) (h1 : i.toNat ≤ xs.length) : cutV xs (some i) none = xs.drop i.toNat := by
  have e : HT.sIx xs.length 0 (some i) = i.toNat := by
    show (if i < 0 then (i + (xs.length : Int)).toNat else min i.toNat xs.length) = i.toNat
    rw [if_neg (by omega)]
    omega
  unfold cutV
  rw [e, HT.sIx_none]
  exact List.take_of_length_le (by rw [List.length_drop]; exact Nat.le_refl _)
end My

/-! ## the rules that name the written part, with it named apart (for a comprehension's block) -/
namespace L2
open PySem PySem.Spec PyProof.Rows
section
variable {X : Cx} {a b o e : Expr} {es : List Expr} {ta tb te to : TE} {t : TA} {pos : Pos}
theorem ix_listK (K : PySem.W.Frag) (h : X.K = K := by rfl) : IxR X (rIxL K) := h ▸ ix_list
theorem ix_tupK (K : PySem.W.Frag) (h : X.K = K := by rfl) : IxR X (rIxT K) := h ▸ ix_tup
theorem sl_listK (K : PySem.W.Frag) (h : X.K = K := by rfl) : SlR X (rSlL K) := h ▸ sl_list
theorem op_eqDK (K : PySem.W.Frag) (hu : X.A.units + 8 < cLine) (h : X.K = K := by rfl) : OpR X (compareOp .Eq) (rEqD K false) := h ▸ op_eqD hu
theorem op_neDK (K : PySem.W.Frag) (hu : X.A.units + 8 < cLine) (h : X.K = K := by rfl) : OpR X (compareOp .NotEq) (rEqD K true) := h ▸ op_neD hu
theorem call_lenK (K : PySem.W.Frag) (h : X.K = K := by rfl) : CallR X (.builtin "len") (fun xs H Q => ∃ p ys, xs = [.ref p] ∧ (SqL K H p ys ∨ SqT K H p ys) ∧ Q (.int ys.length) H) := h ▸ call_len_seq
theorem call_listK (K : PySem.W.Frag) (h : X.K = K := by rfl) : CallR X (.type "list") (fun xs H Q => ∃ p ys, xs = [.ref p] ∧ (SqL K H p ys ∨ SqT K H p ys) ∧ ∀ l, H l = none → Q (.ref l) (upd H l (.lst ys))) := h ▸ call_list_of
theorem call_tupleK (K : PySem.W.Frag) (h : X.K = K := by rfl) : CallR X (.type "tuple") (fun xs H Q => ∃ p ys, xs = [.ref p] ∧ ((SqL K H p ys ∧ ∀ l, H l = none → Q (.ref l) (upd H l (.tup ys))) ∨ (SqT K H p ys ∧ Q (.ref p) H))) := h ▸ call_tuple_of
theorem call_sumK (K : PySem.W.Frag) (hc : X.calm = true) (h : X.K = K := by rfl) : CallR X (.builtin "sum") (fun xs H Q => ∃ (p : Addr) (ns : List Int), xs = [.ref p] ∧ SqL K H p (ns.map V.int) ∧ Q (.int ns.sum) H) := h ▸ call_sum_ints hc
theorem call_isiK (K : PySem.W.Frag) {T : String} (h : X.K = K := by rfl) : CallR X (.builtin "isinstance") (fun xs H Q => ∃ x t b, xs = [x, .ty T] ∧ TyOf K H x t ∧ PySem.W.kitOne K t (.type T) = some b ∧ Q (.bl b) H) := h ▸ call_isi
theorem pi_listK (K : PySem.W.Frag) {tg : Expr} {l : Expr} {tl : TE} (hl : PE X l tl) (h : X.K = K := by rfl) : PI X tg l (iList K tl) := h ▸ pi_list hl
theorem pi_tupK (K : PySem.W.Frag) {tg : Expr} {l : Expr} {tl : TE} (hl : PE X l tl) (h : X.K = K := by rfl) : PI X tg l (iTup K tl) := h ▸ pi_tup hl
theorem pi_seqK (K : PySem.W.Frag) {tg : Expr} {l : Expr} {tl : TE} (hl : PE X l tl) (h : X.K = K := by rfl) : PI X tg l (My.iSeq K tl) := h ▸ My.pi_seq hl
theorem pi_enumK (K : PySem.W.Frag) {elts : List Expr} {x1 : Nat} {tpos : Pos} {a : Expr} {ta : TA} {p pos : Pos} (hg : Gl X "enumerate") (hm : X.mg "enumerate" = none) (ha : PA X [a] ta) (hs : starEach [a] X.env = [(false, eval a X.env)] := by rfl) (h : X.K = K := by rfl) :
    PI X (.Tuple elts x1 tpos) (.Call (.Name "enumerate" p) [a] [] pos) (iEnum K ta) := h ▸ pi_enum hg hm ha hs
theorem pg_tupK (K : PySem.W.Frag) {es : List Expr} {k : Nat} {t : TGs} {n : Nat} (hc : X.calm = true) (ht : PGs X es t)
    (hn : (assignEach es X.env).length = n := by rfl) (hst : (assignEach es X.env).findIdx? (·.1) = none := by rfl) (h : X.K = K := by rfl) : PG X (.Tuple es k pos) (gTup K n t) := h ▸ pg_tup hc ht hn hst
theorem pe_bmK (K : PySem.W.Frag) {name : Str} {apos cpos : Pos} {T id : String} {r : V → List V → Hp → VK → Prop} (pa : PlainAttrs T) (slot : Slot T name id) (hty : typeOf (.builtin id) = pure (.type "method_descriptor")) (hm : MtR X id r) (ho : PE X o to) (ha : PA X (e :: es) t)
    (hbase : attributeBase o name X.env (eval o X.env) = eval o X.env := by rfl)
    (hfew : ((backTo cpos (starEach (e :: es) X.env)).all (fun x => !x.1) && (backToKw cpos (keywordEach [] X.env)).all (fun x => x.1.isSome)
      && decide ((e :: es).length + ([] : List Keyword).length + (if ([] : List Keyword).isEmpty then 0 else 1) < 30)) = true := by rfl)
    (hline : (apos.endLine == cpos.line) = true := by rfl) (hs : starEach (e :: es) X.env = (false, eval e X.env) :: starEach es X.env := by rfl) (hplain : (backTo cpos (starEach es X.env)).any (·.1) = false := by rfl) (h : X.K = K := by rfl) :
    PE X (.Call (.Attribute o name apos) (e :: es) [] cpos) (tBM K T r to t) := h ▸ pe_bm pa slot hty hm ho ha hbase hfew hline hs hplain
end
end L2

/-! ## marks: two ways to join, one partition -/
namespace My
/-- the mark at a place -/
abbrev mk (m : List Int) (i : Nat) : Int := m.getD i 0
/-- the program's step: the greater mark gives way -/
def pm (m : List Int) (a b : Nat) : List Int :=
  if min (mk m a) (mk m b) < max (mk m a) (mk m b) then m.map (fun k => if k = max (mk m a) (mk m b) then min (mk m a) (mk m b) else k) else m
/-- the other step: the second mark gives way -/
def lm (m : List Int) (a b : Nat) : List Int :=
  if mk m a ≠ mk m b then m.map (fun k => if k = mk m b then mk m a else k) else m
/-- the places fall alike -/
def SameP (m l : List Int) : Prop := m.length = l.length ∧ ∀ i j, i < m.length → j < m.length → (mk m i = mk m j ↔ mk l i = mk l j)
theorem mk_map (m : List Int) (f : Int → Int) {i : Nat} (h : i < m.length) : mk (m.map f) i = f (mk m i) := by
  simp [mk, List.getD_eq_getElem?_getD, List.getElem?_map, List.getElem?_eq_getElem h]
theorem pm_length (m : List Int) (a b : Nat) : (pm m a b).length = m.length := by unfold pm; split <;> simp
theorem lm_length (m : List Int) (a b : Nat) : (lm m a b).length = m.length := by unfold lm; split <;> simp
/-- two places are alike behind a step -/
def Mrg (m : List Int) (a b i j : Nat) : Prop := mk m i = mk m j ∨ ((mk m i = mk m a ∨ mk m i = mk m b) ∧ (mk m j = mk m a ∨ mk m j = mk m b))
theorem pm_iff {m : List Int} {a b i j : Nat} (hi : i < m.length) (hj : j < m.length) : mk (pm m a b) i = mk (pm m a b) j ↔ Mrg m a b i j := by
  unfold pm Mrg
  split
  · rename_i h
    rw [mk_map _ _ hi, mk_map _ _ hj]
    generalize mk m i = x at *
    generalize mk m j = y at *
    generalize mk m a = p at *
    generalize mk m b = q at *
    by_cases hpq : p < q
    · rw [Int.min_eq_left (by omega), Int.max_eq_right (by omega)]
      split <;> split <;> omega
    · rw [Int.min_eq_right (by omega), Int.max_eq_left (by omega)] at *
      split <;> split <;> omega
  · rename_i h
    generalize mk m i = x at *
    generalize mk m j = y at *
    generalize mk m a = p at *
    generalize mk m b = q at *
    omega
theorem lm_iff {m : List Int} {a b i j : Nat} (hi : i < m.length) (hj : j < m.length) : mk (lm m a b) i = mk (lm m a b) j ↔ Mrg m a b i j := by
  unfold lm Mrg
  split
  · rename_i h
    rw [mk_map _ _ hi, mk_map _ _ hj]
    generalize mk m i = x at *
    generalize mk m j = y at *
    generalize mk m a = p at *
    generalize mk m b = q at *
    split <;> split <;> omega
  · rename_i h
    generalize mk m i = x at *
    generalize mk m j = y at *
    generalize mk m a = p at *
    generalize mk m b = q at *
    omega
theorem SameP.step {m l : List Int} (s : SameP m l) {a b : Nat} (ha : a < m.length) (hb : b < m.length) : SameP (pm m a b) (lm l a b) := by
  obtain ⟨hl, h⟩ := s
  refine ⟨by rw [pm_length, lm_length, hl], fun i j hi hj => ?_⟩
  rw [pm_length] at hi hj
  rw [pm_iff hi hj, lm_iff (by omega) (by omega)]
  unfold Mrg
  rw [h i j hi hj, h i a hi ha, h i b hi hb, h j a hj ha, h j b hj hb]
/-- the marks behind a row of ties (their ends) -/
def pms (n : Nat) (es : List (Nat × Nat)) : List Int := es.foldl (fun m e => pm m e.1 e.2) ((List.range n).map fun (i : Nat) => (i : Int))
def lms (n : Nat) (es : List (Nat × Nat)) : List Int := es.foldl (fun m e => lm m e.1 e.2) ((List.range n).map fun (i : Nat) => (i : Int))
theorem lms_length (n : Nat) (es : List (Nat × Nat)) : (lms n es).length = n := by
  have : ∀ (es : List (Nat × Nat)) (m : List Int), (es.foldl (fun m e => lm m e.1 e.2) m).length = m.length := by
    intro es
    induction es with
    | nil => intro m; rfl
    | cons e es ih => intro m; rw [List.foldl_cons, ih, lm_length]
  unfold lms; rw [this]; simp
theorem lms_snoc (n : Nat) (es : List (Nat × Nat)) (e : Nat × Nat) : lms n (es ++ [e]) = lm (lms n es) e.1 e.2 := by unfold lms; rw [List.foldl_append]; rfl
end My

/-! ## places by their marks -/
namespace My
def gstep (g : List (Int × List Int)) (place k : Int) : List (Int × List Int) :=
  if k ∈ g.map (·.1) then g.map (fun kv => if kv.1 = k then (kv.1, kv.2 ++ [place]) else kv) else g ++ [(k, [place])]
def grpA (M : List Int) : Nat → List (Int × List Int)
  | 0 => []
  | i + 1 => gstep (grpA M i) (i : Int) (mk M i)
def grp (M : List Int) : List (Int × List Int) := grpA M M.length
theorem gstep_keys (g : List (Int × List Int)) (p k : Int) : (gstep g p k).map (·.1) = if k ∈ g.map (·.1) then g.map (·.1) else g.map (·.1) ++ [k] := by
  unfold gstep
  split
  · rw [List.map_map]
    refine List.map_congr_left fun kv _ => ?_
    show (if kv.1 = k then (kv.1, kv.2 ++ [p]) else kv).1 = kv.1
    split <;> rfl
  · simp
theorem gstep_nodup {g : List (Int × List Int)} {p k : Int} (h : (g.map (·.1)).Nodup) : ((gstep g p k).map (·.1)).Nodup := by
  rw [gstep_keys]
  split
  · exact h
  · rename_i hk
    rw [List.nodup_append]
    refine ⟨h, by simp, fun a ha b hb => ?_⟩
    rw [List.mem_singleton] at hb
    subst hb
    rintro rfl
    exact hk ha
theorem grpA_nodup (M : List Int) : ∀ i, ((grpA M i).map (·.1)).Nodup
  | 0 => by simp [grpA]
  | i + 1 => gstep_nodup (grpA_nodup M i)
/-- what stands in the groups -/
theorem grpA_mem (M : List Int) : ∀ i kv, kv ∈ grpA M i → ∀ z : Int, z ∈ kv.2 ↔ (0 ≤ z ∧ z < (i : Int) ∧ mk M z.toNat = kv.1)
  | 0, kv, h, z => by simp [grpA] at h
  | i + 1, kv, h, z => by
    unfold grpA gstep at h
    split at h
    · rename_i hk
      obtain ⟨kv0, h0, e⟩ := List.mem_map.mp h
      have ih := grpA_mem M i kv0 h0 z
      by_cases hc : kv0.1 = mk M i
      · rw [if_pos hc] at e
        subst e
        rw [List.mem_append, ih, List.mem_singleton]
        constructor
        · rintro (⟨a, b, c⟩ | rfl)
          · exact ⟨a, by omega, c⟩
          · exact ⟨by omega, by omega, by simpa using hc.symm⟩
        · rintro ⟨a, b, c⟩
          by_cases hz : z < (i : Int)
          · exact .inl ⟨a, hz, c⟩
          · exact .inr (by omega)
      · rw [if_neg hc] at e
        subst e
        rw [ih]
        constructor
        · rintro ⟨a, b, c⟩; exact ⟨a, by omega, c⟩
        · rintro ⟨a, b, c⟩
          refine ⟨a, ?_, c⟩
          by_cases hz : z < (i : Int)
          · exact hz
          · have e : z.toNat = i := by omega
            rw [e] at c
            exact absurd c.symm hc
    · rename_i hk
      rcases List.mem_append.mp h with h0 | h0
      · have ih := grpA_mem M i kv h0 z
        rw [ih]
        constructor
        · rintro ⟨a, b, c⟩; exact ⟨a, by omega, c⟩
        · rintro ⟨a, b, c⟩
          refine ⟨a, ?_, c⟩
          by_cases hz : z < (i : Int)
          · exact hz
          · have e : z.toNat = i := by omega
            rw [e] at c
            exact absurd (List.mem_map.mpr ⟨kv, h0, c.symm⟩) hk
      · rw [List.mem_singleton] at h0
        subst h0
        simp only [List.mem_singleton]
        constructor
        · rintro rfl; exact ⟨by omega, by omega, by simp⟩
        · rintro ⟨a, b, c⟩
          by_cases hz : z < (i : Int)
          · exfalso
            have key := grpA_key M i z.toNat (by omega)
            rw [c] at key
            exact hk key
          · omega
where
  grpA_key (M : List Int) : ∀ i j, j < i → mk M j ∈ (grpA M i).map (·.1)
    | 0, j, h => absurd h (Nat.not_lt_zero j)
    | i + 1, j, h => by
      show mk M j ∈ (gstep (grpA M i) (i : Int) (mk M i)).map (·.1)
      rw [gstep_keys]
      by_cases hj : j < i
      · have := grpA_key M i j hj
        split
        · exact this
        · exact List.mem_append_left _ this
      · have e : j = i := by omega
        subst e
        split
        · assumption
        · simp
theorem grpA_key {M : List Int} {i j : Nat} (h : j < i) : mk M j ∈ (grpA M i).map (·.1) := grpA_mem.grpA_key M i j h
theorem grpA_of_key (M : List Int) : ∀ i k, k ∈ (grpA M i).map (·.1) → ∃ j, j < i ∧ mk M j = k
  | 0, k, h => by simp [grpA] at h
  | i + 1, k, h => by
    have h : k ∈ (gstep (grpA M i) (i : Int) (mk M i)).map (·.1) := h
    rw [gstep_keys] at h
    have old : k ∈ (grpA M i).map (·.1) → ∃ j, j < i + 1 ∧ mk M j = k := fun q => by
      obtain ⟨j, hj, e⟩ := grpA_of_key M i k q
      exact ⟨j, by omega, e⟩
    split at h
    · exact old h
    · rcases List.mem_append.mp h with q | q
      · exact old q
      · rw [List.mem_singleton] at q
        exact ⟨i, by omega, q.symm⟩
/-- one group just where all places are alike -/
theorem grp_one {M : List Int} (hM : 1 ≤ M.length) : (grp M).length = 1 ↔ ∀ i j, i < M.length → j < M.length → mk M i = mk M j := by
  unfold grp
  constructor
  · intro h i j hi hj
    obtain ⟨kv, e⟩ := List.length_eq_one_iff.mp h
    have h1 := grpA_key (M := M) hi
    have h2 := grpA_key (M := M) hj
    rw [e] at h1 h2
    rw [List.map_singleton, List.mem_singleton] at h1 h2
    rw [h1, h2]
  · intro h
    have nd := grpA_nodup M M.length
    have h0 := grpA_key (M := M) (i := M.length) (j := 0) (by omega)
    generalize hg : (grpA M M.length) = g at *
    match g, hg with
    | [], _ => simp at h0
    | [kv], _ => rfl
    | a :: b :: r, hg =>
      exfalso
      obtain ⟨i, hi, e1⟩ := grpA_of_key M M.length a.1 (by rw [hg]; simp)
      obtain ⟨j, hj, e2⟩ := grpA_of_key M M.length b.1 (by rw [hg]; simp)
      have e3 := h i j hi hj
      have : a.1 = b.1 := by rw [← e1, ← e2, e3]
      simp [this] at nd
end My
namespace My
end My

/-! ## sets of ints, in, isinstance -/
namespace My
open PySem L2 PyProof.Rows
theorem kit_same {K : PySem.W.Frag} {t : Value} : PySem.W.kitOne K t t = some true := by
  unfold PySem.W.kitOne
  rw [if_pos (beq_self_eq_true t)]
theorem dec_int {a b : Int} : decide (V.int a = V.int b) = decide (a = b) := by
  by_cases h : a = b
  · subst h; simp
  · have h' : ¬ V.int a = V.int b := fun z => h (V.int.inj z)
    rw [decide_eq_false h, decide_eq_false h']
theorem dec_bl {a b : Bool} : decide (V.bl a = V.bl b) = decide (a = b) := by
  by_cases h : a = b
  · subst h; simp
  · have h' : ¬ V.bl a = V.bl b := fun z => h (V.bl.inj z)
    rw [decide_eq_false h, decide_eq_false h']
end My

/-! ## own words about sets of ties, marks and groups -/
namespace My
open PySem L2
/-! from is_set.txt -/
/-- ascending numbers of ties -/
def IsSet (m : Nat) (ns : List Int) : Prop := ∀ i z, ns[i]? = some z → 0 ≤ z ∧ z < (m : Int) ∧ ∀ y, i ≠ 0 → ns[i - 1]? = some y → y < z
/-! from piece_marks.txt -/
/-- the ends of ties -/
def endsOf (ps : List (Int × Int)) (ns : List Int) : List (Nat × Nat) := ns.map fun z => ((ps.getD z.toNat (0, 0)).1.toNat, (ps.getD z.toNat (0, 0)).2.toNat)
/-! from pieces_of.txt -/
/-- the groups' lists stand apart, and none of them stood ahead of the call -/
structure GrpAt (H0 H : Hp) (g : List (Int × List Int)) (as : List Addr) : Prop where
  len : as.length = g.length
  nd : as.Nodup
  at_ : ∀ (i : Nat) (kv : Int × List Int) (a : Addr), g[i]? = some kv → as[i]? = some a → H a = some (.lst (IL kv.2))
  new : ∀ a ∈ as, H0 a = none
theorem IsSet.all {m : Nat} {ns : List Int} (h : IsSet m ns) : ∀ z ∈ ns, 0 ≤ z ∧ z < (m : Int) := fun z hz => by
  obtain ⟨i, hi, e⟩ := List.getElem_of_mem hz
  obtain ⟨a, b, _⟩ := h i z (by rw [List.getElem?_eq_getElem hi, e])
  exact ⟨a, b⟩
/-! from _law_some.txt -/
theorem IsSet.nil (m : Nat) : IsSet m [] := fun i z e => by simp at e
theorem IsSet.snoc {m : Nat} {ns : List Int} (h : IsSet m ns) : IsSet (m + 1) (ns ++ [(m : Int)]) := fun i z e => by
  by_cases hi : i < ns.length
  · rw [List.getElem?_append_left hi] at e
    obtain ⟨a, b, c⟩ := h i z e
    refine ⟨a, by omega, fun y h0 ey => ?_⟩
    rw [List.getElem?_append_left (by omega)] at ey
    exact c y h0 ey
  · have hl : i = ns.length := by
      have := (List.getElem?_eq_some_iff.mp e).1
      rw [List.length_append, List.length_singleton] at this
      omega
    subst hl
    rw [List.getElem?_append_right (Nat.le_refl _), Nat.sub_self] at e
    have e : (m : Int) = z := Option.some.inj e
    subst e
    refine ⟨by omega, by omega, fun y h0 ey => ?_⟩
    rw [List.getElem?_append_left (by omega)] at ey
    exact (h _ y ey).2.1
theorem IsSet.len {m : Nat} : ∀ {ns : List Int}, IsSet m ns → ns.length ≤ m := fun {ns} h => by
  have key : ∀ (i : Nat) (z : Int), ns[i]? = some z → (i : Int) ≤ z := by
    intro i
    induction i with
    | zero => intro z e; exact (h 0 z e).1
    | succ i ih =>
      intro z e
      have hi : i < ns.length := by have := (List.getElem?_eq_some_iff.mp e).1; omega
      have e2 : ns[i]? = some ns[i] := List.getElem?_eq_getElem hi
      have := ih _ e2
      have := (h (i + 1) z e).2.2 ns[i] (by omega) (by rw [Nat.add_sub_cancel]; exact e2)
      omega
  by_cases h0 : ns.length = 0
  · omega
  · have e : ns[ns.length - 1]? = some (ns[ns.length - 1]'(by omega)) := List.getElem?_eq_getElem _
    have a := key _ _ e
    have b := (h _ _ e).2.1
    omega
end My

/-! ## list.index, all and any over a list of bools, == of known data -/
namespace L2
open PySem PySem.Spec PyProof.Rows
section
variable {X : Cx}
end
end L2
namespace My
open PySem L2
section
variable {K : PySem.W.Frag} {H : Hp} {α : Type} [DecidableEq α]
/-- the values bear the data, place by place -/
def Bears (R : V → α → Prop) (xs : List V) (l : List α) : Prop := xs.length = l.length ∧ ∀ (i : Nat) (a : α), l[i]? = some a → ∃ x, xs[i]? = some x ∧ R x a
theorem Bears.at {R : V → α → Prop} {xs : List V} {l : List α} (h : Bears R xs l) {i : Nat} {x : V} (e : xs[i]? = some x) : ∃ a, l[i]? = some a ∧ R x a := by
  have hi : i < xs.length := (List.getElem?_eq_some_iff.mp e).1
  have hl : i < l.length := by rw [← h.1]; exact hi
  obtain ⟨x', e1, q⟩ := h.2 i l[i] (List.getElem?_eq_getElem hl)
  rw [e] at e1
  cases e1
  exact ⟨_, List.getElem?_eq_getElem hl, q⟩
theorem all_dec {l m : List α} (h : l.length = m.length) : (List.range l.length).all (fun i => decide (l[i]? = m[i]?)) = decide (l = m) := by
  rw [Bool.eq_iff_iff, List.all_eq_true, decide_eq_true_iff]
  constructor
  · intro q
    refine List.ext_getElem? fun i => ?_
    by_cases hi : i < l.length
    · exact of_decide_eq_true (q i (List.mem_range.mpr hi))
    · rw [List.getElem?_eq_none (by omega), List.getElem?_eq_none (by omega)]
  · rintro rfl i _
    simp
theorem eqd_lists {R : V → α → Prop} {n : Nat} {p q : Addr} {xs ys : List V} {l m : List α} (hp : SqL K H p xs) (hq : SqL K H q ys) (h1 : Bears R xs l) (h2 : Bears R ys m) (hR : ∀ x y a b, R x a → R y b → EqD K H n x y (decide (a = b))) : EqD K H (n + 1) (.ref p) (.ref q) (decide (l = m)) := by
  by_cases hl : xs.length = ys.length
  · have e := all_dec (l := l) (m := m) (by rw [← h1.1, ← h2.1, hl])
    rw [← e, ← h1.1]
    refine EqD.lsts hp hq hl fun i x y ex ey => ?_
    obtain ⟨a, ea, ra⟩ := h1.at ex
    obtain ⟨b, eb, rb⟩ := h2.at ey
    rw [ea, eb, show decide (some a = some b) = decide (a = b) by simp]
    exact hR x y a b ra rb
  · have e : decide (l = m) = false := decide_eq_false fun z => hl (by rw [h1.1, h2.1, z])
    rw [e]
    exact EqD.lens hp hq hl
theorem eqd_tups {R : V → α → Prop} {n : Nat} {p q : Addr} {xs ys : List V} {l m : List α} (hp : SqT K H p xs) (hq : SqT K H q ys) (h1 : Bears R xs l) (h2 : Bears R ys m) (hR : ∀ x y a b, R x a → R y b → EqD K H n x y (decide (a = b))) : EqD K H (n + 1) (.ref p) (.ref q) (decide (l = m)) := by
  have key := EqD.tups (e := fun i => decide (l[i]? = m[i]?)) hp hq fun i x y ex ey => by
    obtain ⟨a, ea, ra⟩ := h1.at ex
    obtain ⟨b, eb, rb⟩ := h2.at ey
    rw [ea, eb, show decide (some a = some b) = decide (a = b) by simp]
    exact hR x y a b ra rb
  by_cases hl : xs.length = ys.length
  · have e := all_dec (l := l) (m := m) (by rw [← h1.1, ← h2.1, hl])
    rw [← hl, Nat.min_self, h1.1, e, show (l.length == l.length) = true by simp, Bool.and_true] at key
    exact key
  · have e : decide (l = m) = false := decide_eq_false fun z => hl (by rw [h1.1, h2.1, z])
    rw [show (xs.length == ys.length) = false by simpa using hl, Bool.and_false] at key
    rw [e]
    exact key
theorem bears_ints (ns : List Int) : Bears (fun x (z : Int) => x = .int z) (IL ns) ns := ⟨il_length ns, fun i z e => ⟨_, il_at e, rfl⟩⟩
theorem eqd_int {n : Nat} {x y : V} {a b : Int} (hx : x = .int a) (hy : y = .int b) : EqD K H n x y (decide (a = b)) := by
  subst hx hy
  have e : decide (a = b) = eqV (.int a) (.int b) := by
    show decide (a = b) = (a == b)
    rw [Bool.beq_eq_decide_eq]
  rw [e]
  exact EqD.flat rfl rfl
theorem eqd_bools {p q : Addr} {bs cs : List Bool} (hp : SqL K H p (bs.map V.bl)) (hq : SqL K H q (cs.map V.bl)) : EqD K H 1 (.ref p) (.ref q) (decide (bs = cs)) := by
  have be : ∀ bs : List Bool, Bears (fun x (b : Bool) => x = .bl b) (bs.map V.bl) bs := fun bs => ⟨List.length_map .., fun i b e => ⟨_, by rw [List.getElem?_map, e]; rfl, rfl⟩⟩
  refine eqd_lists hp hq (be bs) (be cs) fun x y a b hx hy => ?_
  subst hx hy
  have e : decide (a = b) = eqV (.bl a) (.bl b) := by
    show decide (a = b) = (a == b)
    rw [Bool.beq_eq_decide_eq]
  rw [e]
  exact EqD.flat rfl rfl
theorem bears_pairs {xs : List V} {ps : List (Int × Int)} (h : PairsV H xs ps) : Bears (PairV H) xs ps := h
theorem eqd_pair {n : Nat} {x y : V} {a b : Int × Int} (hx : PairV H x a) (hy : PairV H y b) : EqD K H (n + 1) x y (decide (a = b)) := by
  obtain ⟨t, rfl, ht⟩ := hx
  obtain ⟨u, rfl, hu⟩ := hy
  have be : ∀ c : Int × Int, Bears (fun x (z : Int) => x = .int z) ([.int c.1, .int c.2] : List V) [c.1, c.2] := fun c => bears_ints [c.1, c.2]
  have k := eqd_tups (n := n) (SqT.of ht) (SqT.of hu) (be a) (be b) fun _ _ _ _ => eqd_int (K := K) (H := H)
  have e : decide ([a.1, a.2] = [b.1, b.2]) = decide (a = b) := by
    obtain ⟨a1, a2⟩ := a
    obtain ⟨b1, b2⟩ := b
    simp
  rw [e] at k
  exact k
/-- a list of lists of ints -/
def ListV (H : Hp) (v : V) (l : List Int) : Prop := ∃ a, v = .ref a ∧ H a = some (.lst (IL l))
theorem eqd_listv {n : Nat} {x y : V} {a b : List Int} (hx : ListV H x a) (hy : ListV H y b) : EqD K H (n + 1) x y (decide (a = b)) := by
  obtain ⟨t, rfl, ht⟩ := hx
  obtain ⟨u, rfl, hu⟩ := hy
  exact eqd_lists (SqL.of ht) (SqL.of hu) (bears_ints a) (bears_ints b) fun _ _ _ _ => eqd_int
theorem eqd_llints {p q : Addr} {xs ys : List V} {l m : List (List Int)} (hp : SqL K H p xs) (hq : SqL K H q ys) (h1 : Bears (ListV H) xs l) (h2 : Bears (ListV H) ys m) : EqD K H 2 (.ref p) (.ref q) (decide (l = m)) :=
  eqd_lists hp hq h1 h2 fun _ _ _ _ => eqd_listv
end
end My

/-! ## the groups by first places -/
namespace My
def fstB (M : List Int) (p : Nat) : Bool := (List.range p).all fun i => decide (mk M i ≠ mk M p)
def posA (M : List Int) (k : Int) (i : Nat) : List Int := ((List.range i).filter fun j => decide (mk M j = k)).map fun (j : Nat) => (j : Int)
def fstA (M : List Int) (i : Nat) : List Nat := (List.range i).filter (fstB M)
theorem fstB_iff {M : List Int} {p : Nat} : fstB M p = true ↔ ∀ i, i < p → mk M i ≠ mk M p := by
  unfold fstB
  rw [List.all_eq_true]
  constructor
  · intro h i hi; exact of_decide_eq_true (h i (List.mem_range.mpr hi))
  · intro h i hi; exact decide_eq_true (h i (List.mem_range.mp hi))
theorem posA_succ (M : List Int) (k : Int) (i : Nat) : posA M k (i + 1) = posA M k i ++ (if mk M i = k then [(i : Int)] else []) := by
  unfold posA
  rw [List.range_succ, List.filter_append, List.map_append]
  congr 1
  by_cases h : mk M i = k
  · rw [if_pos h, List.filter_cons, if_pos (by simpa using h)]; rfl
  · rw [if_neg h, List.filter_cons, if_neg (by simpa using h)]; rfl
theorem fstA_succ (M : List Int) (i : Nat) : fstA M (i + 1) = fstA M i ++ (if fstB M i = true then [i] else []) := by
  unfold fstA
  rw [List.range_succ, List.filter_append]
  congr 1
  by_cases h : fstB M i = true
  · rw [if_pos h, List.filter_cons, if_pos h]; rfl
  · rw [if_neg h, List.filter_cons, if_neg h]; rfl
theorem grpA_eq (M : List Int) : ∀ i, grpA M i = (fstA M i).map fun p => (mk M p, posA M (mk M p) i)
  | 0 => rfl
  | i + 1 => by
    have ih := grpA_eq M i
    show gstep (grpA M i) (i : Int) (mk M i) = _
    have hk : (mk M i ∈ (grpA M i).map (·.1)) ↔ fstB M i ≠ true := by
      constructor
      · intro h q
        obtain ⟨j, hj, e⟩ := grpA_of_key M i _ h
        exact fstB_iff.mp q j hj e
      · intro h
        by_cases q : ∃ j, j < i ∧ mk M j = mk M i
        · obtain ⟨j, hj, e⟩ := q
          rw [← e]
          exact grpA_key hj
        · exact absurd (fstB_iff.mpr fun j hj e => q ⟨j, hj, e⟩) h
    unfold gstep
    by_cases h : mk M i ∈ (grpA M i).map (·.1)
    · have hf := hk.mp h
      rw [if_pos h, fstA_succ, if_neg hf, List.append_nil, ih, List.map_map]
      refine List.map_congr_left fun p _ => ?_
      show (if mk M p = mk M i then (mk M p, posA M (mk M p) i ++ [(i : Int)]) else (mk M p, posA M (mk M p) i)) = (mk M p, posA M (mk M p) (i + 1))
      rw [posA_succ]
      by_cases e : mk M p = mk M i
      · rw [if_pos e, if_pos e.symm]
      · rw [if_neg e, if_neg (fun z => e z.symm), List.append_nil]
    · have hf : fstB M i = true := by
        cases q : fstB M i with
        | true => rfl
        | false => exact absurd (hk.mpr (by rw [q]; exact Bool.false_ne_true)) h
      rw [if_neg h, fstA_succ, if_pos hf, List.map_append, ih]
      congr 1
      · refine List.map_congr_left fun p hp => ?_
        have hpi : p < i := List.mem_range.mp (List.mem_filter.mp hp).1
        rw [posA_succ, if_neg (fun z => fstB_iff.mp hf p hpi z.symm), List.append_nil]
      · show [(mk M i, [(i : Int)])] = [(mk M i, posA M (mk M i) (i + 1))]
        rw [posA_succ, if_pos rfl]
        have e0 : posA M (mk M i) i = [] := by
          unfold posA
          rw [List.filter_eq_nil_iff.mpr fun j hj => by simpa using fstB_iff.mp hf j (List.mem_range.mp hj)]
          rfl
        rw [e0]
        rfl
end My

/-! ## more own words -/
namespace My
open PySem L2
theorem Bears.snoc {α : Type} [DecidableEq α] {R : V → α → Prop} {xs : List V} {l : List α} {x : V} {a : α} (h : Bears R xs l) (hx : R x a) : Bears R (xs ++ [x]) (l ++ [a]) := by
  refine ⟨by rw [List.length_append, List.length_append, h.1]; rfl, fun i b e => ?_⟩
  by_cases hi : i < l.length
  · rw [List.getElem?_append_left hi] at e
    rw [List.getElem?_append_left (by rw [h.1]; exact hi)]
    exact h.2 i b e
  · have hl : i = l.length := by
      have := (List.getElem?_eq_some_iff.mp e).1
      rw [List.length_append, List.length_singleton] at this
      omega
    subst hl
    rw [List.getElem?_append_right (Nat.le_refl _), Nat.sub_self] at e
    rw [List.getElem?_append_right (by rw [h.1]; exact Nat.le_refl _), h.1, Nat.sub_self]
    have e' : a = b := Option.some.inj e
    subst e'
    exact ⟨x, rfl, hx⟩
theorem Bears.imp {α : Type} [DecidableEq α] {R R' : V → α → Prop} {xs : List V} {l : List α} (h : Bears R xs l) (f : ∀ x a, R x a → R' x a) : Bears R' xs l := ⟨h.1, fun i a e => let ⟨x, e1, r⟩ := h.2 i a e; ⟨x, e1, f x a r⟩⟩
end My

/-! ## exceptions of own classes: raised, passing a def, caught by a try -/
namespace L2
open PySem PySem.Spec PyProof.Rows
theorem ObjOk.there {P : Program} {w : World} {H : Hp} {h : Heap} {a : Addr} {o : HO} (x : ObjOk P w H h a o) : ∃ u, h.get? a = some u := by
  cases o with
  | lst xs => obtain ⟨_, _, _, _, e⟩ := x; exact ⟨_, e⟩
  | tup xs => obtain ⟨_, _, _, o, e, _⟩ := x; exact ⟨_, e⟩
  | dK kvs => obtain ⟨_, _, _, _, o, _, _, e, _⟩ := x; exact ⟨_, e⟩
  | dT kvs => obtain ⟨_, _, _, _, o, _, _, e, _⟩ := x; exact ⟨_, e⟩
  | set S n => obtain ⟨o, _, _, _, e, _⟩ := x; exact ⟨_, e⟩
  | ins C dx fs => obtain ⟨_, _, _, e, _⟩ := x; exact ⟨_, e⟩
  | own y => exact x
  | xd fs => obtain ⟨_, ⟨_, _, _, e, _⟩, _⟩ := x; exact ⟨_, e⟩
  | rng lo hi => obtain ⟨_, _, _, e⟩ := x; exact ⟨_, e⟩
  | frz ob u => obtain ⟨e, _⟩ := x; exact ⟨_, e⟩
  | tbl ps => exact ⟨_, x⟩
  | met f y => exact ⟨_, x⟩
  | ext φ => obtain ⟨_, e, _⟩ := x; exact e
/-- an exception in flight at e, of the class C: it and its last entry are new and not tracked -/
structure Fly (h0 : Heap) (H : Hp) (e C : Addr) (h : Heap) : Prop where
  ex : ∃ oe vs T oT ts a0, h.get? e = some oe ∧ oe.cls = .ref C ∧ oe.data = .fields vs ∧ vs[0]? = some a0 ∧ vs[1]? = some (.ref T) ∧ T ≠ e ∧ h.get? T = some oT ∧ oT.data = .fields ts ∧ ts[3]? = some .none ∧ h0.get? T = none ∧ H T = none
  new : h0.get? e = none
  free : H e = none
/-- how it lies behind a call -/
def CXW (P : Program) (w : World) : CXT := fun outer H s E ev s' => ∃ (e C : Addr) (H' : Hp), ev = Value.ref e ∧ s'.os = s.os ∧ AllBare s'.gens ∧ Un (frs outer) [] H H' s.heap s'.heap ∧ HOk P w H' s'.heap ∧ Fly s.heap H' e C s'.heap ∧ E (.ref C) none H'
section
variable {X : Cx} {pins : List (Addr × Obj)} {σ : St} {H : Hp} {s : Shared} {e C : Addr}
/-- the ground that a step of an exception leaves as it is -/
abbrev grd (X : Cx) (h : Heap) (ns : List Addr) : Heap := PySem.W.hideAll h (frs X.stack ++ ns)
theorem grd_get {h : Heap} {ns : List Addr} {b : Addr} {o : Obj} (q : h.get? b = some o) (h1 : b ∉ frs X.stack) (h2 : b ∉ ns) : (grd X h ns).get? b = some o :=
  PySem.W.hideAll_get _ q fun z => (List.mem_append.mp z).elim h1 h2
theorem grd_of {h : Heap} {ns : List Addr} : (grd X h ns).StaysIn h := fun _ _ q => PySem.W.of_hideAll _ q
theorem Inv.was (I : Inv X pins σ H s) (hex : X.ex = []) {b : Addr} (h : s.heap.get? b = none) : X.s₀.heap.get? b = none := by
  cases q : X.s₀.heap.get? b with
  | none => rfl
  | some o =>
    obtain ⟨o', e⟩ := I.base.there b o q (by rw [hex]; simp)
    rw [h] at e; cases e
/-- what is kept where the ground stays -/
theorem hok_grd {P : Program} {w : World} {h' : Heap} {ns : List Addr} {h : Heap} (ok : HOk P w H h) (hf : ∀ b ∈ frs X.stack, H b = none) (hns : ∀ b ∈ ns, H b = none) (k : (grd X h ns).StaysIn h') : HOk P w H h' := fun a o q =>
  (ok a o q).stay (fun b u hb g => k b u (grd_get g (fun z => by
    have := hf b z
    rcases hb with rfl | hb
    · rw [q] at this; cases this
    · rw [hb] at this; cases this) fun z => by
    have := hns b z
    rcases hb with rfl | hb
    · rw [q] at this; cases this
    · rw [hb] at this; cases this)) (fun _ z => z) fun _ _ z => z
theorem frs_stack (hst : X.stack = X.env :: X.outer) (hfr : X.env.frame = some X.env.locals) : frs X.stack = X.env.locals :: frs X.outer := by
  rw [hst]
  unfold frs
  rw [List.filterMap_cons, hfr]
/-- behind the step by which it leaves the frame -/
theorem cx_left (hst : X.stack = X.env :: X.outer) (hfr : X.env.frame = some X.env.locals) (hex : X.ex = []) (I : Inv X pins σ H s) {ns : List Addr} (hns : ∀ b ∈ ns, X.s₀.heap.get? b = none ∧ H b = none) {h' : Heap} {a0 : Value} {E : XK} {s' : Shared}
    (hfl : Heap.FlyingW (grd X s.heap ns) X.outer e (.ref C) a0 h') (up : s.heap.UpToSlots h') (ne : X.s₀.heap.get? e = none) (fe : H e = none) (hE : E (.ref C) none H) (hs : s'.heap = h') (ho : s'.os = s.os) (hg : s'.gens = s.gens) :
    CXW X.prog X.w X.outer X.H₀ X.s₀ E (.ref e) s' := by
  subst hs
  have fst := frs_stack (X := X) hst hfr
  have noL : ∀ b o, X.s₀.heap.get? b = some o → b ≠ X.env.locals := fun b o q => Nat.ne_of_lt (Nat.lt_of_lt_of_le (Heap.lt_size q) I.ok.above)
  have nns : ∀ b o, X.s₀.heap.get? b = some o → b ∉ ns := fun b o q z => by rw [(hns b z).1] at q; cases q
  have nfs : ∀ b o, X.s₀.heap.get? b = some o → b ∉ frs X.outer → b ∉ frs X.stack := fun b o q n z => by
    rw [fst] at z
    rcases List.mem_cons.mp z with z | z
    · exact noL b o q z
    · exact n z
  have nex : ∀ b, b ∉ X.ex := fun b z => by rw [hex] at z; cases z
  have keep : ∀ b o u, X.s₀.heap.get? b = some o → b ∉ frs X.outer → s.heap.get? b = some u → s'.heap.get? b = some u := fun b o u q n g => hfl.1 b u (grd_get g (nfs b o q n) (nns b o q))
  have slot : ∀ b u, b ∈ frs X.outer → s.heap.get? b = some u → ∃ sl, s'.heap.get? b = some { u with slots := sl } := fun b u hb g => by
    obtain ⟨_, o', ho', hd⟩ := I.funs.mem hb
    rw [g] at ho'
    cases ho'
    exact up b u g hd
  refine ⟨e, C, H, rfl, ho.trans I.os, hg ▸ I.bare, ⟨fun b o q n hb _ => ?_, fun b o q n hb _ => ?_, fun b o q n _ => I.base.free b o q n (nex b), fun b o q _ => ?_, I.base.tups, I.base.frzs, I.base.tbls⟩, hok_grd I.hok I.stkFree (fun b hb => (hns b hb).2) hfl.1, ⟨?_, ne, fe⟩, hE⟩
  · exact keep b o o q hb (I.base.keep b o q n hb (nex b))
  · obtain ⟨sl, g⟩ := I.base.slot b o q n hb (nex b)
    obtain ⟨sl', g'⟩ := slot b _ hb g
    exact ⟨sl', g'⟩
  · obtain ⟨u, g⟩ := I.base.there b o q (nex b)
    by_cases hb : b ∈ frs X.outer
    · obtain ⟨sl, g'⟩ := slot b u hb g
      exact ⟨_, g'⟩
    · exact ⟨u, keep b o u q hb g⟩
  · obtain ⟨f1, f2, f3, oe, vs, T, oT, ts, he, ⟨hc, h0⟩, hd, h1, hnT, hTe, hT, hdT, h3⟩ := hfl
    refine ⟨oe, vs, T, oT, ts, a0, he, hc, hd, h0, h1, hTe, hT, hdT, h3, ?_, ?_⟩
    · cases q : X.s₀.heap.get? T with
      | none => rfl
      | some o =>
        obtain ⟨u, g⟩ := I.base.there T o q (nex T)
        by_cases hb : T ∈ frs X.outer
        · obtain ⟨_, o', ho', hd'⟩ := f3.mem hb
          rw [hT] at ho'
          cases ho'
          exact absurd hdT (hd' ts)
        · rw [grd_get g (nfs T o q hb) (nns T o q)] at hnT
          cases hnT
    · cases q : H T with
      | none => rfl
      | some ho =>
        obtain ⟨u, g⟩ := (I.hok T ho q).there
        rw [grd_get g (fun z => by rw [I.stkFree T z] at q; cases q) (fun z => by rw [(hns T z).2] at q; cases q)] at hnT
        cases hnT
theorem fly_base (hst : X.stack = X.env :: X.outer) (I : Inv X pins σ H s) {h0 : Heap} (F : Fly h0 H e C s.heap) : ∃ T a0, Heap.FlyingW (grd X s.heap [e, T]) X.stack e (.ref C) a0 s.heap ∧ h0.get? T = none ∧ H T = none := by
  obtain ⟨oe, vs, T, oT, ts, a0, he, hc, hd, h0', h1, hTe, hT, hdT, h3, nT, fT⟩ := F.ex
  refine ⟨T, a0, ⟨grd_of, PySem.W.hideAll_none _ (by simp), ?_, oe, vs, T, oT, ts, he, ⟨hc, h0'⟩, hd, h1, PySem.W.hideAll_none _ (by simp), hTe, hT, hdT, h3⟩, nT, fT⟩
  exact PySem.W.funFrames_hide I.stack fun env henv a hf => List.mem_append_left _ (List.mem_filterMap.mpr ⟨env, henv, hf⟩)
/-- it leaves the frame on its way -/
theorem leave_fly (hst : X.stack = X.env :: X.outer) (hfr : X.env.frame = some X.env.locals) (hex : X.ex = []) (I : Inv X pins σ H s) (F : Fly X.s₀.heap H e C s.heap) {E : XK} (hE : E (.ref C) none H) {E' : Value → Shared → Prop} :
    wpAny (model X.prog X.w) X.A (leaving X.env (.ref e)) (fun _ s'' => CXW X.prog X.w X.outer X.H₀ X.s₀ E (.ref e) s'') E' s := by
  obtain ⟨T, a0, fl, nT, fT⟩ := fly_base hst I F
  rw [hst] at fl
  refine wpAny_leaves_onW (by rw [I.ok.frames, hst]) hfr fl fun h' fl' up => ?_
  refine cx_left hst hfr hex I (fun b hb => ?_) fl' up F.new F.free hE rfl rfl rfl
  rcases List.mem_cons.mp hb with rfl | hb
  · exact ⟨F.new, F.free⟩
  · rw [List.mem_singleton.mp hb]; exact ⟨nT, fT⟩
/-- it is raised here and leaves the frame -/
theorem leave_made (hst : X.stack = X.env :: X.outer) (hfr : X.env.frame = some X.env.locals) (hex : X.ex = []) (I : Inv X pins σ H s) {h' : Heap} {vs : List Value} (hm : Heap.MadeExcOf s.heap h' e (.ref C) vs) {E : XK} (hE : E (.ref C) none H) {E' : Value → Shared → Prop} :
    wpAny (model X.prog X.w) X.A (leaving X.env (.ref e)) (fun _ s'' => CXW X.prog X.w X.outer X.H₀ X.s₀ E (.ref e) s'') E' { s with heap := h' } := by
  have ff : s.heap.FunFrames (grd X s.heap []) X.stack := PySem.W.funFrames_hide I.stack fun env henv a hf => List.mem_append_left _ (List.mem_filterMap.mpr ⟨env, henv, hf⟩)
  rw [hst] at ff
  refine wpAny_leaves_madeW (base := grd X s.heap []) (h := s.heap) (by rw [I.ok.frames, hst]) hfr grd_of ff hm fun h'' t fl _ _ up => ?_
  have fe : H e = none := by
    cases q : H e with
    | none => rfl
    | some ho =>
      obtain ⟨u, g⟩ := (I.hok e ho q).there
      rw [hm.new] at g
      cases g
  exact cx_left (s' := { s with heap := h'' }) hst hfr hex I (fun b hb => by cases hb) fl ((Heap.UpToSlots.of_keeps hm.keeps).trans up) (I.was hex hm.new) fe hE rfl rfl rfl
/-- the state behind a call that ended in an exception -/
theorem Inv.flown {E : XK} {ev : Value} {s' : Shared} (I : Inv X pins σ H s) (h : CXW X.prog X.w X.stack H s E ev s') : ∃ e C H', ev = Value.ref e ∧ Inv X pins σ H' s' ∧ Fly s.heap H' e C s'.heap ∧ E (.ref C) none H' := by
  obtain ⟨e, C, H', rfl, ho, hg, u, ok, F, hE⟩ := h
  exact ⟨e, C, H', rfl, I.call' (ch := []) ho u ok hg (fun _ z => nomatch z), F, hE⟩
theorem Fly.older {h0 h1 h : Heap} (F : Fly h0 H e C h) (k : ∀ b, h0.get? b = none → h1.get? b = none) : Fly h1 H e C h := by
  obtain ⟨oe, vs, T, oT, ts, a0, he, hc, hd, h0', h1', hTe, hT, hdT, h3, nT, fT⟩ := F.ex
  exact ⟨⟨oe, vs, T, oT, ts, a0, he, hc, hd, h0', h1', hTe, hT, hdT, h3, k _ nT, fT⟩, k _ F.new, F.free⟩
end
section
variable {P : Program} {w : World} {K : PySem.W.Frag} {mg : Str → Option Value} {base : Heap}
/-- a callee's exception passes a def -/
theorem pxs {N : List Str} {qual : Str} {scope : Scope} {f : Addr} {cd : Value} {A : Around} {outer : List Env} {s : Shared} {H : Hp} {E : XK} : Passes (CXW P w) (cxOf (CXW P w) P w K mg base N qual scope f cd A outer s H E) E := by
  intro pins σ H1 s1 ev s' I h
  obtain ⟨e, C, H', rfl, J, F, hE⟩ := I.flown h
  exact leave_fly rfl rfl rfl J (F.older fun b hb => I.was rfl hb) hE
/-- THE RULE for a def that may raise -/
theorem Fun.okX {x qual : Str} {st : Stmt} {f : Addr} {fd : FuncData} {N ps : List Str} {k : Nat} {sp : Sp} (F : Fun K x qual st f fd) (S : FnScope N ps (defScope st)) (len : ∀ vs H Q E, sp vs H Q E → vs.length = ps.length)
    (hbody : ∀ (cdv : Value) (A : Around) (outer : List Env) (s : Shared) (H : Hp) (vs : List V) (Q : VK) (E : XK), Room k (A.deeper (envOfC qual (defScope st) s.heap.objs.size f cdv)) → sp vs H Q E →
      ∃ t, PSs (cxOf (CXW P w) P w K mg base N qual (defScope st) f cdv A outer s H E) (defBody st) t ∧ t { nx := fun _ H' => Q .non H', rt := Q } (start N vs) H) : FnOk P w K mg base (CXW P w) (k + 1) f fd ps sp := by
  obtain ⟨oc, od, kV, doc, pm, an, cdv, ct, osl, rfl, lk, hcd⟩ := F.ex
  exact fn_of lk hcd S len fun A outer s H vs Q E hr hsp => hbody cdv A outer s H vs Q E hr hsp
end
/-- what of the text an own exception's class must have -/
structure XCls (K : PySem.W.Frag) (C : Addr) : Prop where
  ex : PySem.W.excIn K C [.type "ValueError", .type "Exception", .type "BaseException", .type "object"] "ValueError.__new__" = true
  ga : PySem.W.findIn K (.ref C) "__getattribute__" = some (some (.builtin "BaseException.__getattribute__"))
  gh : PySem.W.findIn K (.ref C) "__getattr__" = some none
  cl : PySem.W.findIn K (.ref C) "__class__" = some (some (.builtin "object.__class__"))
  ob : PySem.W.mroIn K C (.type "object") = some true
  bx : PySem.W.mroIn K C (.type "BaseException") = some true
theorem XCls.obj {K : PySem.W.Frag} {C : Addr} {h : Heap} (c : XCls K C) (X : K.In h) : ∃ bm N nm q bs hdct sn sub ab col dd k0 k1 k2 k3 k5 mN, h.get? C = some (excClassObj nm q C N bs bm hdct sn sub ab col dd k0 k1 k2 k3 k5 "ValueError.__new__") ∧ h.Ns N mN ∧ mN "__init__" = none ∧ OwnTail h [.type "ValueError", .type "Exception", .type "BaseException", .type "object"] bm := by
  have q := c.ex
  unfold PySem.W.excIn at q
  split at q
  · rename_i dd cd sl ho
    split at q
    · rename_i C' bm k0 k1 k2 k3 n k5 hm hs
      simp only [Bool.and_eq_true, beq_iff_eq, Bool.not_eq_true'] at q
      obtain ⟨⟨⟨⟨⟨rfl, rfl⟩, hdel⟩, ht⟩, hok⟩, hni⟩ := q
      obtain ⟨nm, bs, mro, ns, qn, hd, sn, sub, ab, col, del⟩ := cd
      dsimp only at hm hdel hok hni
      subst hm hdel
      have hsl : sl = #[k0, k1, k2, k3, some (.builtin "ValueError.__new__"), k5] := by
        obtain ⟨l⟩ := sl
        simp only at hs
        rw [hs]
      subst hsl
      exact ⟨bm, ns, nm, qn, bs, hd, sn, sub, ab, col, dd, k0, k1, k2, k3, k5, _, X _ _ ho, .of_isNs (PySem.W.isNs_of_in X hok), PySem.W.nsMap_none_of_in X hok hni, PySem.W.tail_of_in X ht⟩
    · cases q
  · cases q
/-- raise C(e, ..) -/
def tRaise (C : Addr) (E : XK) (t : TA) : TS := fun _ σ H => t σ H fun vs H1 => vs.length ≤ sizeLine ∧ E (.ref C) none H1
theorem ps_raise {P : Program} {w : World} {K : PySem.W.Frag} {mg : Str → Option Value} {base : Heap} {N : List Str} {qual : Str} {scope : Scope} {f : Addr} {cd : Value} {A : Around} {outer : List Env} {s0 : Shared} {H0 : Hp} {E : XK} {C : Addr} {x : Str} {np cpos pos : Pos} {e₀ : Expr} {rest : List Expr} {t : TA}
    (c : XCls K C) (hm : mg x = some (.ref C)) (ha : PA (cxOf (CXW P w) P w K mg base N qual scope f cd A outer s0 H0 E) (e₀ :: rest) t)
    (hg : Gl (cxOf (CXW P w) P w K mg base N qual scope f cd A outer s0 H0 E) x := by rfl) (hd : (x == ("__debug__" : Str)) = false := by decide)
    (he : starEach (e₀ :: rest) (cxOf (CXW P w) P w K mg base N qual scope f cd A outer s0 H0 E).env = (false, eval e₀ (cxOf (CXW P w) P w K mg base N qual scope f cd A outer s0 H0 E).env) :: starEach rest (cxOf (CXW P w) P w K mg base N qual scope f cd A outer s0 H0 E).env := by rfl)
    (hplain : (backTo cpos (starEach rest (cxOf (CXW P w) P w K mg base N qual scope f cd A outer s0 H0 E).env)).any (·.1) = false := by rfl) :
    PS (cxOf (CXW P w) P w K mg base N qual scope f cd A outer s0 H0 E) (.Raise (some (.Call (.Name x np) (e₀ :: rest) [] cpos)) none pos) (tRaise C E t) := by
  intro pins s σ H D I h
  obtain ⟨tl, NN, nm, q, bs, hdct, sn, sub, ab, col, dd, k0, k1, k2, k3, k5, mN, hC, hN, hni, T⟩ := c.obj I.ok.mod.kin
  refine wpAny_Raise_call_subT (C := C) (nm := nm) (q := q) (N := NN) (bs := bs) (bm := tl) (hdct := hdct) (sn := sn) (sub := sub) (ab := ab) (col := col) (dd := dd) (k0 := k0) (k1 := k1) (k2 := k2) (k3 := k3) (k5 := k5)
    PySem.F.excBase_ValueError (mN := mN) (T.hasType PySem.F.excBase_ValueError.hasBase) (I.ok.hd rfl) (by rw [he]; show (false || (backTo cpos (starEach rest _)).any (·.1)) = false; rw [hplain]; rfl) hni (ld_glob I hg hm ⟨rfl, ?_⟩ hd)
  have h := ha cpos pins s σ H _ I h
  rw [he] at h ⊢
  refine Calls.evalArgs_plain (wpAny_mono h (fun vs s₂ h₂ => ?_) fun _ _ y => y)
  obtain ⟨zs, H2, I2, rz, hz, hE⟩ := h₂
  refine ⟨rfl, by rw [← rz.length]; exact hz, I2.bk _ _ hC, hN.keeps I2.bk, T.keeps I2.bk, fun h' e hme => ?_⟩
  exact leave_made rfl rfl rfl I2 hme hE
end L2

/-! ## try, except C as e; isinstance of a caught exception -/
namespace L2
open PySem PySem.Spec PyProof.Rows
section
variable {X : Cx} {pins : List (Addr × Obj)} {σ : St} {H : Hp} {s : Shared} {e C : Addr}
/-- the state where the ground stays, some new records and slots of frames aside -/
theorem Inv.held (I : Inv X pins σ H s) {ns : List Addr} {h' : Heap} {tk : Nat} (hns : ∀ b ∈ ns, X.s₀.heap.get? b = none ∧ H b = none ∧ (∀ p ∈ X.pn ++ pins, p.1 ≠ b)) (k : (grd X s.heap ns).StaysIn h') (up : s.heap.UpToSlots h') : Inv X pins σ H { s with heap := h', toks := tk } := by
  have nns : ∀ b o, X.s₀.heap.get? b = some o → b ∉ ns := fun b o q z => by rw [(hns b z).1] at q; cases q
  have noL : ∀ b o, X.s₀.heap.get? b = some o → b ≠ X.env.locals := fun b o q => Nat.ne_of_lt (Nat.lt_of_lt_of_le (Heap.lt_size q) I.ok.above)
  have nfs : ∀ b, b ≠ X.env.locals → b ∉ X.fs → b ∉ frs X.stack := fun b h1 h2 z => (List.mem_cons.mp (I.stkSub b z)).elim h1 h2
  have slot : ∀ b u, b ∈ X.fs → s.heap.get? b = some u → ∃ sl, h'.get? b = some { u with slots := sl } := fun b u hb g => by
    obtain ⟨_, o', ho', hd⟩ := I.funs.mem hb
    rw [g] at ho'
    cases ho'
    exact up b u g hd
  have cellK : ∀ c v, s.heap.IsCell c v → h'.IsCell c v := fun c v ⟨o, ho, hd⟩ => by
    obtain ⟨sl, g⟩ := up c o ho fun vs q => by rw [hd] at q; cases q
    exact ⟨_, g, hd⟩
  refine ⟨I.ok, I.os, I.bare, ⟨fun b o q n hb hx => ?_, fun b o q n hb hx => ?_, I.base.free, fun b o q hx => ?_, I.base.tups, I.base.frzs, I.base.tbls⟩, ?_, fun x c q => ?_, I.free, I.freeC, fun p hp => ?_, hok_grd I.hok I.stkFree (fun b hb => (hns b hb).2.1) k, I.len⟩
  · exact k b o (grd_get (I.base.keep b o q n hb hx) (nfs b (noL b o q) hb) (nns b o q))
  · obtain ⟨sl, g⟩ := I.base.slot b o q n hb hx
    obtain ⟨sl', g'⟩ := slot b _ hb g
    exact ⟨sl', g'⟩
  · obtain ⟨u, g⟩ := I.base.there b o q hx
    by_cases hb : b ∈ X.fs
    · obtain ⟨sl, g'⟩ := slot b u hb g
      exact ⟨_, g'⟩
    · exact ⟨u, k b u (grd_get g (nfs b (noL b o q) hb) (nns b o q))⟩
  · obtain ⟨m, hn, hl⟩ := I.loc
    refine ⟨m, up.ns hn, fun i x v e1 e2 e3 => ?_⟩
    obtain ⟨u, r, l⟩ := hl i x v e1 e2 e3
    refine ⟨u, r, ?_⟩
    rcases l with l | ⟨kk, c, q, z⟩
    · exact .inl l
    · exact .inr ⟨kk, c, q, cellK c _ z⟩
  · obtain ⟨v, z⟩ := I.cell x c q
    exact ⟨v, cellK c v z⟩
  · obtain ⟨q, n, ne, nf, d⟩ := I.pin p hp
    exact ⟨k p.1 p.2 (grd_get q (nfs p.1 ne nf) fun z => (hns p.1 z).2.2 p hp rfl), n, ne, nf, d⟩
/-- a name of the def is gone -/
theorem Inv.gone (I : Inv X pins σ H s) (hN : X.N.Nodup) {i : Nat} {n : Str} {h' : Heap} {tk : Nat} {m : Str → Option Value} {v : Option Value} (hi : X.N[i]? = some n) (hn : s.heap.Ns X.env.locals m)
    (hn' : h'.Ns X.env.locals (fun x => if x = n then v else m x)) (hs : Heap.SameBut X.env.locals s.heap h') : Inv X pins (σ.set i none) H { s with heap := h', toks := tk } := by
  obtain ⟨m0, hn0, hl⟩ := id I.loc
  have em : m0 = m := by
    funext x
    obtain ⟨o, es, ep, ho, hd, _, hf⟩ := hn0
    obtain ⟨o', es', ep', ho', hd', _, hf'⟩ := hn
    rw [ho] at ho'
    cases ho'
    rw [hd] at hd'
    cases hd'
    rw [← hf, ← hf']
  subst em
  have cne := I.cne
  have hiσ : i < σ.length := by rw [I.len]; exact (List.getElem?_eq_some_iff.mp hi).1
  obtain ⟨oL, _, _, hoL, _⟩ := id hn
  refine ⟨I.ok, I.os, I.bare, ⟨fun b o q n hb hx => ?_, fun b o q n hb hx => ?_, I.base.free, fun b o q hx => ?_, I.base.tups, I.base.frzs, I.base.tbls⟩, ⟨_, hn', fun j y v' e1 e2 e3 => ?_⟩, fun y c q => ?_, I.free, I.freeC, fun p hp => ?_, fun b ob q => ?_, by simpa using I.len⟩
  · exact (hs.2 b (Nat.ne_of_lt (Nat.lt_of_lt_of_le (Heap.lt_size q) I.ok.above))).trans (I.base.keep b o q n hb hx)
  · obtain ⟨sl, e1⟩ := I.base.slot b o q n hb hx
    exact ⟨sl, (hs.2 b (Nat.ne_of_lt (Nat.lt_of_lt_of_le (Heap.lt_size q) I.ok.above))).trans e1⟩
  · obtain ⟨o', e1⟩ := I.base.there b o q hx
    exact ⟨o', (hs.2 b (Nat.ne_of_lt (Nat.lt_of_lt_of_le (Heap.lt_size q) I.ok.above))).trans e1⟩
  · by_cases hj : j = i
    · subst hj
      rw [List.getElem?_set_self hiσ] at e2
      cases e2
    · rw [List.getElem?_set_ne (Ne.symm hj)] at e2
      obtain ⟨u', r', q⟩ := hl j y v' e1 e2 e3
      refine ⟨u', r', ?_⟩
      rcases q with ⟨k, e⟩ | ⟨k, c, e, z⟩
      · refine .inl ⟨k, ?_⟩
        have : y ≠ n := fun e => hj (nodup_ix hN e1 (e ▸ hi))
        simp [this, e]
      · exact .inr ⟨k, c, e, z.sameBut hs (cne y c e)⟩
  · obtain ⟨w', z⟩ := I.cell y c q
    exact ⟨w', z.sameBut hs (cne y c q)⟩
  · obtain ⟨q, n, ne, nf, d⟩ := I.pin p hp
    exact ⟨(hs.2 p.1 ne).trans q, n, ne, nf, d⟩
  · refine (I.hok b ob q).stay (fun c w' hc q' => (hs.2 c ?_).trans q') (fun _ q => q) fun _ _ q => q
    rintro rfl
    rcases hc with z | hc
    · subst z
      rw [I.free] at q; cases q
    · rw [I.free] at hc; cases hc
end
/-! ### the contexts within a try -/
/-- within its body: what is wanted of an exception may hang on the names' values -/
abbrev tryCx (X : Cx) (pins : List (Addr × Obj)) (R : St → XK) : Cx := { X with pn := X.pn ++ pins, xe := fun ev s' => ∃ (σ : St) (H1 : Hp) (s1 : Shared), Inv X pins σ H1 s1 ∧ CXW X.prog X.w X.stack H1 s1 (R σ) ev s' }
/-- within an except suite: the exception stands there -/
abbrev hanCx (X : Cx) (pins : List (Addr × Obj)) (e : Addr) (oe : Obj) : Cx := { X with A := X.A.mark (some (.ref e)), calm := false, pn := X.pn ++ pins ++ [(e, oe)], xe := fun _ _ => False }
section
variable {X : Cx} {pins pins' : List (Addr × Obj)} {σ : St} {H : Hp} {s : Shared} {R : St → XK} {e C : Addr} {oe : Obj}
theorem Inv.inTry (I : Inv X pins σ H s) : Inv (tryCx X pins R) [] σ H s :=
  ⟨⟨I.ok.mod, I.ok.kind, I.ok.glob, I.ok.blt, I.ok.above, I.ok.inj, I.ok.has, I.ok.cab, I.ok.hd, I.ok.frames, I.ok.stk, I.ok.exf, I.ok.bs, I.ok.bsz, I.ok.noex, I.ok.exfs, I.ok.funs, I.ok.frf⟩, I.os, I.bare, I.base, I.loc, I.cell, I.free, I.freeC, fun p hp => I.pin p (by simpa using hp), I.hok, I.len⟩
theorem Inv.outTry (I : Inv (tryCx X pins R) pins' σ H s) : Inv X pins σ H s :=
  ⟨⟨I.ok.mod, I.ok.kind, I.ok.glob, I.ok.blt, I.ok.above, I.ok.inj, I.ok.has, I.ok.cab, I.ok.hd, I.ok.frames, I.ok.stk, I.ok.exf, I.ok.bs, I.ok.bsz, I.ok.noex, I.ok.exfs, I.ok.funs, I.ok.frf⟩, I.os, I.bare, I.base, I.loc, I.cell, I.free, I.freeC, fun p hp => I.pin p (List.mem_append_left _ hp), I.hok, I.len⟩
theorem SP.outTry {D : Ends} {f : Flow} (h : SP (tryCx X pins R) [] D f s) : SP X pins D f s := by
  cases f with
  | next => obtain ⟨σ', H', I, q⟩ := h; exact ⟨σ', H', I.outTry, q⟩
  | brk => obtain ⟨σ', H', I, q⟩ := h; exact ⟨σ', H', I.outTry, q⟩
  | cont => obtain ⟨σ', H', I, q⟩ := h; exact ⟨σ', H', I.outTry, q⟩
  | ret u => obtain ⟨v, σ', H', I, r, q⟩ := h; exact ⟨v, σ', H', I.outTry, r, q⟩
theorem Inv.inHan (I : Inv X pins σ H s) (h1 : s.heap.get? e = some oe) (h2 : H e = none) (h3 : e ≠ X.env.locals) (h4 : e ∉ X.fs) (h5 : ∀ v, oe.data ≠ .cell v) : Inv (hanCx X pins e oe) [] σ H s :=
  ⟨⟨I.ok.mod, I.ok.kind, I.ok.glob, I.ok.blt, I.ok.above, I.ok.inj, I.ok.has, I.ok.cab, (fun z => (nomatch z)), I.ok.frames, I.ok.stk, I.ok.exf, I.ok.bs, I.ok.bsz, I.ok.noex, I.ok.exfs, I.ok.funs, I.ok.frf⟩, I.os, I.bare, I.base, I.loc, I.cell, I.free, I.freeC, fun p hp => by
    rw [List.append_nil] at hp
    rcases List.mem_append.mp hp with z | z
    · exact I.pin p z
    · rw [List.mem_singleton.mp z]; exact ⟨h1, h2, h3, h4, h5⟩, I.hok, I.len⟩
theorem Inv.outHan (hd : X.calm = true → X.A.handled = none) (fr : X.A.frames = some X.stack) (I : Inv (hanCx X pins e oe) pins' σ H s) : Inv X pins σ H s :=
  ⟨⟨I.ok.mod, I.ok.kind, I.ok.glob, I.ok.blt, I.ok.above, I.ok.inj, I.ok.has, I.ok.cab, hd, fr, I.ok.stk, I.ok.exf, I.ok.bs, I.ok.bsz, I.ok.noex, I.ok.exfs, I.ok.funs, I.ok.frf⟩, I.os, I.bare, I.base, I.loc, I.cell, I.free, I.freeC, fun p hp => I.pin p (List.mem_append_left _ (List.mem_append_left _ hp)), I.hok, I.len⟩
end
/-! ### calls that may raise, by what is wanted at these names' values -/
def PassesX (CX : CXT) (X : Cx) (R : St → XK) : Prop := ∀ (pins : List (Addr × Obj)) (σ : St) (H : Hp) (s : Shared) (e : Value) (s' : Shared), Inv X pins σ H s → CX X.stack H s (R σ) e s' → X.xe e s'
theorem pxT {X : Cx} {pins : List (Addr × Obj)} {P : Program} {w : World} {R : St → XK} (hP : P = X.prog := by rfl) (hw : w = X.w := by rfl) : PassesX (CXW P w) (tryCx X pins R) R := by
  subst hP hw
  exact fun _ σ H s _ _ I h => ⟨σ, H, s, I.outTry, h⟩
def tCallX (sp : Sp) (dvs : List V) (R : St → XK) (t : TA) : TE := fun σ H Q => t σ H fun vs H1 => sp (vs ++ dvs) H1 Q (R σ)
section
variable {X : Cx} {CX : CXT} {k : Nat} {f C : Addr} {fd : FuncData} {ps : List Str} {sp : Sp} {dvs : List V} {ds : List Value} {R : St → XK} {x m : Str} {p pos apos : Pos} {e o : Expr} {es : List Expr} {ta : TE} {t : TA}
theorem run_fnX {pins : List (Addr × Obj)} {σ : St} {H : Hp} {s : Shared} {Q : VK} {us : List Value} {vs : List V} (F : FnOk X.prog X.w X.K X.mg X.base CX k f fd ps sp) (hr : Room k X.A) (hb : Binds X.K fd ps ds) (hd : Vals dvs ds) (hx : PassesX CX X R)
    (I : Inv X pins σ H s) (r : Vals vs us) (h : sp (vs ++ dvs) H Q (R σ)) : wpAny (model X.prog X.w) X.A (call (.ref f) us) (EP X pins σ Q) X.xe s := by
  have r2 : Vals (vs ++ dvs) (us ++ ds) := r.append hd
  have hl : (us ++ ds).length = ps.length := by rw [← r2.length]; exact F.len _ _ _ _ h
  refine wpAny_call (codeAny_mono (F.run X.A X.stack s H ⟨us, []⟩ (us ++ ds) (vs ++ dvs) Q (R σ) hr I.env0 (hb s us I.kIn hl) r2 h) fun r s' hq => ?_)
  cases r with
  | error e => exact hx pins σ H s e s' I hq
  | ok fl =>
    cases fl with
    | ret u => exact I.after hq
    | next => exact False.elim hq
    | brk => exact False.elim hq
    | cont => exact False.elim hq
theorem pe_callX (F : FnOk X.prog X.w X.K X.mg X.base CX k f fd ps sp) (hr : Room k X.A) (hg : Gl X x) (hm : X.mg x = some (.ref f)) (hk : PySem.W.keepIn X.K (.ref f) = true) (hb : Binds X.K fd ps ds) (hd : Vals dvs ds) (hx : PassesX CX X R)
    (ha : PA X (e :: es) t) (hdb : (x == ("__debug__" : Str)) = false := by decide) (he : starEach (e :: es) X.env = (false, eval e X.env) :: starEach es X.env := by rfl) (hpl : (backTo pos (starEach es X.env)).any (·.1) = false := by rfl) :
    PE X (.Call (.Name x p) (e :: es) [] pos) (tCallX sp dvs R t) := by
  intro pins s σ H Q I h
  refine wpAny_Call_Name_kw (ld_glob I hg hm ?_ hdb)
  refine PySem.W.callWith_K (h₀ := X.base) I.ok.mod.kin hk (thn (ha pos pins s σ H _ I h) fun us s1 ⟨vs, H1, I1, r, q⟩ => ⟨I1.kIn, ?_⟩) he hpl
  exact run_fnX F hr hb hd hx I1 r q
end
/-! ### the statement -/
def Ends.less (D : Ends) (i : Nat) : Ends := { nx := fun σ H => D.nx (σ.set i none) H, rt := D.rt, bk := fun σ H => D.bk (σ.set i none) H, ct := fun σ H => D.ct (σ.set i none) H }
/-- try: .. except W as n (n in the i-th slot): tb the body's reading, th the suite's, by the exception's address and class -/
def tTry (K : PySem.W.Frag) (W : Addr) (i : Nat) (tb : (St → XK) → TS) (th : Addr → Addr → TS) : TS := fun D σ H =>
  tb (fun σ' c _ H' => ∃ C, c = Value.ref C ∧ PySem.W.exmOne K (.ref C) (.ref W) = some true ∧ ∀ e : Addr, H' e = none → th e C (D.less i) (σ'.set i (some (.ref e))) H') D σ H
theorem ps_try {X : Cx} {W : Addr} {i : Nat} {x n : Str} {np hpos pos : Pos} {body : List Stmt} {b₀ : Stmt} {suite : List Stmt} {tb : (St → XK) → TS} {th : Addr → Addr → TS}
    (hst : X.stack = X.env :: X.outer) (hfr : X.env.frame = some X.env.locals) (hex : X.ex = []) (hN : X.N.Nodup) (hi : X.N[i]? = some n) (hl : X.env.kindOf n = some .local) (hm : X.mg x = some (.ref W)) (hg : Gl X x)
    (hb : ∀ (R : St → XK) (pins : List (Addr × Obj)), PSs (tryCx X pins R) body (tb R)) (hs : ∀ (e C : Addr) (oe : Obj) (pins : List (Addr × Obj)), oe.cls = .ref C → PSs (hanCx X pins e oe) (b₀ :: suite) (th e C)) (hdb : (x == ("__debug__" : Str)) = false := by decide) :
    PS X (.Try body [.ExceptHandler (some (.Name x np)) (some n) (b₀ :: suite) hpos] [] [] pos) (tTry X.K W i tb th) := by
  intro pins s σ H D I h
  refine wpAny_Try_except (wpAny_mono (hb _ pins [] s σ H D I.inTry h) (fun f s1 q => ?_) (fun ev s1 q => ?_))
  · have q := SP.outTry q
    cases f with
    | next => exact wpAny_execs_nil q
    | brk => exact q
    | cont => exact q
    | ret u => exact q
  · obtain ⟨σ1, H1, s0, I0, hcx⟩ := q
    obtain ⟨e, C, H', rfl, J, F, C', eC, hmt, hR⟩ := I0.flown hcx
    cases eC
    have hR := hR e F.free
    obtain ⟨T, a0, fl, nT, fT⟩ := fly_base hst J F
    have hns : ∀ b ∈ [e, T], X.s₀.heap.get? b = none ∧ H' b = none ∧ (∀ p ∈ X.pn ++ pins, p.1 ≠ b) := fun b hb => by
      have key : ∀ b, s0.heap.get? b = none → H' b = none → X.s₀.heap.get? b = none ∧ H' b = none ∧ (∀ p ∈ X.pn ++ pins, p.1 ≠ b) := fun b n0 f0 => ⟨I0.was hex n0, f0, fun p hp z => by
        have := (I0.pin p hp).1
        rw [z, n0] at this
        cases this⟩
      rcases List.mem_cons.mp hb with rfl | hb
      · exact key _ F.new F.free
      · rw [List.mem_singleton.mp hb]; exact key _ nT fT
    rw [hst] at fl
    refine wpAny_looks_onW (by rw [J.ok.frames, hst]) hfr fl fun h₄ held₄ up₄ => ?_
    refine wpAny_landsW held₄ fun h₅ fl₅ up₅' => ?_
    have up₅ := up₄.trans up₅'
    have J₅ : Inv X pins σ1 H' { s1 with heap := h₅ } := J.held (tk := s1.toks) hns fl₅.1 up₅
    obtain ⟨ob, hob, hobc⟩ := fl₅.there
    refine wpAny_handleBy_cons (codeAny_handlers_test (Calls.Name_function_global J₅.ok.kind hg (Calls.loadGlobal_global (by rw [J₅.ok.glob]; exact J₅.mod.glob.keeps J₅.bk) hm ?_) hdb)) (by intro q; cases q)
    have LT : PySem.W.Looks (model X.prog X.w) h₅ (typeOf (.ref e)) (.ref C) := by
      rw [← hobc]
      exact (PySem.W.Looks.ld hob).andThen .now
    refine (PySem.W.exm_one J₅.kIn LT hmt).here ?_
    refine codeAny_handlers_suite_as ?_
    refine lands_againW fl₅ fun h₆ fl₆ up₆ => ?_
    have J₆ : Inv X pins σ1 H' { s1 with heap := h₆ } := J.held (tk := s1.toks) hns fl₆.1 (up₅.trans up₆)
    obtain ⟨oe, ws, hoe, hoec, hoed, hoe0⟩ := fl₆.first
    have neL : e ≠ X.env.locals := fun z => by
      obtain ⟨m, ⟨o', es, ep, ho', hd', _⟩, _⟩ := J₆.loc
      rw [← z] at ho'
      have hoe' : h₆.get? e = some oe := hoe
      have ho'' : h₆.get? e = some o' := ho'
      rw [hoe'] at ho''
      cases ho''
      rw [hoed] at hd'
      cases hd'
    have nfs : e ∉ X.fs := fun z => by
      obtain ⟨_, o', ho', hd⟩ := J₆.funs.mem z
      have hoe' : h₆.get? e = some oe := hoe
      have ho'' : h₆.get? e = some o' := ho'
      rw [hoe'] at ho''
      cases ho''
      exact hd ws hoed
    refine store_ok2 J₆ hN hi (.inl hl) (v := .ref e) rfl (fun s7 J₇ hsb => ?_) (.inr hl)
    obtain ⟨a, hsame, ha⟩ := hsb
    have hea : e ≠ a := by
      rcases ha with rfl | ha
      · exact neL
      · intro z
        obtain ⟨v, o', ho', hd'⟩ := J₆.cell _ _ ha
        rw [← z] at ho'
        have hoe' : h₆.get? e = some oe := hoe
        have ho'' : h₆.get? e = some o' := ho'
        rw [hoe'] at ho''
        cases ho''
        rw [hoed] at hd'
        cases hd'
    have hoe7 : s7.heap.get? e = some oe := (hsame.2 e hea).trans hoe
    have JH := J₇.inHan (oe := oe) hoe7 F.free neL nfs (fun v z => by rw [hoed] at z; cases z)
    refine wpAny_mono (hs e C oe pins hoec [] s7 _ H' (D.less i) JH hR) (fun f s8 q => ?_) fun _ _ z => False.elim z
    have hp : (X.env.scope.kind == .class || (X.env.scope.kind == .module && X.env.locals != X.env.globals)) = false := by rw [J.ok.kind]; rfl
    have fin : ∀ {σ8 : St} {H8 : Hp}, Inv (hanCx X pins e oe) [] σ8 H8 s8 → ∀ {Q : Flow → Shared → Prop}, (∀ s9, Inv X pins (σ8.set i none) H8 s9 → Q f s9) → wpAny (model X.prog X.w) X.A (do bindName X.env n .none; unbindBehindTheSuite X.env n hpos) (fun _ s9 => Q f s9) X.xe s8 := fun {σ8 H8} J8 {Q} k => by
      have J9 := J8.outHan I.ok.hd I.ok.frames
      obtain ⟨m, hn, _⟩ := id J9.loc
      exact wpAny_nameGoes_keeps hl hn hp fun h' v hn' hsm => k _ (J9.gone hN hi hn hn' hsm)
    cases f with
    | next => obtain ⟨σ8, H8, J8, q⟩ := q; exact fin J8 fun s9 J9 => ⟨_, H8, J9, q⟩
    | brk => obtain ⟨σ8, H8, J8, q⟩ := q; exact fin J8 fun s9 J9 => ⟨_, H8, J9, q⟩
    | cont => obtain ⟨σ8, H8, J8, q⟩ := q; exact fin J8 fun s9 J9 => ⟨_, H8, J9, q⟩
    | ret u => obtain ⟨v, σ8, H8, J8, r, q⟩ := q; exact fin J8 fun s9 J9 => ⟨v, _, H8, J9, r, q⟩
end L2

/-! ## isinstance of a caught exception -/
namespace L2
open PySem PySem.Spec PyProof.Rows PySem.W PySem.Calls Builtin Builtin.ObjectAttr Builtin.Getset_descriptor
section
variable {prog : Program} {w : World} {A : Around} {E : Value → Shared → Prop} {K : PySem.W.Frag} {x C : Addr} {ox : Obj}
theorem xc_get {R : Result → Shared → Prop} {s : Shared} {tp : Value} (X : K.In s.heap) (hx : s.heap.get? x = some ox) (hc : ox.cls = .ref C) (hm : mroIn K C (.type "object") = some true)
    (h : R (.ok (.ret (.ref C))) s) : codeAny (model prog w) A (.call (.builtin "getset_descriptor.__get__") ⟨[.builtin "object.__class__", .ref x, tp], []⟩) R s := by
  obtain ⟨hh, g, dr, t, os⟩ := s
  have L0 : Looks (model prog w) hh (typeOf (.ref x)) (.ref C) := by
    rw [← hc]
    exact (Looks.ld hx).andThen .now
  have L1 := looks_mroIn (M := model prog w) X hm
  refine codeAny_call_builtin KF.slot_gs.plain KF.entry_gs (KF.slot_gs.check _ _ _ _ _ _ _ _ KF.type_class (KF.args_gs _ _ _) ?_)
  unfold Builtin.«getset_descriptor.__get__» descrGet
  rw [dga_obj]
  refine wpAny_bind (wpAny_pure ?_)
  unfold descrGetter descrCheckInstance descrNameAndClass isInstance
  simp only [KF.owner_class]
  repeat lk
  refine ⟨Code.quiet_builtin _ (by decide +kernel), codeAny_builtin KF.entry_class ?_⟩
  unfold Builtin.«object.__class__» shownTypeOf
  repeat lk
  exact h
theorem xc_entry {tk : Tok} {Q : Fin → Shared → Prop} {s : Shared} (X : K.In s.heap) (hx : s.heap.get? x = some ox) (hc : ox.cls = .ref C) (c : XCls K C) (hq : Q (.done (.ret (.ref C))) s) :
    wpAny (model prog w) A (Builtin.«object.__getattribute__» ⟨[.ref x, .str "__class__" tk], []⟩) Q E s := by
  obtain ⟨hh, g, dr, t, os⟩ := s
  have L0 : Looks (model prog w) hh (typeOf (.ref x)) (.ref C) := by
    rw [← hc]
    exact (Looks.ld hx).andThen .now
  have L1 := looks_findIn (M := model prog w) X c.cl
  have hT5 : (⟨hh, g, dr, t, os⟩ : Shared).TypeIs (.builtin "object.__class__") "getset_descriptor" := F.typeOf_object_class
  have f5 := F.typeOf_object_class
  have f6 := F.slot_gs_get.lookup
  have f7 := F.slot_gs_set.lookup
  repeat (any_goals (first | assumption | (with_reducible refine L0.at ?_) | (with_reducible refine L1.at ?_) | wp_step))
  refine xc_get (s := ⟨hh, g, dr, t, os⟩) X hx hc c.ob ?_
  exact wpAny_pure hq
theorem xc_check {M : Model} {nameV : Value} {Q : Unit → Shared → Prop} {s : Shared} (X : K.In s.heap) (hx : s.heap.get? x = some ox) (hc : ox.cls = .ref C) (c : XCls K C) (hq : Q () s) :
    wpAny M A (checkBuiltinCall "BaseException.__getattribute__" ⟨[.ref x, nameV], []⟩) Q E s := by
  obtain ⟨hh, g, dr, t, os⟩ := s
  have hk : builtinKind "BaseException.__getattribute__" = some .slot := by decide +kernel
  have hsplit : splitId "BaseException.__getattribute__" = some ("BaseException", "__getattribute__") := by decide +kernel
  have ha := PySem.F.args_bexc_ga (.ref x) nameV
  have L0 : Looks M hh (typeOf (.ref x)) (.ref C) := by
    rw [← hc]
    exact (Looks.ld hx).andThen .now
  have L1 := looks_mroIn (M := M) X c.bx
  simp only [checkBuiltinCall, hk, hsplit]
  refine wpAny_bind ?_
  refine wpAny_bind (L0.at (L1.at ?_))
  repeat (any_goals (first | assumption | wp_step))
theorem xc_call {tk : Tok} {R : Result → Shared → Prop} {s : Shared} (X : K.In s.heap) (hx : s.heap.get? x = some ox) (hc : ox.cls = .ref C) (c : XCls K C) (hq : R (.ok (.ret (.ref C))) s) :
    codeAny (model prog w) A (.call (.builtin "BaseException.__getattribute__") ⟨[.ref x, .str "__class__" tk], []⟩) R s :=
  codeAny_call_builtin PySem.F.attr_ValueError.ga.plain PySem.F.entry_bexc_ga (xc_check X hx hc c (xc_entry X hx hc c hq))
theorem xc_by {tk : Tok} {Q : Value → Shared → Prop} {s : Shared} (X : K.In s.heap) (hx : s.heap.get? x = some ox) (hc : ox.cls = .ref C) (c : XCls K C) (hq : Q (.ref C) s) :
    wpAny (model prog w) A (getAttrBy (.ref x) (.str "__class__" tk) false) Q E s := by
  obtain ⟨hh, g, dr, t, os⟩ := s
  have f3 := PySem.F.attr_ValueError.ga.bind (.ref x)
  have hx2 : (Value.builtin "BaseException.__getattribute__" == Value.builtin "object.__getattribute__") = false := by decide +kernel
  have hx1 : (onTheHeap (Value.ref C) && Value.builtin "BaseException.__getattribute__" == Value.builtin "object.__getattribute__") = false := by rw [hx2]; rfl
  have L0 : Looks (model prog w) hh (typeOf (.ref x)) (.ref C) := by
    rw [← hc]
    exact (Looks.ld hx).andThen .now
  have L1 := looks_findIn (M := model prog w) X c.ga
  have L2 := looks_findIn (M := model prog w) X c.gh
  repeat (any_goals (first | assumption | (with_reducible refine L0.at ?_) | (with_reducible refine L1.at ?_) | (with_reducible refine L2.at ?_) | wp_step))
  refine xc_call (s := ⟨hh, g, dr, t, os⟩) X hx hc c ?_
  repeat (any_goals (first | assumption | wp_step))
theorem xc_attr {Q : Option Value → Shared → Prop} {s : Shared} (X : K.In s.heap) (hx : s.heap.get? x = some ox) (hc : ox.cls = .ref C) (c : XCls K C) (hq : Q (some (.ref C)) { s with toks := s.toks + 1 }) :
    wpAny (model prog w) A (getAttr? (.ref x) "__class__") Q E s := by
  obtain ⟨hh, g, dr, t, os⟩ := s
  unfold getAttr? getAttrBy?
  repeat (any_goals (first | assumption | with_reducible refine xc_by (s := ⟨hh, g, dr, _, os⟩) X hx hc c ?_ | wp_step))
theorem kitx_exc (c : XCls K C) (hcl : (clsIn K C).isSome = true) (hc : ox.cls = .ref C) : KitX K (.ref x) (.ref C) (fun h => h.get? x = some ox) where
  ty := fun _ _ _ hx => by
    rw [← hc]
    exact (Looks.ld hx).andThen .now
  it := fun _ _ X _ => by
    unfold clsIn at hcl
    split at hcl
    · rename_i c' d' cd' sl' ho
      intro A' Q' E' s' k q
      unfold isType loadHead
      exact wpAny_bind (wpAny_loadPart (k _ _ (X _ _ ho)) (wpAny_pure q))
    · cases hcl
  ne := fun h tp dd its n sl X htp => by
    refine Bool.eq_false_iff.mpr fun q => ?_
    have e : C = tp := Value.ref.inj (beq_iff_eq.mp q)
    subst e
    unfold clsIn at hcl
    split at hcl
    · rename_i c' d' cd' sl' ho
      have := X _ _ ho
      rw [htp] at this
      cases this
    · cases hcl
  ca := fun {_ _ _ _ _ s} X hx hq => xc_attr X hx hc c hq
end
theorem XCls.isSome {K : PySem.W.Frag} {C : Addr} (c : XCls K C) : (clsIn K C).isSome = true := by
  have q := c.ex
  unfold excIn at q
  unfold clsIn
  split at q
  · rename_i dd cd sl ho
    rw [ho]
    rfl
  · cases q
section
variable {X : Cx}
/-- isinstance(e, D) of a pinned exception, by what is known of its class -/
theorem call_isiX (K : PySem.W.Frag) {e C : Addr} {oe : Obj} (hp : (e, oe) ∈ X.pn) (hc : oe.cls = .ref C) (h : X.K = K := by rfl) : CallR X (.builtin "isinstance") (fun xs H Q => ∃ (d : V) (u : Value) (b : Bool), xs = [.ref e, d] ∧ (∀ z, RelV d z → z = u) ∧ XCls K C ∧ kitOne K (.ref C) u = some b ∧ Q (.bl b) H) := by
  subst h
  intro pins s σ H xs us Q I r h
  obtain ⟨d, u, b, rfl, hd, c, hk, q⟩ := h
  obtain ⟨u1, v, rfl, ru, rv⟩ := vals_two r
  obtain rfl : u1 = Value.ref e := ru
  obtain rfl := hd v rv
  have hx := (I.pin (e, oe) (List.mem_append_left _ hp)).1
  exact kia_one (kitx_exc c c.isSome hc) I.kIn hx hk (fun z => nomatch z) fun tk => ⟨.bl b, H, I.tok tk, rfl, q⟩
end
end L2

/-! ## f-texts of ints -/
namespace L2
open PySem PySem.Spec PyProof.Rows
section
variable {X : Cx} {es : List Expr} {e : Expr} {te : TE} {t : St → Hp → (Hp → Prop) → Prop} {pos : Pos}
end
end L2

namespace L2
open PySem PySem.Spec PyProof.Rows
/-- no exception is let through -/
theorem passN {P : Program} {w : World} {X : Cx} : Passes (CXW P w) X E0 := fun _ _ _ _ _ _ _ h => by
  obtain ⟨_, _, _, _, _, _, _, _, _, z⟩ := h
  exact z.elim
end L2

/-! ## lists of ints: slices, sums of lists -/
namespace My
open PySem L2
def cutI (ns : List Int) (lo hi : Option Int) : List Int := (ns.drop (HT.sIx ns.length 0 lo)).take (HT.sIx ns.length ns.length hi - HT.sIx ns.length 0 lo)
theorem cutI_eq (ns : List Int) (lo hi : Option Int) : cutV (IL ns) lo hi = IL (cutI ns lo hi) := by
  unfold cutV cutI
  rw [il_take, il_drop, il_length]
end My

/-! ## what the laws share: the web made, the number of turns -/
namespace My
open PySem L2
theorem xI {α : Type} {p : α → Prop} {w : α} (h : p w) : ∃ x, p x := ⟨w, h⟩
end My

/-! ## sorted(ints), reversed(list), list(reversed(list)) -/
namespace L2
open PySem PySem.Spec PyProof.Rows
section
variable {X : Cx}
end
/-! ### reversed(list) -/
section
variable {X : Cx}
section
variable {prog : Program} {w : World} {A : Around} {E : Value → Shared → Prop} {s : Shared} {it a : Addr} {items : Array Value}
end
end
section
variable {X : Cx} {p p2 pos pos2 : Pos} {e : Expr} {t : TA}
end
end L2

/-! ## sets of ties: ascending lists -/
namespace My
open PySem L2
theorem isSet_iff {m : Nat} {ns : List Int} : IsSet m ns ↔ (∀ z ∈ ns, 0 ≤ z ∧ z < (m : Int)) ∧ ns.Pairwise (· < ·) := by
  constructor
  · intro h
    refine ⟨h.all, ?_⟩
    rw [List.pairwise_iff_getElem]
    intro i j hi hj hij
    induction j with
    | zero => exact absurd hij (Nat.not_lt_zero i)
    | succ j ih =>
      have hj' : j < ns.length := by omega
      have key := (h (j + 1) ns[j + 1] (List.getElem?_eq_getElem hj)).2.2 ns[j] (by omega) (by rw [Nat.add_sub_cancel]; exact List.getElem?_eq_getElem hj')
      by_cases e : i = j
      · subst e; exact key
      · have := ih hj' (by omega)
        omega
  · rintro ⟨ha, hp⟩ i z hz
    obtain ⟨hi, ei⟩ := List.getElem?_eq_some_iff.mp hz
    have hm := ha z (List.mem_of_getElem? hz)
    refine ⟨hm.1, hm.2, fun y h0 hy => ?_⟩
    obtain ⟨hi', ei'⟩ := List.getElem?_eq_some_iff.mp hy
    have := List.pairwise_iff_getElem.mp hp (i - 1) i hi' hi (by omega)
    rw [ei, ei'] at this
    exact this
theorem lt_nodup {ns : List Int} (h : ns.Pairwise (· < ·)) : ns.Nodup := h.imp fun hab e => by omega
theorem IsSet.nodup {m : Nat} {ns : List Int} (h : IsSet m ns) : ns.Nodup := lt_nodup (isSet_iff.mp h).2
end My

/-! ## joined places: the closure of the ties; how many pieces there are -/
namespace My
theorem snoc_ind {α : Type} {P : List α → Prop} (h0 : P []) (h1 : ∀ l x, P l → P (l ++ [x])) : ∀ l, P l := by
  intro l
  rw [← List.reverse_reverse l]
  induction l.reverse with
  | nil => exact h0
  | cons x r ih =>
    rw [List.reverse_cons]
    exact h1 _ _ ih
/-- two places are joined over ties -/
inductive Conn (es : List (Nat × Nat)) : Nat → Nat → Prop
  | refl (i : Nat) : Conn es i i
  | edge {a b : Nat} (h : (a, b) ∈ es) : Conn es a b
  | symm {i j : Nat} : Conn es i j → Conn es j i
  | trans {i j k : Nat} : Conn es i j → Conn es j k → Conn es i k
theorem Conn.mono {es fs : List (Nat × Nat)} (h : ∀ e ∈ es, e ∈ fs) {i j : Nat} (c : Conn es i j) : Conn fs i j := by
  induction c with
  | refl i => exact .refl i
  | edge q => exact .edge (h _ q)
  | symm _ ih => exact .symm ih
  | trans _ _ i1 i2 => exact .trans i1 i2
theorem mk_range {n i : Nat} (h : i < n) : mk ((List.range n).map fun (i : Nat) => (i : Int)) i = (i : Int) := by
  rw [mk_map' h]
where
  mk_map' {n i : Nat} (h : i < n) : mk ((List.range n).map fun (i : Nat) => (i : Int)) i = (i : Int) := by
    simp [mk, List.getD_eq_getElem?_getD, List.getElem?_map, List.getElem?_range h]
def InN (n : Nat) (es : List (Nat × Nat)) : Prop := ∀ e ∈ es, e.1 < n ∧ e.2 < n
theorem InN.snoc {n : Nat} {es : List (Nat × Nat)} {e : Nat × Nat} (h : InN n (es ++ [e])) : InN n es ∧ e.1 < n ∧ e.2 < n := ⟨fun x hx => h x (List.mem_append_left _ hx), h e (by simp)⟩
theorem lms_edge {n : Nat} : ∀ es : List (Nat × Nat), InN n es → ∀ e ∈ es, mk (lms n es) e.1 = mk (lms n es) e.2 := by
  refine snoc_ind (fun _ e h => by cases h) fun es x ih hn e he => ?_
  obtain ⟨h1, h2, h3⟩ := hn.snoc
  have hl := lms_length n es
  have hx := hn e he
  rw [lms_snoc]
  refine (lm_iff (by omega) (by omega)).mpr ?_
  rcases List.mem_append.mp he with q | q
  · exact .inl (ih h1 e q)
  · rw [List.mem_singleton.mp q]
    exact .inr ⟨.inl rfl, .inr rfl⟩
theorem lms_conn {n : Nat} : ∀ es : List (Nat × Nat), InN n es → ∀ i j, i < n → j < n → mk (lms n es) i = mk (lms n es) j → Conn es i j := by
  refine snoc_ind (fun _ i j hi hj h => ?_) fun es x ih hn i j hi hj h => ?_
  · have h : mk ((List.range n).map fun (i : Nat) => (i : Int)) i = mk ((List.range n).map fun (i : Nat) => (i : Int)) j := h
    rw [mk_range hi, mk_range hj] at h
    have : i = j := by omega
    subst this
    exact .refl i
  · obtain ⟨h1, h2, h3⟩ := hn.snoc
    have hl := lms_length n es
    have up : ∀ {i j : Nat}, Conn es i j → Conn (es ++ [x]) i j := fun c => c.mono fun e he => List.mem_append_left _ he
    have ex : Conn (es ++ [x]) x.1 x.2 := .edge (by simp)
    rw [lms_snoc] at h
    rcases (lm_iff (by omega) (by omega)).mp h with q | ⟨q1, q2⟩
    · exact up (ih h1 i j hi hj q)
    · have ci : Conn (es ++ [x]) i x.1 := by
        rcases q1 with q | q
        · exact up (ih h1 i _ hi h2 q)
        · exact (up (ih h1 i _ hi h3 q)).trans ex.symm
      have cj : Conn (es ++ [x]) j x.1 := by
        rcases q2 with q | q
        · exact up (ih h1 j _ hj h2 q)
        · exact (up (ih h1 j _ hj h3 q)).trans ex.symm
      exact ci.trans cj.symm
theorem conn_lms {n : Nat} {es : List (Nat × Nat)} (hn : InN n es) {i j : Nat} (c : Conn es i j) : i = j ∨ (i < n ∧ j < n ∧ mk (lms n es) i = mk (lms n es) j) := by
  induction c with
  | refl i => exact .inl rfl
  | edge q => exact .inr ⟨(hn _ q).1, (hn _ q).2, lms_edge es hn _ q⟩
  | symm _ ih =>
    rcases ih with e | ⟨a, b, c⟩
    · exact .inl e.symm
    · exact .inr ⟨b, a, c.symm⟩
  | trans _ _ i1 i2 =>
    rcases i1 with e | ⟨a, b, c⟩
    · rw [e]; exact i2
    · rcases i2 with e | ⟨a', b', c'⟩
      · rw [← e]; exact .inr ⟨a, b, c⟩
      · exact .inr ⟨a, b', c.trans c'⟩
theorem lms_iff {n : Nat} {es : List (Nat × Nat)} (hn : InN n es) {i j : Nat} (hi : i < n) (hj : j < n) : mk (lms n es) i = mk (lms n es) j ↔ Conn es i j := by
  constructor
  · exact lms_conn es hn i j hi hj
  · intro c
    rcases conn_lms hn c with e | ⟨_, _, e⟩
    · rw [e]
    · exact e
/-! ### how many pieces -/
def cnt (M : List Int) : Nat := (fstA M M.length).length
theorem fst_ex (M : List Int) {i : Nat} : ∃ p, p ≤ i ∧ mk M p = mk M i ∧ fstB M p = true := by
  induction i using Nat.strongRecOn with
  | ind i ih =>
    by_cases h : fstB M i = true
    · exact ⟨i, Nat.le_refl _, rfl, h⟩
    · have : ∃ j, j < i ∧ mk M j = mk M i := by
        by_cases q : ∃ j, j < i ∧ mk M j = mk M i
        · exact q
        · exact absurd (fstB_iff.mpr fun j hj e => q ⟨j, hj, e⟩) h
      obtain ⟨j, hj, e⟩ := this
      obtain ⟨p, h1, h2, h3⟩ := ih j hj
      exact ⟨p, by omega, h2.trans e, h3⟩
theorem count_less {p q : Nat → Bool} {x n : Nat} (hx : x < n) (hpx : p x = true) (h : ∀ y, y < n → q y = (p y && !decide (y = x))) : ((List.range n).filter q).length + 1 = ((List.range n).filter p).length := by
  induction n with
  | zero => exact absurd hx (Nat.not_lt_zero x)
  | succ n ih =>
    rw [List.range_succ, List.filter_append, List.filter_append, List.length_append, List.length_append]
    by_cases e : x = n
    · subst e
      have e1 : (List.range x).filter q = (List.range x).filter p := List.filter_congr fun y hy => by
        have hy := List.mem_range.mp hy
        rw [h y (by omega), show decide (y = x) = false from decide_eq_false (by omega)]
        simp
      have e2 : q x = false := by rw [h x (by omega)]; simp
      rw [e1]
      simp [List.filter_cons, e2, hpx]
    · have hq : q n = p n := by rw [h n (by omega), show decide (n = x) = false from decide_eq_false (fun z => e z.symm)]; simp
      have := ih (by omega) fun y hy => h y (by omega)
      simp only [List.filter_cons, List.filter_nil, hq]
      omega
theorem fst_uniq {M : List Int} {p q : Nat} (hp : fstB M p = true) (hq : fstB M q = true) (e : mk M p = mk M q) : p = q := by
  rcases Nat.lt_trichotomy p q with h | h | h
  · exact absurd e (fstB_iff.mp hq p h)
  · exact h
  · exact absurd e.symm (fstB_iff.mp hp q h)
theorem cnt_step {m : List Int} {a b : Nat} (ha : a < m.length) (hb : b < m.length) (hne : mk m a ≠ mk m b) : cnt (lm m a b) + 1 = cnt m := by
  obtain ⟨A, hA1, hA2, hA3⟩ := fst_ex m (i := a)
  obtain ⟨B, hB1, hB2, hB3⟩ := fst_ex m (i := b)
  have hAB : A ≠ B := fun e => hne (by rw [← hA2, ← hB2, e])
  unfold cnt fstA
  rw [lm_length]
  refine count_less (x := max A B) (by omega) ?_ fun y hy => ?_
  · rcases Nat.le_total A B with h | h
    · rw [Nat.max_eq_right h]; exact hB3
    · rw [Nat.max_eq_left h]; exact hA3
  · rw [Bool.eq_iff_iff, Bool.and_eq_true, fstB_iff, fstB_iff]
    have key : ∀ i, i < y → (mk (lm m a b) i = mk (lm m a b) y ↔ Mrg m a b i y) := fun i hi => lm_iff (by omega) hy
    have nmax : (!decide (y = max A B)) = true ↔ y ≠ max A B := by simp
    rw [nmax]
    constructor
    · intro q
      refine ⟨fun i hi e => q i hi ((key i hi).mpr (.inl e)), fun e => ?_⟩
      -- the other one is ahead
      rcases Nat.lt_or_gt_of_ne hAB with h | h
      · have ey : y = B := by omega
        subst ey
        exact q A h ((key A h).mpr (.inr ⟨.inl hA2, .inr hB2⟩))
      · have ey : y = A := by omega
        subst ey
        exact q B h ((key B h).mpr (.inr ⟨.inr hB2, .inl hA2⟩))
    · rintro ⟨q1, q2⟩ i hi e
      rcases (key i hi).mp e with e | ⟨e1, e2⟩
      · exact q1 i hi e
      · have fy : fstB m y = true := fstB_iff.mpr q1
        rcases e2 with e2 | e2
        · have ey : y = A := fst_uniq fy hA3 (e2.trans hA2.symm)
          rcases e1 with e1 | e1
          · exact q1 i hi (e1.trans e2.symm)
          · obtain ⟨p, p1, p2, p3⟩ := fst_ex m (i := i)
            have : p = B := fst_uniq p3 hB3 (by rw [p2, e1, hB2])
            omega
        · have ey : y = B := fst_uniq fy hB3 (e2.trans hB2.symm)
          rcases e1 with e1 | e1
          · obtain ⟨p, p1, p2, p3⟩ := fst_ex m (i := i)
            have : p = A := fst_uniq p3 hA3 (by rw [p2, e1, hA2])
            omega
          · exact q1 i hi (e1.trans e2.symm)
theorem cnt_range (n : Nat) : cnt ((List.range n).map fun (i : Nat) => (i : Int)) = n := by
  unfold cnt fstA
  rw [List.length_map, List.length_range]
  have e : (List.range n).filter (fstB ((List.range n).map fun (i : Nat) => (i : Int))) = List.range n := by
    refine List.filter_eq_self.mpr fun p hp => fstB_iff.mpr fun i hi e => ?_
    have hp := List.mem_range.mp hp
    rw [mk_range (by omega), mk_range hp] at e
    omega
  rw [e, List.length_range]
theorem cnt_one {M : List Int} (hM : 1 ≤ M.length) : cnt M = 1 ↔ ∀ i j, i < M.length → j < M.length → mk M i = mk M j := by
  have e : cnt M = (grp M).length := by
    unfold cnt grp
    rw [grpA_eq, List.length_map]
  rw [e]
  exact grp_one hM
end My

/-! ## trees -/
namespace My
open PySem L2
theorem seq_ix {i : Int} {n : Nat} (h0 : 0 ≤ i) (h1 : i < (n : Int)) : seqIndex? i n = some i.toNat := by
  have e : (if i < 0 then i + (n : Int) else i) = i := if_neg (by omega)
  unfold seqIndex?
  simp only [e]
  rw [if_pos (by simp; omega)]
def IsTree (n : Int) (ps : List (Int × Int)) (ns : List Int) : Prop := IsSet ps.length ns ∧ (ns.length : Int) = n - 1 ∧ ∀ i j, i < n.toNat → j < n.toNat → Conn (endsOf ps ns) i j
theorem ends_in {n : Int} {ps : List (Int × Int)} {ns : List Int} (g : GoodW n ps) (h : ∀ z ∈ ns, 0 ≤ z ∧ z < (ps.length : Int)) : InN n.toNat (endsOf ps ns) := fun e he => by
  obtain ⟨z, hz, rfl⟩ := List.mem_map.mp he
  obtain ⟨z0, z1⟩ := h z hz
  have hp : ps[z.toNat]? = some (ps[z.toNat]'(by omega)) := List.getElem?_eq_getElem _
  rw [getD_of hp]
  obtain ⟨b1, b2, b3, b4⟩ := g.2.2.2 _ (List.mem_of_getElem? hp)
  exact ⟨by omega, by omega⟩
theorem ends_sub {ps : List (Int × Int)} {ns ms : List Int} (h : ∀ z ∈ ns, z ∈ ms) : ∀ e ∈ endsOf ps ns, e ∈ endsOf ps ms := fun e he => by
  obtain ⟨z, hz, rfl⟩ := List.mem_map.mp he
  exact List.mem_map.mpr ⟨z, h z hz, rfl⟩
/-- all places have one mark -/
theorem one_conn {n : Nat} {es : List (Nat × Nat)} (h : InN n es) : (∀ i j, i < (lms n es).length → j < (lms n es).length → mk (lms n es) i = mk (lms n es) j) ↔ ∀ i j, i < n → j < n → Conn es i j := by
  rw [lms_length]
  constructor
  · intro q i j hi hj; exact (lms_iff h hi hj).mp (q i j hi hj)
  · intro q i j hi hj; exact (lms_iff h hi hj).mpr (q i j hi hj)
theorem conn_perm {ps : List (Int × Int)} {ns ms : List Int} (h : ∀ z, z ∈ ns ↔ z ∈ ms) {i j : Nat} : Conn (endsOf ps ns) i j ↔ Conn (endsOf ps ms) i j :=
  ⟨fun c => c.mono (ends_sub fun z hz => (h z).mp hz), fun c => c.mono (ends_sub fun z hz => (h z).mpr hz)⟩
end My

/-! ## comprehensions over enumerate; cuts -/
namespace My
open PySem L2
section
variable {K : PySem.W.Frag} {a : Addr} {xs : List V} {g : TG} {tt : TT} {te : TE} {o : Nat} {fr : List Nat} {σ : St} {H : Hp} {Q : VK}
end
/-- the numbers of the ties whose ends have unlike marks -/
def unlike (M : List Int) (ps : List (Int × Int)) (i : Nat) : List Int := ((List.range i).filter fun k => decide (mk M (ps.getD k (0, 0)).1.toNat ≠ mk M (ps.getD k (0, 0)).2.toNat)).map fun (k : Nat) => (k : Int)
/-- the ties other than one -/
def wo (ns : List Int) (z : Int) : List Int := ns.filter fun y => decide (y ≠ z)
theorem wo_mem {ns : List Int} {z y : Int} : y ∈ wo ns z ↔ y ∈ ns ∧ y ≠ z := by unfold wo; rw [List.mem_filter]; simp
end My

/-! ## rings -/
namespace My
open PySem L2
/-- the ties of a tree whose cut has the tie -/
def ringA (n : Int) (ps : List (Int × Int)) (ns : List Int) (z : Int) (l : List Int) : List Int := l.filter fun y => decide (z ∈ unlike (lms n.toNat (endsOf ps (wo ns y))) ps ps.length)
theorem unlike_mem {M : List Int} {ps : List (Int × Int)} {z : Int} (h0 : 0 ≤ z) (h1 : z < (ps.length : Int)) : z ∈ unlike M ps ps.length ↔ mk M (ps.getD z.toNat (0, 0)).1.toNat ≠ mk M (ps.getD z.toNat (0, 0)).2.toNat := by
  unfold unlike
  rw [List.mem_map]
  constructor
  · rintro ⟨k, hk, rfl⟩
    have := of_decide_eq_true (List.mem_filter.mp hk).2
    rw [Int.toNat_natCast]
    exact this
  · intro h
    exact ⟨z.toNat, List.mem_filter.mpr ⟨List.mem_range.mpr (by omega), decide_eq_true h⟩, by omega⟩
end My

/-! ## sorted(tuple of ints) -/
namespace L2
open PySem PySem.Spec PyProof.Rows
section
variable {prog : Program} {w : World} {A : Around} {E : Value → Shared → Prop} {s : Shared}
end
section
variable {X : Cx}
end
end L2

/-! ## t + u, either may be empty -/
namespace L2
open PySem PySem.Spec PyProof.Rows
section
variable {X : Cx}
end
end L2

/-! ## exchanges -/
namespace My
open PySem L2
theorem lm_id {m : List Int} {a b : Nat} (h : mk m a = mk m b) : lm m a b = m := by unfold lm; rw [if_neg (fun z => z h)]
theorem cnt_less {m : List Int} {a b : Nat} (ha : a < m.length) (hb : b < m.length) : cnt m ≤ cnt (lm m a b) + 1 := by
  by_cases e : mk m a = mk m b
  · rw [lm_id e]; omega
  · have := cnt_step ha hb e; omega
theorem cnt_lms {n : Nat} : ∀ es : List (Nat × Nat), InN n es → n ≤ cnt (lms n es) + es.length := by
  refine snoc_ind (fun _ => ?_) fun es x ih hn => ?_
  · have : cnt (lms n []) = n := cnt_range n
    omega
  · obtain ⟨h1, h2, h3⟩ := hn.snoc
    have hl := lms_length n es
    have := cnt_less (m := lms n es) (a := x.1) (b := x.2) (by omega) (by omega)
    have := ih h1
    rw [lms_snoc, List.length_append, List.length_cons, List.length_nil]
    omega
theorem cnt_pos {M : List Int} (h : 1 ≤ M.length) : 1 ≤ cnt M := by
  unfold cnt fstA
  refine List.length_pos_of_mem (a := 0) (List.mem_filter.mpr ⟨List.mem_range.mpr (by omega), fstB_iff.mpr fun i hi => absurd hi (Nat.not_lt_zero i)⟩)
theorem cnt_conn {n : Nat} {es : List (Nat × Nat)} (hn : 1 ≤ n) (h : InN n es) : cnt (lms n es) = 1 ↔ ∀ i j, i < n → j < n → Conn es i j := by
  rw [cnt_one (by rw [lms_length]; exact hn)]
  exact one_conn h
/-- an item once in a row -/
theorem wo_length {ts : List Int} {o : Int} (hn : ts.Nodup) (ho : o ∈ ts) : (wo ts o).length + 1 = ts.length := by
  induction ts with
  | nil => cases ho
  | cons x r ih =>
    obtain ⟨h1, h2⟩ := List.nodup_cons.mp hn
    unfold wo
    rw [List.filter_cons]
    by_cases e : x = o
    · subst e
      rw [if_neg (by simp)]
      have : r.filter (fun y => decide (y ≠ x)) = r := List.filter_eq_self.mpr fun y hy => decide_eq_true fun e => h1 (e ▸ hy)
      rw [this]; rfl
    · rw [if_pos (decide_eq_true e)]
      have := ih h2 ((List.mem_cons.mp ho).resolve_left fun z => e z.symm)
      unfold wo at this
      rw [List.length_cons, List.length_cons]
      omega
/-- the ends of a tie -/
def endOf (ps : List (Int × Int)) (z : Int) : Nat × Nat := ((ps.getD z.toNat (0, 0)).1.toNat, (ps.getD z.toNat (0, 0)).2.toNat)
theorem ends_snoc (ps : List (Int × Int)) (ns : List Int) (z : Int) : endsOf ps (ns ++ [z]) = endsOf ps ns ++ [endOf ps z] := by unfold endsOf endOf; rw [List.map_append]; rfl
theorem end_in {n : Int} {ps : List (Int × Int)} {z : Int} (g : GoodW n ps) (z0 : 0 ≤ z) (z1 : z < (ps.length : Int)) : (endOf ps z).1 < n.toNat ∧ (endOf ps z).2 < n.toNat := by
  have := ends_in (ns := [z]) g (fun y hy => by rw [List.mem_singleton.mp hy]; exact ⟨z0, z1⟩)
  exact this (endOf ps z) (by unfold endsOf endOf; simp)
theorem wo_all {n : Int} {ps : List (Int × Int)} {ts : List Int} {o : Int} (hT : IsTree n ps ts) : ∀ y ∈ wo ts o, 0 ≤ y ∧ y < (ps.length : Int) := fun y hy => hT.1.all y (wo_mem.mp hy).1
/-- a tree with one tie for another is joined where the other one's ends are in two pieces without the one -/
theorem exch {n : Int} {ps : List (Int × Int)} {ts : List Int} {o z : Int} (g : GoodW n ps) (hT : IsTree n ps ts) (ho : o ∈ ts) (z0 : 0 ≤ z) (z1 : z < (ps.length : Int)) :
    (∀ i j, i < n.toNat → j < n.toNat → Conn (endsOf ps (wo ts o ++ [z])) i j) ↔ ¬ Conn (endsOf ps (wo ts o)) (endOf ps z).1 (endOf ps z).2 := by
  have hn : 1 ≤ n.toNat := by have := g.1; omega
  have hw := wo_length hT.1.nodup ho
  have hl : (ts.length : Int) = n - 1 := hT.2.1
  have i0 : InN n.toNat (endsOf ps (wo ts o)) := ends_in g (wo_all hT)
  have hz := end_in g z0 z1
  have ob := hT.1.all o ho
  have hoe := end_in g ob.1 ob.2
  have i1 : InN n.toNat (endsOf ps (wo ts o) ++ [endOf ps z]) := fun e he => (List.mem_append.mp he).elim (i0 e) fun q => by rw [List.mem_singleton.mp q]; exact hz
  have i2 : InN n.toNat (endsOf ps (wo ts o) ++ [endOf ps o]) := fun e he => (List.mem_append.mp he).elim (i0 e) fun q => by rw [List.mem_singleton.mp q]; exact hoe
  have hL := lms_length n.toNat (endsOf ps (wo ts o))
  have le : (endsOf ps (wo ts o)).length = (wo ts o).length := by unfold endsOf; rw [List.length_map]
  rw [ends_snoc]
  constructor
  · intro hc c
    have h1 : cnt (lms n.toNat (endsOf ps (wo ts o) ++ [endOf ps z])) = 1 := (cnt_conn hn i1).mpr hc
    rw [lms_snoc, lm_id ((lms_iff i0 hz.1 hz.2).mpr c)] at h1
    have := cnt_lms _ i0
    omega
  · intro hc
    have h2 : cnt (lms n.toNat (endsOf ps (wo ts o) ++ [endOf ps o])) = 1 := by
      refine (cnt_conn hn i2).mpr fun i j hi hj => ?_
      rw [← ends_snoc]
      refine (conn_perm fun y => ?_).mp (hT.2.2 i j hi hj)
      rw [List.mem_append, wo_mem, List.mem_singleton]
      constructor
      · intro hy
        by_cases e : y = o
        · exact .inr e
        · exact .inl ⟨hy, e⟩
      · rintro (q | q)
        · exact q.1
        · rw [q]; exact ho
    rw [lms_snoc] at h2
    have h3 := cnt_less (m := lms n.toNat (endsOf ps (wo ts o))) (a := (endOf ps o).1) (b := (endOf ps o).2) (by omega) (by omega)
    have h4 := cnt_step (m := lms n.toNat (endsOf ps (wo ts o))) (a := (endOf ps z).1) (b := (endOf ps z).2) (by omega) (by omega) (fun e => hc ((lms_iff i0 hz.1 hz.2).mp e))
    have h5 := cnt_pos (M := lm (lms n.toNat (endsOf ps (wo ts o))) (endOf ps z).1 (endOf ps z).2) (by rw [lm_length]; omega)
    refine (cnt_conn hn i1).mp ?_
    rw [lms_snoc]
    omega
/-- the cut of a tie of a tree -/
def cutT (n : Int) (ps : List (Int × Int)) (ts : List Int) (o : Int) : List Int := unlike (lms n.toNat (endsOf ps (wo ts o))) ps ps.length
theorem unlike_bnd {M : List Int} {ps : List (Int × Int)} {i : Nat} {z : Int} (h : z ∈ unlike M ps i) : 0 ≤ z ∧ z < (i : Int) := by
  unfold unlike at h
  obtain ⟨k, hk, rfl⟩ := List.mem_map.mp h
  have := List.mem_range.mp (List.mem_filter.mp hk).1
  omega
theorem cutT_mem {n : Int} {ps : List (Int × Int)} {ts : List Int} {o z : Int} (g : GoodW n ps) (hT : IsTree n ps ts) (z0 : 0 ≤ z) (z1 : z < (ps.length : Int)) : z ∈ cutT n ps ts o ↔ ¬ Conn (endsOf ps (wo ts o)) (endOf ps z).1 (endOf ps z).2 := by
  have hz := end_in g z0 z1
  unfold cutT
  rw [unlike_mem z0 z1]
  exact not_congr (lms_iff (ends_in g (wo_all hT)) hz.1 hz.2)
def exg (n : Int) (ps : List (Int × Int)) (ts : List Int) (o z : Int) : Prop := o ∈ ts ∧ z ≠ o ∧ z ∈ cutT n ps ts o
instance (n : Int) (ps : List (Int × Int)) (ts : List Int) (o z : Int) : Decidable (exg n ps ts o z) := by unfold exg; infer_instance
theorem exg_iff {n : Int} {ps : List (Int × Int)} {ts : List Int} {o z : Int} (g : GoodW n ps) (hT : IsTree n ps ts) :
    exg n ps ts o z ↔ o ∈ ts ∧ z ∉ ts ∧ 0 ≤ z ∧ z < (ps.length : Int) ∧ ∀ i j, i < n.toNat → j < n.toNat → Conn (endsOf ps (wo ts o ++ [z])) i j := by
  constructor
  · rintro ⟨h1, h2, h3⟩
    obtain ⟨z0, z1⟩ := unlike_bnd h3
    have hc := (cutT_mem g hT z0 z1).mp h3
    refine ⟨h1, fun hz => hc ?_, z0, z1, (exch g hT h1 z0 z1).mpr hc⟩
    refine .edge ?_
    exact List.mem_map.mpr ⟨z, wo_mem.mpr ⟨hz, h2⟩, rfl⟩
  · rintro ⟨h1, h2, z0, z1, hc⟩
    exact ⟨h1, fun e => h2 (e ▸ h1), (cutT_mem g hT z0 z1).mpr ((exch g hT h1 z0 z1).mp hc)⟩
/-! ### the list of exchanges -/
end My

/-! ## lists of pairs, a list changed -/
namespace My
open PySem L2
end My

/-! ## list(reversed(tuple)) -/
namespace L2
open PySem PySem.Spec PyProof.Rows
/-! ### the iterator of reversed(tuple) -/
def IsRv (h : Heap) (r l : Addr) (i : Int) : Prop := ∃ o, h.get? r = some o ∧ o.cls = .type "reversed" ∧ o.data = .fields #[.ref l, rawInt i]
theorem IsRv.keep {h h' : Heap} {r l : Addr} {i : Int} (x : IsRv h r l i) (e : ∀ o, h.get? r = some o → h'.get? r = some o) : IsRv h' r l i := let ⟨o, a, b⟩ := x; ⟨o, e _ a, b⟩
section
variable {prog : Program} {w : World} {A : Around} {E : Value → Shared → Prop} {s : Shared}
end
section
variable {prog : Program} {w : World} {A : Around} {E : Value → Shared → Prop} {s : Shared} {it a : Addr} {items : Array Value}
end
section
variable {X : Cx} {p p2 pos pos2 : Pos} {e : Expr} {t : TA}
end
end L2

/-! ## t[lo:hi], also the whole -/
namespace L2
open PySem PySem.Spec PyProof.Rows
section
variable {prog : Program} {w : World} {A : Around} {E : Value → Shared → Prop} {s : Shared}
theorem tup_whole {t sl : Addr} {items : Array Value} {vl vu : Value} {lo hi : Option Int} {Q : Value → Shared → Prop} (ht : IsTup s.heap t items) (hs : s.heap.IsSliceOf sl vl vu .none) (pl : IsPart vl lo) (pu : IsPart vu hi)
    (h0 : HT.sIx items.size 0 lo = 0) (h1 : HT.sIx items.size items.size hi = items.size) (h : Q (.ref t) s) : wpAny (model prog w) A (getItem (.ref t) (.ref sl)) Q E s := by
  have hTs : s.TypeIs (.ref sl) "slice" := let ⟨o, a, b, _⟩ := hs; ⟨o, a, b⟩
  unfold getItem
  try with_reducible refine wpAny_holding ?_
  first | refine wpAny_bind (wpAny_pure ?_) | skip
  refine wpAny_bind (wpAny_sequenceKey ht.typeIs (by decide) ?_)
  refine wpAny_bind (wpAny_callSpecial?_slot (name := Str.ofString "__getitem__") ht.typeIs PyProof.Rows.slot_tuple_getitem (wpAny_call_entry PyProof.Rows.slot_tuple_getitem ht.typeIs entry_tuple_getitem ?_ (args_tuple_getitem _ _)))
  show wpAny _ _ (Builtin.Tuple.tupleItemsOf (.ref t) >>= _) _ _ s
  refine wpAny_bind (tupleItemsOf_ ht (wpAny_bind (wpAny_typeOf hTs ?_)))
  rw [if_pos (by decide)]
  refine wpAny_bind (HT.sliceApplied_gen hs pl pu ?_)
  rw [h0, h1]
  show wpAny _ _ (if (((0 : Nat) : Int) == 0 && (1 : Int) == 1 && (items.size - 0) == items.size) = true then _ else _) _ _ s
  rw [if_pos (by simp)]
  have ex : ∀ {Q : Bool → Shared → Prop} {E : Value → Shared → Prop}, Q true s → wpAny (model prog w) A.in1 (Builtin.Tuple.tupleIsExact (.ref t)) Q E s := fun q => wpAny_bind (wpAny_typeOf ht.typeIs (wpAny_pure (by rw [show (Value.type "tuple" == Value.type "tuple") = true by decide]; exact q)))
  refine wpAny_bind (ex ?_)
  rw [if_pos rfl]
  exact wpAny_bind (wpAny_rule (wpAny_pure ⟨_, rfl, wpAny_pure h⟩))
end
section
variable {X : Cx}
/-- t[lo:hi]: the whole is t itself -/
def rSlU (K : PySem.W.Frag) : V → Option Int → Option Int → Hp → VK → Prop := fun x lo hi H Q => ∃ a xs, x = .ref a ∧ SqT K H a xs ∧
  (HT.sIx xs.length 0 lo = 0 ∧ HT.sIx xs.length xs.length hi = xs.length → Q (.ref a) H) ∧ (¬ (HT.sIx xs.length 0 lo = 0 ∧ HT.sIx xs.length xs.length hi = xs.length) → ∀ p, H p = none → Q (.ref p) (upd H p (.tup (cutV xs lo hi))))
theorem sl_tupU (K : PySem.W.Frag) (hk : X.K = K := by rfl) : SlR X (rSlU K) := by
  subst hk
  intro pins s σ H x v vl vu lo hi sl Q I rx hs pl pu h
  obtain ⟨a, xs, e1, hx, q1, q2⟩ := id h
  by_cases hw : HT.sIx xs.length 0 lo = 0 ∧ HT.sIx xs.length xs.length hi = xs.length
  · subst e1
    cases rx
    obtain ⟨its, r, ht, hz⟩ := I.tuple hx
    have hlen : its.toArray.size = xs.length := by rw [List.size_toArray]; exact r.length.symm
    refine ⟨"tuple", _, PyProof.Rows.slot_tuple_getitem.lookup, ht.typeIs, ?_⟩
    exact tup_whole ht hs pl pu (by rw [hlen]; exact hw.1) (by rw [hlen]; exact hw.2) ⟨.ref a, H, I, rfl, q1 hw⟩
  · exact sl_tup pins s σ H x v vl vu lo hi sl Q I rx hs pl pu ⟨a, xs, e1, hx, hw, q2 hw⟩
end
end L2

/-! ## tuples of ints: slices -/
namespace My
open PySem L2
end My

/-! ## x in a list of objects, by what they hold -/
namespace L2
open PySem PySem.Spec PyProof.Rows
section
variable {X : Cx}
end
end L2
namespace My
open PySem L2
end My

/-! ## rings and cuts of a tree, and behind an exchange -/
namespace My
open PySem L2
/-- of the tree's own ties only the one that is left out is in the cut -/
theorem cut_own {n : Int} {ps : List (Int × Int)} {ts : List Int} {o y : Int} (g : GoodW n ps) (hT : IsTree n ps ts) (ho : o ∈ ts) (hy : y ∈ ts) : y ∈ cutT n ps ts o ↔ y = o := by
  have yb := hT.1.all y hy
  rw [cutT_mem g hT yb.1 yb.2]
  constructor
  · intro h
    by_cases e : y = o
    · exact e
    · exact absurd (.edge (List.mem_map.mpr ⟨y, wo_mem.mpr ⟨hy, e⟩, rfl⟩)) h
  · rintro rfl
    refine (exch g hT hy yb.1 yb.2).mp fun i j hi hj => (conn_perm fun z => ?_).mp (hT.2.2 i j hi hj)
    rw [List.mem_append, wo_mem, List.mem_singleton]
    constructor
    · intro hz
      by_cases e : z = y
      · exact .inr e
      · exact .inl ⟨hz, e⟩
    · rintro (q | q)
      · exact q.1
      · rw [q]; exact hy
/-- the tree behind an exchange -/
theorem exg_tree {n : Int} {ps : List (Int × Int)} {ts ms : List Int} {o z : Int} (g : GoodW n ps) (hT : IsTree n ps ts) (hx : exg n ps ts o z) (hpm : ms.Perm (wo ts o ++ [z])) (hpw : ms.Pairwise (· ≤ ·)) : IsTree n ps ms := by
  obtain ⟨ho, hz, z0, z1, hc⟩ := (exg_iff g hT).mp hx
  have nd : (wo ts o ++ [z]).Nodup := nd_snoc (hT.1.nodup.sublist List.filter_sublist) fun h => hz (wo_mem.mp h).1
  have ndm : ms.Nodup := hpm.nodup_iff.mpr nd
  have hl := wo_length hT.1.nodup ho
  have hl2 := hpm.length_eq
  rw [List.length_append, List.length_singleton] at hl2
  refine ⟨isSet_iff.mpr ⟨fun y hy => ?_, (List.pairwise_and_iff.mpr ⟨hpw, ndm⟩).imp fun {x y} h => by have := h.1; have := h.2; omega⟩, by rw [hl2, hl]; exact hT.2.1, fun i j hi hj => (conn_perm fun y => hpm.mem_iff).mpr (hc i j hi hj)⟩
  rcases List.mem_append.mp (hpm.mem_iff.mp hy) with h | h
  · exact hT.1.all y (wo_mem.mp h).1
  · rw [List.mem_singleton.mp h]; exact ⟨z0, z1⟩
section
variable {n : Int} {ps : List (Int × Int)} {ts ms : List Int} {o z : Int} (g : GoodW n ps) (hT : IsTree n ps ts) (hx : exg n ps ts o z) (hpm : ms.Perm (wo ts o ++ [z])) (hpw : ms.Pairwise (· ≤ ·))
include g hT hx hpm hpw
end
end My

/-! ## the least tree: each tie that closes no ring -/
namespace My
open PySem L2
def grd (n : Nat) (ps : List (Int × Int)) : Nat → List Int
  | 0 => []
  | k + 1 => if mk (lms n (endsOf ps (grd n ps k))) (endOf ps (k : Int)).1 = mk (lms n (endsOf ps (grd n ps k))) (endOf ps (k : Int)).2 then grd n ps k else grd n ps k ++ [(k : Int)]
/-! ### order of rows -/
end My

/-! ## min(list of tuples of ints) -/
namespace My
open PySem L2
end My
namespace L2
open PySem PySem.Spec PyProof.Rows
section
variable {prog : Program} {w : World} {A : Around} {I S : Addr} {fp wr : List Addr} {n : Nat} {P : Nat → Value → Prop} {St : Nat → Heap → Prop} {R : Result → Shared → Prop}
/-- the items are tuples of ints, apart from what the loop writes -/
def TupsAt (S : Addr) (wr : List Addr) (P : Nat → Value → Prop) (L : Nat → List Int) (h : Heap) : Prop := ∀ i v, P i v → ∃ a vs, v = .ref a ∧ a ≠ S ∧ a ∉ wr ∧ IsTup h a vs ∧ IntsAre vs.toList (L i)
theorem TupsAt.keep {L : Nat → List Int} {h h' : Heap} (x : TupsAt S wr P L h) (k : ∀ b o, b ≠ S → b ∉ wr → h.get? b = some o → h'.get? b = some o) : TupsAt S wr P L h' := fun i v p => by
  obtain ⟨a, vs, e, n1, n2, ⟨o, ho, z⟩, hi⟩ := x i v p
  exact ⟨a, vs, e, n1, n2, ⟨o, k a o n1 n2 ho, z⟩, hi⟩
end
section
variable {X : Cx}
end
end L2

/-! ## lists of tuples of ints; all ascending rows of a length -/
namespace My
open PySem L2
def TupV (H : Hp) (v : V) (l : List Int) : Prop := ∃ a, v = .ref a ∧ H a = some (.tup (IL l))
def TupsV (H : Hp) (xs : List V) (L : List (List Int)) : Prop := xs.length = L.length ∧ ∀ (i : Nat) (l : List Int), L[i]? = some l → ∃ v, xs[i]? = some v ∧ TupV H v l
theorem TupsV.same {H H' : Hp} {xs : List V} {L : List (List Int)} (s : Same H H') (h : TupsV H xs L) : TupsV H' xs L := ⟨h.1, fun i l e => let ⟨v, e1, a, e2, e3⟩ := h.2 i l e; ⟨v, e1, a, e2, s _ _ e3⟩⟩
theorem TupsV.nil {H : Hp} : TupsV H [] [] := ⟨rfl, fun i p e => by simp at e⟩
theorem TupsV.app {H : Hp} {xs ys : List V} {L M : List (List Int)} (h : TupsV H xs L) (h2 : TupsV H ys M) : TupsV H (xs ++ ys) (L ++ M) := by
  refine ⟨by rw [List.length_append, List.length_append, h.1, h2.1], fun i l e => ?_⟩
  by_cases hi : i < L.length
  · rw [List.getElem?_append_left hi] at e
    obtain ⟨v, e1, q⟩ := h.2 i l e
    exact ⟨v, by rw [List.getElem?_append_left (by rw [h.1]; exact hi)]; exact e1, q⟩
  · rw [List.getElem?_append_right (by omega)] at e
    obtain ⟨v, e1, q⟩ := h2.2 _ l e
    exact ⟨v, by rw [List.getElem?_append_right (by rw [h.1]; omega), h.1]; exact e1, q⟩
theorem TupsV.one {H : Hp} {v : V} {l : List Int} (q : TupV H v l) : TupsV H [v] [l] := ⟨rfl, fun i m e => by
  cases i with
  | zero => have e : l = m := by simpa using e
            exact ⟨v, rfl, e ▸ q⟩
  | succ i => simp at e⟩
theorem TupsV.snoc {H : Hp} {xs : List V} {L : List (List Int)} {v : V} {l : List Int} (h : TupsV H xs L) (q : TupV H v l) : TupsV H (xs ++ [v]) (L ++ [l]) := h.app (.one q)
/-! ### rows -/
def nxt (s : List Int) : Int := match s.getLast? with | none => 0 | some x => x + 1
def ext1 (m : Int) (s : List Int) : List (List Int) := (List.range (m - nxt s).toNat).map fun (i : Nat) => s ++ [nxt s + (i : Int)]
def cmb (m : Int) : Nat → List (List Int)
  | 0 => [[]]
  | k + 1 => (cmb m k).flatMap (ext1 m)
end My

/-! ## every tree is reached by exchanges -/
namespace My
open PySem L2
theorem asc_sub : ∀ {w t : List Int}, t.Pairwise (· < ·) → w.Pairwise (· < ·) → (∀ z ∈ t, z ∈ w) → t.Sublist w
  | [], [], _, _, _ => List.Sublist.slnil
  | [], x :: t, _, _, h => absurd (h x List.mem_cons_self) (by simp)
  | y :: w, [], _, _, _ => List.nil_sublist _
  | y :: w, x :: t, ht, hw, h => by
    obtain ⟨h1, h2⟩ := List.pairwise_cons.mp ht
    obtain ⟨h3, h4⟩ := List.pairwise_cons.mp hw
    by_cases e : x = y
    · subst e
      refine List.Sublist.cons₂ _ (asc_sub h2 h4 fun z hz => ?_)
      rcases List.mem_cons.mp (h z (List.mem_cons_of_mem _ hz)) with q | q
      · have := h1 z hz; omega
      · exact q
    · have hx : x ∈ w := (List.mem_cons.mp (h x List.mem_cons_self)).resolve_left e
      refine List.Sublist.cons _ (asc_sub ht h4 fun z hz => ?_)
      rcases List.mem_cons.mp (h z hz) with q | q
      · have := h3 x hx
        rcases List.mem_cons.mp hz with q2 | q2
        · rw [q2]; exact hx
        · have := h1 z q2; omega
      · exact q
/-- a tree crosses each cut of another -/
theorem cross {n : Int} {ps : List (Int × Int)} {T W : List Int} {o : Int} (g : GoodW n ps) (hT : IsTree n ps T) (hW : IsTree n ps W) (ho : o ∈ T) : ∃ z ∈ W, z ∈ cutT n ps T o := by
  refine Classical.byContradiction fun hno => ?_
  have all : ∀ i j, Conn (endsOf ps W) i j → Conn (endsOf ps (wo T o)) i j := fun i j c => by
    induction c with
    | refl i => exact .refl i
    | symm _ ih => exact .symm ih
    | trans _ _ i1 i2 => exact .trans i1 i2
    | @edge a b h =>
      obtain ⟨z, hz, e⟩ := List.mem_map.mp h
      obtain ⟨z0, z1⟩ := hW.1.all z hz
      have c : Conn (endsOf ps (wo T o)) (endOf ps z).1 (endOf ps z).2 := Classical.byContradiction fun hc => hno ⟨z, hz, (cutT_mem g hT z0 z1).mpr hc⟩
      have ea : a = (endOf ps z).1 := (congrArg Prod.fst e).symm
      have eb : b = (endOf ps z).2 := (congrArg Prod.snd e).symm
      rw [ea, eb]
      exact c
  have ob := hT.1.all o ho
  have he := end_in g ob.1 ob.2
  exact (cutT_mem g hT ob.1 ob.2).mp ((cut_own g hT ho ho).mpr rfl) (all _ _ (hW.2.2 _ _ he.1 he.2))
theorem reach {n : Int} {ps : List (Int × Int)} {W : List Int} (g : GoodW n ps) (hW : IsTree n ps W) (R : List Int → Prop)
    (close : ∀ T o z ms, R T → IsTree n ps T → exg n ps T o z → ms.Perm (wo T o ++ [z]) → ms.Pairwise (· ≤ ·) → R ms) : ∀ (k : Nat) (T : List Int), R T → IsTree n ps T → (T.filter fun y => decide (y ∉ W)).length = k → R W
  | 0, T, hR, hT, h => by
    have hsub : ∀ z ∈ T, z ∈ W := fun z hz => Classical.byContradiction fun hn => by
      have : z ∈ T.filter fun y => decide (y ∉ W) := List.mem_filter.mpr ⟨hz, decide_eq_true hn⟩
      rw [List.length_eq_zero_iff.mp h] at this
      cases this
    have := (asc_sub (isSet_iff.mp hT.1).2 (isSet_iff.mp hW.1).2 hsub).eq_of_length (by have := hT.2.1; have := hW.2.1; omega)
    exact this ▸ hR
  | k + 1, T, hR, hT, h => by
    obtain ⟨o, hof⟩ : ∃ o, o ∈ T.filter fun y => decide (y ∉ W) := List.exists_mem_of_length_pos (by omega)
    have ho := (List.mem_filter.mp hof).1
    have hoW : o ∉ W := of_decide_eq_true (List.mem_filter.mp hof).2
    obtain ⟨z, hzW, hzc⟩ := cross g hT hW ho
    have hzo : z ≠ o := fun e => hoW (e ▸ hzW)
    have hx : exg n ps T o z := ⟨ho, hzo, hzc⟩
    have hpm : ((wo T o ++ [z]).mergeSort fun a b => decide (a ≤ b)).Perm (wo T o ++ [z]) := List.mergeSort_perm ..
    have hpw : ((wo T o ++ [z]).mergeSort fun a b => decide (a ≤ b)).Pairwise (· ≤ ·) := by
      have := List.pairwise_mergeSort (le := fun (a b : Int) => decide (a ≤ b)) (fun a b c h1 h2 => by simp only [decide_eq_true_eq] at *; omega) (fun a b => by simp only [Bool.or_eq_true, decide_eq_true_eq]; omega) (wo T o ++ [z])
      exact this.imp fun h => by simpa using h
    refine reach g hW R close k _ (close T o z _ hR hT hx hpm hpw) (exg_tree g hT hx hpm hpw) ?_
    rw [(hpm.filter _).length_eq, List.filter_append]
    have e1 : [z].filter (fun y => decide (y ∉ W)) = [] := by rw [List.filter_cons, if_neg (by simpa using hzW)]; rfl
    rw [e1, List.append_nil]
    have e2 : (wo T o).filter (fun y => decide (y ∉ W)) = wo (T.filter fun y => decide (y ∉ W)) o := by
      unfold wo
      rw [List.filter_filter, List.filter_filter]
      refine List.filter_congr fun y _ => Bool.and_comm ..
    rw [e2]
    have := wo_length (hT.1.nodup.sublist List.filter_sublist) hof
    omega
end My

/-! ## marks merged, ties grown -/
namespace My
open PySem L2
end My
namespace My
open PySem L2
theorem cut_upto {xs : List V} {i : Int} (h0 : 0 ≤ i) : cutV xs none (some i) = xs.take i.toNat := by
  have e : HT.sIx xs.length xs.length (some i) = min i.toNat xs.length := by
    show (if i < 0 then (i + (xs.length : Int)).toNat else min i.toNat xs.length) = _
    rw [if_neg (by omega)]
  unfold cutV
  rw [e, HT.sIx_none, List.drop_zero, Nat.sub_zero]
  by_cases h : i.toNat ≤ xs.length
  · rw [Nat.min_eq_left h]
  · rw [Nat.min_eq_right (by omega), List.take_of_length_le (Nat.le_refl _), List.take_of_length_le (by omega)]
/-- all numbers of ties -/
def rgL (m : Nat) : List Int := (List.range m).map fun (i : Nat) => (i : Int)
end My

/-! ## tuple(range) -/
namespace L2
open PySem PySem.Spec PyProof.Rows
section
variable {prog : Program} {w : World} {A : Around} {E : Value → Shared → Prop} {s : Shared}
end
section
variable {X : Cx}
end
end L2

/-! ## ties grown in an order: each that closes no ring -/
namespace My
open PySem L2
def gst (n : Nat) (ps : List (Int × Int)) (G : List Int) (z : Int) : List Int := if mk (lms n (endsOf ps G)) (endOf ps z).1 = mk (lms n (endsOf ps G)) (endOf ps z).2 then G else G ++ [z]
def grw (n : Nat) (ps : List (Int × Int)) (zs : List Int) : List Int := zs.foldl (gst n ps) []
end My
namespace My
open PySem L2
end My

/-! ## lists sorted, however long -/
namespace PyProof.Rows
open PySem
abbrev dK : Keyed := (Value.none, Value.none)
section
variable {M : Model} {A : Around} {E : Value → Shared → Prop} {s : Shared} {O : KeyOrd} {key : Keyed → O.α} {kd : SortKind} {S : Keyed → Prop}
end
end PyProof.Rows
namespace PyProof.Rows
open PySem
section
variable {M : Model} {A : Around} {E : Value → Shared → Prop} {s : Shared} {O : KeyOrd} {key : Keyed → O.α} {kd : SortKind} {S : Keyed → Prop}
def RK (O : KeyOrd) (key : Keyed → O.α) (x y : Keyed) : Prop := O.kle (key x) (key y)
structure MI (O : KeyOrd) (key : Keyed → O.α) (la lb : List Keyed) (out : Array Keyed) (ia ib : Nat) : Prop where
  so : out.toList.Pairwise (RK O key)
  oa : ∀ x ∈ out.toList, ∀ y ∈ la.drop ia, RK O key x y
  ob : ∀ x ∈ out.toList, ∀ y ∈ lb.drop ib, RK O key x y
  pm : (out.toList ++ la.drop ia ++ lb.drop ib).Perm (la ++ lb)
abbrev LoS := Option (Array Keyed) × Array Keyed × Nat × Nat × Nat × Nat × Nat
section
variable {a b out : Array Keyed} {ia ib : Nat} {st : SortSt} {R : ForInStep LoS → SortSt → Prop}
end
section
variable {a b : Array Keyed} {st : SortSt}
end
end
end PyProof.Rows
namespace PyProof.Rows
open PySem
section
variable {M : Model} {A : Around} {E : Value → Shared → Prop} {s : Shared} {O : KeyOrd} {key : Keyed → O.α} {kd : SortKind} {S : Keyed → Prop}
structure MH (O : KeyOrd) (key : Keyed → O.α) (la lb : List Keyed) (out : Array Keyed) (na nb : Nat) : Prop where
  so : out.toList.Pairwise fun x y => RK O key y x
  oa : ∀ x ∈ la.take na, ∀ y ∈ out.toList, RK O key x y
  ob : ∀ x ∈ lb.take nb, ∀ y ∈ out.toList, RK O key x y
  pm : (la.take na ++ lb.take nb ++ out.toList).Perm (la ++ lb)
abbrev HiS := Option (Array Keyed) × Nat × Nat × Array Keyed × Nat × Nat × Nat
section
variable {a b out : Array Keyed} {na nb : Nat} {st : SortSt} {R : ForInStep HiS → SortSt → Prop}
end
section
variable {a b : Array Keyed} {st : SortSt}
end
end
end PyProof.Rows
namespace PyProof.Rows
open PySem
section
variable {M : Model} {A : Around} {E : Value → Shared → Prop} {s : Shared} {O : KeyOrd} {key : Keyed → O.α} {kd : SortKind} {S : Keyed → Prop}
end
end PyProof.Rows
namespace PyProof.Rows
open PySem
section
variable {M : Model} {A : Around} {E : Value → Shared → Prop} {s : Shared} {O : KeyOrd} {key : Keyed → O.α} {kd : SortKind} {S : Keyed → Prop}
/-- as it was, but for the order of what stands from lo on -/
def Stp (lo : Nat) (st st' : SortSt) : Prop := kindOf st' = kindOf st ∧ failedOf st' = failedOf st ∧ pendingOf st' = pendingOf st ∧ (arrOf st').Perm (arrOf st) ∧ ∀ i, i < lo → (arrOf st')[i]? = (arrOf st)[i]?
theorem Stp.refl (lo : Nat) (st : SortSt) : Stp lo st st := ⟨rfl, rfl, rfl, Array.Perm.refl _, fun _ _ => rfl⟩
theorem Stp.trans {lo : Nat} {a b c : SortSt} (h : Stp lo a b) (k : Stp lo b c) : Stp lo a c := ⟨k.1.trans h.1, k.2.1.trans h.2.1, k.2.2.1.trans h.2.2.1, k.2.2.2.1.trans h.2.2.2.1, fun i hi => (k.2.2.2.2 i hi).trans (h.2.2.2.2 i hi)⟩
theorem Stp.size {lo : Nat} {a b : SortSt} (h : Stp lo a b) : (arrOf b).size = (arrOf a).size := h.2.2.2.1.size_eq
theorem Stp.all {lo : Nat} {a b : SortSt} (h : Stp lo a b) (hS : ∀ x ∈ (arrOf a).toList, S x) : ∀ x ∈ (arrOf b).toList, S x := fun x hx => hS x ((Array.perm_iff_toList_perm.mp h.2.2.2.1).mem_iff.mp hx)
end
end PyProof.Rows
namespace PyProof.Rows
open PySem
section
variable {M : Model} {A : Around} {E : Value → Shared → Prop} {s : Shared} {O : KeyOrd} {key : Keyed → O.α} {kd : SortKind} {S : Keyed → Prop}
/-- where the runs lie -/
def offs : List (List Keyed) → Nat → List (Nat × Nat)
  | [], _ => []
  | g :: gs, o => (o, g.length) :: offs gs (o + g.length)
structure PI (O : KeyOrd) (key : Keyed → O.α) (kd : SortKind) (a₀ : Array Keyed) (st : SortSt) (segs : List (List Keyed)) (rest : List Keyed) : Prop where
  kind : kindOf st = kd
  fail : failedOf st = none
  perm : (arrOf st).Perm a₀
  arr : (arrOf st).toList = segs.flatten ++ rest
  srt : ∀ g ∈ segs, 1 ≤ g.length ∧ g.Pairwise (RK O key)
  pend : (pendingOf st).toList.map (fun p => (p.1, p.2.1)) = offs segs 0
theorem PI.size {a₀ : Array Keyed} {st : SortSt} {segs : List (List Keyed)} {rest : List Keyed} (h : PI O key kd a₀ st segs rest) : a₀.size = segs.flatten.length + rest.length := by
  rw [← h.perm.size_eq, ← Array.length_toList, h.arr, List.length_append]
end
end PyProof.Rows

/-! ## sorted(list of tuples of ints), however long -/
namespace L2
open PySem PySem.Spec PyProof.Rows
section
variable {prog : Program} {w : World} {A : Around} {E : Value → Shared → Prop} {s : Shared}
def sameBut (a : Addr) (h h' : Heap) : Prop := ∀ b o, b ≠ a → h.get? b = some o → h'.get? b = some o
/-! ### tuples of ints as keys -/
end
end L2
namespace L2
open PySem PySem.Spec PyProof.Rows My
section
variable {X : Cx}
end
end L2

/-! ## a tuple in a list of tuples, and not in it -/
namespace L2
open PySem PySem.Spec PyProof.Rows
section
variable {X : Cx}
end
end L2
namespace My
open PySem L2
/-! ### rows in order -/
end My

/-! ## a tie beside a tree has a ring -/
namespace My
open PySem L2
end My

/-! ## greater numbers -/
namespace L2
open PySem PySem.Spec PyProof.Rows
section
variable {X : Cx}
end
end L2

/-! ## sorted(list of lists of ints) -/
namespace L2
open PySem PySem.Spec PyProof.Rows
open PySem.SeqAt
open PySem.AutoSeq1 (wpAny_loadPart')
open PySem.MeetsSeq PySem.MeetsSeq2 PySem.MeetsSeq3
end L2
namespace L2
open PySem PySem.Spec PyProof.Rows My
section
variable {prog : Program} {w : World} {A : Around} {E : Value → Shared → Prop} {s : Shared}
end
section
variable {X : Cx}
end
end L2

/-! ## greater factors -/
namespace L2
open PySem PySem.Spec PyProof.Rows
def CMulC (i j : Int) : Prop := (-(10 ^ 200) < i ∧ i < 10 ^ 200) ∧ (-(10 ^ 200) < j ∧ j < 10 ^ 200)
theorem bits_great {a : Int} (h1 : -(10 ^ 200) < a) (h2 : a < 10 ^ 200) : Builtin.Int.intBits a ≤ 1000 := by
  have h : a.natAbs < 10 ^ 200 := by omega
  exact PySem.intBits_le_iff.mpr (Nat.lt_trans h (by decide))
section
variable {X : Cx}
theorem op_mulC : OpR X (binaryOp .Mult) (rI CMulC fun i j => .int (i * j)) := opI fun _ _ _ _ _ _ _ hc q => mul_int q (.of_bits (Nat.le_trans (bits_great hc.1.1 hc.1.2) (by decide)) (Nat.le_trans (bits_great hc.2.1 hc.2.2) (by decide)))
end
end L2

/-! ## all rows of ties that are not longer than a tree -/
namespace My
open PySem L2
end My

/-! ## min(list of ints) -/
namespace L2
open PySem PySem.Spec PyProof.Rows
section
variable {X : Cx}
end
end L2

/-! ## ways from tree to tree -/
namespace My
open PySem L2
/-- the steps of a way: by the ties of the other tree, in their order -/
inductive WP (n : Int) (ps : List (Int × Int)) (W : List Int) (T0 : List Int) : List Int → List (Int × Int) → List Int → Prop
  | nil : WP n ps W T0 [] [] T0
  | skip {l : List Int} {ws : List (Int × Int)} {T : List Int} {z : Int} : WP n ps W T0 l ws T → z ∈ T → WP n ps W T0 (l ++ [z]) ws T
  | step {l : List Int} {ws : List (Int × Int)} {T T' : List Int} {z o : Int} : WP n ps W T0 l ws T → z ∉ T → o ∈ ringA n ps T z T → o ∉ W → (∀ y ∈ ringA n ps T z T, y ∉ W → o ≤ y) → T'.Perm (wo T o ++ [z]) → T'.Pairwise (· ≤ ·) → WP n ps W T0 (l ++ [z]) (ws ++ [(o, z)]) T'
/-- what a way does, from its beginning on -/
def Leads (n : Int) (ps : List (Int × Int)) : List Int → List (Int × Int) → List Int → Prop
  | T, [], U => T = U
  | T, (o, z) :: ws, U => o ∈ T ∧ z ∉ T ∧ ∃ T', T'.Perm (wo T o ++ [z]) ∧ T'.Pairwise (· ≤ ·) ∧ IsTree n ps T' ∧ Leads n ps T' ws U
theorem Leads.snoc {n : Int} {ps : List (Int × Int)} {U V : List Int} {o z : Int} : ∀ {ws : List (Int × Int)} {T : List Int}, Leads n ps T ws U → o ∈ U → z ∉ U → V.Perm (wo U o ++ [z]) → V.Pairwise (· ≤ ·) → IsTree n ps V → Leads n ps T (ws ++ [(o, z)]) V
  | [], T, h, h1, h2, h3, h4, h5 => by
    have h : T = U := h
    subst h
    exact ⟨h1, h2, V, h3, h4, h5, rfl⟩
  | (o', z') :: ws, T, ⟨a1, a2, T', a3, a4, a5, a6⟩, h1, h2, h3, h4, h5 => ⟨a1, a2, T', a3, a4, a5, Leads.snoc a6 h1 h2 h3 h4 h5⟩
end My

/-! ## pieces joined -/
namespace My
open PySem L2
end My

/-! ## webs numbered anew -/
namespace My
open PySem L2
end My

/-! ## min and max of a tuple of ints -/
namespace L2
open PySem PySem.Spec PyProof.Rows
section
variable {prog : Program} {w : World} {A : Around} {E : Value → Shared → Prop} {s : Shared} {l : Addr} {xs : Array (Int × Tok)}
end
section
variable {X : Cx}
end
end L2

/-! ## one tie left out, two places drawn together -/
namespace My
open PySem L2
theorem cut_from2 {xs : List V} {i : Int} (h0 : 0 ≤ i) : cutV xs (some i) none = xs.drop i.toNat := by
  have e : HT.sIx xs.length 0 (some i) = min i.toNat xs.length := by
    show (if i < 0 then (i + (xs.length : Int)).toNat else min i.toNat xs.length) = _
    rw [if_neg (by omega)]
  unfold cutV
  rw [e, HT.sIx_none, List.take_of_length_le (by rw [List.length_drop]; exact Nat.le_refl _)]
  by_cases h : i.toNat ≤ xs.length
  · rw [Nat.min_eq_left h]
  · rw [Nat.min_eq_right (by omega), List.drop_eq_nil_of_le (Nat.le_refl _), List.drop_eq_nil_of_le (by omega)]
end My

/-! ## an item of a list or of a tuple; two tests with one end -/
namespace L2
open PySem PySem.Spec PyProof.Rows
section
variable {X : Cx}
end
end L2

/-! ## lists of a known length -/
namespace My
theorem len1 {α : Type} {l : List α} (h : l.length = 1) : ∃ a, l = [a] := by
  cases l with
  | nil => cases h
  | cons a l => cases l with
    | nil => exact ⟨a, rfl⟩
    | cons b l => simp at h
theorem len2 {α : Type} {l : List α} (h : l.length = 2) : ∃ a b, l = [a, b] := by
  cases l with
  | nil => cases h
  | cons a l =>
    obtain ⟨b, rfl⟩ := len1 (Nat.succ.inj h)
    exact ⟨a, b, rfl⟩
theorem len3 {α : Type} {l : List α} (h : l.length = 3) : ∃ a b c, l = [a, b, c] := by
  cases l with
  | nil => cases h
  | cons a l =>
    obtain ⟨b, c, rfl⟩ := len2 (Nat.succ.inj h)
    exact ⟨a, b, c, rfl⟩
end My

/-! ## the script's numbers have a weight; products within it -/
namespace L2
open PySem PySem.Spec PyProof.Rows
section
variable {X : Cx}
end
end L2
namespace Att
open PySem PySem.W PySem.Calls PyProof.Rows
end Att
namespace L2
open PySem PySem.Spec PyProof.Rows
end L2

/-! ## two webs put together; a pair many times -/
namespace My
open PySem L2
end My

/-! ## tuple(list or tuple), told once -/
namespace L2
open PySem PySem.Spec PyProof.Rows
section
variable {X : Cx}
end
end L2
namespace My
open PySem L2
end My

/-! ## tuple(reversed(tuple)) -/
namespace L2
open PySem PySem.Spec PyProof.Rows
section
variable {prog : Program} {w : World} {A : Around} {E : Value → Shared → Prop} {s : Shared} {it a : Addr} {items : Array Value}
end
section
variable {X : Cx} {p p2 pos pos2 : Pos} {e : Expr} {t : TA}
end
end L2

/-! ## t + u and t[lo:hi] of own tuples, told once -/
namespace L2
open PySem PySem.Spec PyProof.Rows
section
variable {X : Cx}
theorem cut_whole {xs : List V} {lo hi : Option Int} (h0 : HT.sIx xs.length 0 lo = 0) (h1 : HT.sIx xs.length xs.length hi = xs.length) : cutV xs lo hi = xs := by
  unfold cutV
  rw [h0, h1]
  simp
end
end L2

/-! ## partners between two trees -/
namespace My
open PySem L2
end My

/-! ## trees within joined ties, trees with a tie -/
namespace My
open PySem L2
end My

/-! ## tuple(..) of an own tuple or a list: an own tuple -/
namespace L2
open PySem PySem.Spec PyProof.Rows
section
variable {X : Cx}
end
end L2
namespace My
open PySem L2
/-- a walk of good steps from a tree -/
inductive Wk (n : Int) (ps : List (Int × Int)) (T0 : List Int) : List (Int × Int) → List Int → Prop
  | nil : Wk n ps T0 [] T0
  | step {ws : List (Int × Int)} {T T' : List Int} {o z : Int} : Wk n ps T0 ws T → exg n ps T o z → T'.Perm (wo T o ++ [z]) → T'.Pairwise (· ≤ ·) → Wk n ps T0 (ws ++ [(o, z)]) T'
end My

/-! ## the tree farthest from a tree -/
namespace My
open PySem L2
end My

/-! ## forests, listed in order -/
namespace My
open PySem L2
/-- no ring among them -/
def Fr (n : Nat) (ps : List (Int × Int)) (l : List Int) : Bool := decide (grw n ps l = l)
theorem Fr.nil (n : Nat) (ps : List (Int × Int)) : Fr n ps [] = true := decide_eq_true rfl
/-- the forests of so many ties -/
def frs (n : Nat) (ps : List (Int × Int)) (k : Nat) : List (List Int) := (cmb (ps.length : Int) k).filter (Fr n ps)
end My

/-! ## a tree that no exchange makes shorter is a shortest one -/
namespace My
open PySem L2
end My

/-! ## the gains of a tree, found tie by tie -/
namespace My
open PySem L2
end My

/-! ## the least and the greatest tree with some ties and without others -/
namespace My
open PySem L2
end My

/-! ## for x in reversed(a list or a tuple) -/
namespace L2
open PySem PySem.Spec PyProof.Rows
section
variable {X : Cx}
end
end L2
namespace My
open PySem L2
end My

/-! ## the tree behind and the tree ahead -/
namespace My
open PySem L2
/-! ### what a call may answer: nothing, or a tree -/
end My

/-! ## a + b of two lists, wherever they lie -/
namespace L2
open PySem PySem.Spec PyProof.Rows
def rCatK (K : PySem.W.Frag) : R2 := fun x y H Q => ∃ l b xs zs, x = .ref l ∧ y = .ref b ∧ SqL K H l xs ∧ SqL K H b zs ∧ xs.length + zs.length ≤ sizeLine ∧ ∀ p, H p = none → Q (.ref p) (upd H p (.lst (xs ++ zs)))
section
variable {X : Cx}
theorem op_catK (K : PySem.W.Frag) (hk : X.K = K := by rfl) : OpR X (binaryOp .Add) (rCatK K) := by
  subst hk
  intro pins s σ H x y v u Q I rx ry h
  obtain ⟨l, b, xs, zs, rfl, rfl, hH, hB, hz, q⟩ := h
  cases rx
  cases ry
  obtain ⟨its, r, p, _⟩ := I.list hH
  obtain ⟨its2, r2, p2, _⟩ := I.list hB
  have l1 := r.length
  have l2 := r2.length
  obtain ⟨⟨cls, dd, data, sl⟩, ho, hc, n, hd⟩ := id p.isList
  obtain ⟨⟨cls2, dd2, data2, sl2⟩, ho2, hc2, n2, hd2⟩ := id p2.isList
  simp only at hc hd hc2 hd2
  subst hc hd hc2 hd2
  have e : its.toArray ++ its2.toArray = (its ++ its2).toArray := by simp
  refine concat_meets ⟨_, ho, rfl⟩ ⟨_, ho2, rfl⟩ noFill_list_add seq_list_add PySem.F.slot_list_add PySem.F.entry_list_add (PySem.F.args_list_add_2 _ _) (list_addW l b its.toArray its2.toArray n n2 dd dd2 sl sl2 (by rw [List.size_toArray, List.size_toArray]; omega)) ⟨ho, ho2, ?_⟩
  rw [e]
  exact ⟨.ref _, _, I.lnew (t' := s.toks) (r.append r2) (by rw [List.length_append]; omega), rfl, q _ I.fresh⟩
end
end L2

/-! ## trees counted by parting -/
namespace My
open PySem L2
end My

/-! ## loops in front -/
namespace My
open PySem L2
theorem kit_int_bool {K : PySem.W.Frag} : PySem.W.kitOne K (.type "int") (.type "bool") = some false := by
  unfold PySem.W.kitOne
  rw [if_neg (by decide)]
  rfl
end My

/-! ## list.insert -/
namespace L2
open PySem PySem.Spec PyProof.Rows
section
variable {X : Cx}
end
end L2

/-! ## forests, tie after tie -/
namespace My
open PySem L2
theorem prod_lt {a b M N : Int} (a0 : 0 ≤ a) (aM : a < M) (b0 : 0 ≤ b) (bN : b < N) : 0 ≤ a * b ∧ a * b < M * N := ⟨Int.mul_nonneg a0 b0, Int.lt_of_le_of_lt (Int.mul_le_mul_of_nonneg_left (Int.le_of_lt bN) a0) (Int.mul_lt_mul_of_pos_right aM (by omega))⟩
theorem PairsV.set {H : Hp} {xs : List V} {ps : List (Int × Int)} {v : V} {p : Int × Int} (h : PairsV H xs ps) (i : Nat) (q : PairV H v p) : PairsV H (xs.set i v) (ps.set i p) := by
  refine ⟨by rw [List.length_set, List.length_set]; exact h.1, fun j x e => ?_⟩
  have hl := h.1
  by_cases c : i = j
  · subst c
    rw [List.getElem?_set] at e
    rw [if_pos rfl] at e
    by_cases hlt : i < ps.length
    · rw [if_pos hlt] at e
      obtain rfl := Option.some.inj e
      exact ⟨v, by rw [List.getElem?_set, if_pos rfl, if_pos (by omega)], q⟩
    · rw [if_neg hlt] at e
      cases e
  · rw [List.getElem?_set, if_neg c] at e
    obtain ⟨w, e1, r⟩ := h.2 j x e
    exact ⟨w, by rw [List.getElem?_set, if_neg c]; exact e1, r⟩
end My

/-! ## for x, y in zip(list, list) -/
namespace L2
open PySem PySem.Spec PyProof.Rows
/-- at turn i: a new pair of the two lists' i-th ones -/
def Itz (K : PySem.W.Frag) (a b : Addr) : It :=
  ⟨fun i H => ∃ xs ys x y, SqL K H a xs ∧ SqL K H b ys ∧ xs[i]? = some x ∧ ys[i]? = some y, fun i H v H' => ∃ T x y, H T = none ∧ v = .ref T ∧ H' = upd H T (.tup [x, y]) ∧ (∀ xs, SqL K H a xs → xs[i]? = some x) ∧ ∀ ys, SqL K H b ys → ys[i]? = some y,
   fun i H => ∃ xs ys, SqL K H a xs ∧ SqL K H b ys ∧ (xs.length ≤ i ∨ ys.length ≤ i)⟩
theorem turn_zip {P : Program} {w : World} {K : PySem.W.Frag} {elts : List Expr} {x1 : Nat} {pos : Pos} (a b z TI TO i1 i2 : Addr) (D : ZipApart z TI TO i1 i2 a b) :
    Turn P w K (.Tuple elts x1 pos) (Itz K a b) [z, TI, TO, i1, i2] z (fun i h => IsZip h z TI TO .none ∧ IsPair h TI (.ref i1) (.ref i2) ∧ (∃ c d, IsPair h TO c d) ∧ h.IsListIter i1 a i ∧ h.IsListIter i2 b i) where
  mem := by simp
  obj := fun i h st c hc => by
    obtain ⟨hz, hTI, ⟨u, v, hTO⟩, ⟨o1, e1, _, d1⟩, ⟨o2, e2, _, d2⟩⟩ := st
    have hc' : c = z ∨ c = TI ∨ c = TO ∨ c = i1 ∨ c = i2 := by simpa using hc
    rcases hc' with rfl | rfl | rfl | rfl | rfl
    · exact ⟨_, hz, fun v q => by
        have q' : Data.fields _ = Data.cell v := q
        cases q'⟩
    · exact ⟨_, hTI, fun v q => by
        have q' : Data.seq _ _ = Data.cell v := q
        cases q'⟩
    · exact ⟨_, hTO, fun v q => by
        have q' : Data.seq _ _ = Data.cell v := q
        cases q'⟩
    · exact ⟨o1, e1, fun v q => by rw [d1] at q; cases q⟩
    · exact ⟨o2, e2, fun v q => by rw [d2] at q; cases q⟩
  keep := fun i h h' st k => by
    obtain ⟨hz, hTI, ⟨u, v, hTO⟩, h1, h2⟩ := st
    exact ⟨k z (by simp) _ hz, k TI (by simp) _ hTI, ⟨u, v, k TO (by simp) _ hTO⟩, h1.at fun o e => k i1 (by simp) o e, h2.at fun o e => k i2 (by simp) o e⟩
  item := by
    intro X hP hw hK hc i pins s σ H E I hf st hg
    subst hP hw hK
    obtain ⟨xs, ys, x, y, hq, hq2, hx, hy⟩ := hg
    obtain ⟨hz, hTI, ⟨u0, v0, hTO⟩, h1, h2⟩ := st
    obtain ⟨its, rv, p, _⟩ := I.list hq
    obtain ⟨u, hu, ru⟩ := rv.get hx
    obtain ⟨its2, rv2, p2, _⟩ := I.list hq2
    obtain ⟨v, hv, rv'⟩ := rv2.get hy
    have fz := hf z (by simp)
    have fTO := hf TO (by simp)
    have fi1 := hf i1 (by simp)
    have fi2 := hf i2 (by simp)
    have hT0 : H s.heap.objs.size = none := I.hok.fresh (Nat.le_refl _)
    refine wpAny_pyNext_zip_item D hz hTI hTO h1 h2 p.isList p2.isList (x := u) (y := v) (by simpa using hu) (by simpa using hv) fun h' a1 a2 a3 a4 a5 hsz hk => ?_
    have ltT : ∀ b ob, s.heap.get? b = some ob → b ≠ s.heap.objs.size := fun b ob z => Nat.ne_of_lt (Heap.lt_size z)
    have ltH : ∀ b ob, H b = some ob → b ≠ s.heap.objs.size := fun b ob z => Nat.ne_of_lt (I.hok.lt z)
    have nof : ∀ c ob, H c = some ob → c ≠ z ∧ c ≠ TO ∧ c ≠ i1 ∧ c ≠ i2 := fun c ob q => ⟨fun e => (by rw [e, fz.1] at q; cases q), fun e => (by rw [e, fTO.1] at q; cases q), fun e => (by rw [e, fi1.1] at q; cases q), fun e => (by rw [e, fi2.1] at q; cases q)⟩
    have hkc : ∀ c o, c ∉ [z, TO, i1, i2] → s.heap.get? c = some o → h'.get? c = some o := fun c o hcx q => hk c o (fun e => hcx (by simp [e])) (fun e => hcx (by simp [e])) (fun e => hcx (by simp [e])) (fun e => hcx (by simp [e])) q
    have I1 : Inv X pins σ (upd H s.heap.objs.size (.tup [x, y])) { s with heap := h' } := by
      refine I.step (g' := s.gens) (d' := s.drawn) (t' := s.toks) (ch := [z, TO, i1, i2]) (fun c hb => ?_) (fun c o _ _ hcx q _ => hkc c o hcx q) (fun c o _ _ hcx q _ => ⟨o.slots, hkc c o hcx q⟩)
        (fun c o _ q n => by rw [upd_ne (ltT c o q)]; exact n) (fun c o hcx q => ⟨o, hkc c o hcx q⟩) (fun c ys q => by rw [upd_ne (ltH c _ q)]; exact q) (fun c o v q => by rw [upd_ne (ltH c _ q)]; exact q)
        (fun c ps q => ⟨#[], by rw [upd_ne (ltH c _ q), q]; simp⟩) (fun m hm => ?_) (fun c v' q => ?_) I.bare
      · have hc' : c = z ∨ c = TO ∨ c = i1 ∨ c = i2 := by simpa using hb
        rcases hc' with rfl | rfl | rfl | rfl
        · exact ⟨fz.2.2.2.1, fz.2.1, fz.2.2.2.2.1, fz.2.2.2.2.2⟩
        · exact ⟨fTO.2.2.2.1, fTO.2.1, fTO.2.2.2.2.1, fTO.2.2.2.2.2⟩
        · exact ⟨fi1.2.2.2.1, fi1.2.1, fi1.2.2.2.2.1, fi1.2.2.2.2.2⟩
        · exact ⟨fi2.2.2.2.1, fi2.2.1, fi2.2.2.2.2.1, fi2.2.2.2.2.2⟩
      · obtain ⟨o, es, ep, ho', r⟩ := hm
        exact ⟨o, es, ep, hk _ o (Ne.symm fz.2.1) (Ne.symm fTO.2.1) (Ne.symm fi1.2.1) (Ne.symm fi2.2.1) ho', r⟩
      · by_cases hb : c = s.heap.objs.size
        · subst hb
          rw [upd_same] at q
          cases q
          exact ⟨by show 2 ≤ sizeLine; decide, [u, v], .cons ru (.cons rv' .nil), ⟨_, a5, rfl, _, rfl⟩⟩
        · rw [upd_ne hb] at q
          refine (I.hok c v' q).stay (fun e w' hc' q' => ?_) (fun e q => by rw [upd_ne (ltH e _ q)]; exact q) fun e ys q => by rw [upd_ne (ltH e _ q)]; exact q
          rcases hc' with rfl | hc'
          · have := nof e _ q
            exact hk e w' this.1 this.2.1 this.2.2.1 this.2.2.2 q'
          · have := nof e _ hc'
            exact hk e w' this.1 this.2.1 this.2.2.1 this.2.2.2 q'
    refine ⟨_, rfl, wpAny_letOwnedTupleGo_zip a1 fun h2 hz2 hs2 => ?_⟩
    have fT : z ≠ s.heap.objs.size := ltT z _ hz
    have I2 : Inv X pins σ (upd H s.heap.objs.size (.tup [x, y])) { s with heap := h2 } := Inv.turned (s := { s with heap := h' }) (h' := h2) (t' := s.toks) (it := z) I1 (fun b o hb q => hs2.extBut b o hb q) (by rw [upd_ne fT]; exact fz.1) fz.2.1 fz.2.2.2.1 fz.2.2.2.2.1 fz.2.2.2.2.2
    refine ⟨.ref s.heap.objs.size, _, I2, rfl, ⟨_, x, y, hT0, rfl, rfl, fun ys hy' => by rw [I.list_inj hy' hq]; exact hx, fun ys hy' => by rw [I.list_inj hy' hq2]; exact hy⟩,
      ⟨hz2, hs2.extBut _ _ D.TIz (hkc _ _ (by have := D.TIz; have := D.TITO; have := D.TIi1; have := D.TIi2; simp; exact ⟨D.TIz, D.TITO, D.TIi1, D.TIi2⟩) hTI), ⟨u, v, hs2.extBut _ _ D.TOz a2⟩, a3.at fun o q => hs2.extBut i1 o D.i1z q, a4.at fun o q => hs2.extBut i2 o D.i2z q⟩, fun c hc => ?_⟩
    have hc' : c = z ∨ c = TI ∨ c = TO ∨ c = i1 ∨ c = i2 := by simpa using hc
    have hn := (hf c hc).1
    rcases hc' with rfl | rfl | rfl | rfl | rfl
    · rw [upd_ne fT]; exact hn
    · rw [upd_ne (ltT _ _ hTI)]; exact hn
    · rw [upd_ne (ltT _ _ hTO)]; exact hn
    · obtain ⟨o, eo, _⟩ := h1
      rw [upd_ne (ltT _ o eo)]; exact hn
    · obtain ⟨o, eo, _⟩ := h2
      rw [upd_ne (ltT _ o eo)]; exact hn
  done := by
    intro X hP hw hK hc i pins s σ H E I hf st hg
    subst hP hw hK
    obtain ⟨xs, ys, hq, hq2, hend⟩ := hg
    obtain ⟨hz, hTI, ⟨u0, v0, hTO⟩, h1, h2⟩ := st
    obtain ⟨its, rv, p, _⟩ := I.list hq
    obtain ⟨its2, rv2, p2, _⟩ := I.list hq2
    have l1 := rv.length
    have l2 := rv2.length
    have fz := hf z (by simp)
    have fTO := hf TO (by simp)
    have fi1 := hf i1 (by simp)
    have fi2 := hf i2 (by simp)
    refine wpAny_pyNext_zip_end (I.ok.hd hc) D hz hTI hTO h1 h2 p.isList p2.isList (by
      rcases hend with e | e
      · exact .inl (by simp; omega)
      · exact .inr (by simp; omega)) fun h' hk => ⟨rfl, ?_⟩
    have hkc : ∀ c o, c ∉ [z, TO, i1, i2] → s.heap.get? c = some o → h'.get? c = some o := fun c o hcx q => hk c o (fun e => hcx (by simp [e])) (fun e => hcx (by simp [e])) (fun e => hcx (by simp [e])) (fun e => hcx (by simp [e])) q
    have nof : ∀ c ob, H c = some ob → c ≠ z ∧ c ≠ TO ∧ c ≠ i1 ∧ c ≠ i2 := fun c ob q => ⟨fun e => (by rw [e, fz.1] at q; cases q), fun e => (by rw [e, fTO.1] at q; cases q), fun e => (by rw [e, fi1.1] at q; cases q), fun e => (by rw [e, fi2.1] at q; cases q)⟩
    refine I.step (g' := s.gens) (d' := s.drawn) (t' := s.toks) (ch := [z, TO, i1, i2]) (fun c hb => ?_) (fun c o _ _ hcx q _ => hkc c o hcx q) (fun c o _ _ hcx q _ => ⟨o.slots, hkc c o hcx q⟩)
      (fun c o _ q n => n) (fun c o hcx q => ⟨o, hkc c o hcx q⟩) (fun c ys q => q) (fun c o v q => q)
      (fun c ps q => ⟨#[], by rw [q]; simp⟩) (fun m hm => ?_) (fun c v' q => ?_) I.bare
    · have hc' : c = z ∨ c = TO ∨ c = i1 ∨ c = i2 := by simpa using hb
      rcases hc' with rfl | rfl | rfl | rfl
      · exact ⟨fz.2.2.2.1, fz.2.1, fz.2.2.2.2.1, fz.2.2.2.2.2⟩
      · exact ⟨fTO.2.2.2.1, fTO.2.1, fTO.2.2.2.2.1, fTO.2.2.2.2.2⟩
      · exact ⟨fi1.2.2.2.1, fi1.2.1, fi1.2.2.2.2.1, fi1.2.2.2.2.2⟩
      · exact ⟨fi2.2.2.2.1, fi2.2.1, fi2.2.2.2.2.1, fi2.2.2.2.2.2⟩
    · obtain ⟨o, es, ep, ho', r⟩ := hm
      exact ⟨o, es, ep, hk _ o (Ne.symm fz.2.1) (Ne.symm fTO.2.1) (Ne.symm fi1.2.1) (Ne.symm fi2.2.1) ho', r⟩
    · refine (I.hok c v' q).stay (fun e w' hc' q' => ?_) (fun e q => q) fun e ys q => q
      rcases hc' with rfl | hc'
      · have := nof e _ q
        exact hk e w' this.1 this.2.1 this.2.2.1 this.2.2.2 q'
      · have := nof e _ hc'
        exact hk e w' this.1 this.2.1 this.2.2.1 this.2.2.2 q'
  self := fun _ _ _ _ _ st h => wpAny_pyIter_zip st.1 h
def iZip (K : PySem.W.Frag) (ta : TA) : TI := fun σ H R => ta σ H fun vs H1 => ∃ a b, vs = [.ref a, .ref b] ∧ (∃ xs ys, SqL K H1 a xs ∧ SqL K H1 b ys) ∧ R (Itz K a b) H1
section
variable {X : Cx}
theorem pi_zip (K : PySem.W.Frag) {elts : List Expr} {x1 : Nat} {tpos : Pos} {e f : Expr} {ta : TA} {p pos : Pos} (hg : Gl X "zip") (hm : X.mg "zip" = none) (ha : PA X [e, f] ta) (hs : starEach [e, f] X.env = (false, eval e X.env) :: starEach [f] X.env := by rfl) (hpl : (backTo pos (starEach [f] X.env)).any (·.1) = false := by rfl) (hk : X.K = K := by rfl) :
    PI X (.Tuple elts x1 tpos) (.Call (.Name "zip" p) [e, f] [] pos) (iZip K ta) := by
  subst hk
  intro pins s σ H R I h
  refine Call_ (ld_blt I hg hm Boot.«zip» (PyProof.Rows.callWith_type1 (thn (ha pos pins s σ H _ I h) fun us s1 ⟨vs, H1, I1, r1, q1⟩ => ?_) hs hpl))
  obtain ⟨a, b, ev, ⟨xs, ys, hq, hq2⟩, q⟩ := q1
  subst ev
  obtain ⟨u, u', rfl, ru, ru'⟩ := vals2 r1
  obtain rfl : u = Value.ref a := ru
  obtain rfl : u' = Value.ref b := ru'
  obtain ⟨its, rv, pl, _⟩ := I1.list hq
  obtain ⟨its2, rv2, pl2, _⟩ := I1.list hq2
  have lt1 : a < s1.heap.objs.size := let ⟨_, _, e, _⟩ := pl; Heap.lt_size e
  have lt2 : b < s1.heap.objs.size := let ⟨_, _, e, _⟩ := pl2; Heap.lt_size e
  have D : ZipApart (s1.heap.objs.size + 4) (s1.heap.objs.size + 2) (s1.heap.objs.size + 3) s1.heap.objs.size (s1.heap.objs.size + 1) a b := by
    have key : ∀ n x y : Nat, x < n → y < n → ZipApart (n + 4) (n + 2) (n + 3) n (n + 1) x y := fun n x y h1 h2 => by constructor <;> (intro q; have q' : (_ : Nat) = _ := q; omega)
    exact key _ _ _ lt1 lt2
  refine call_zip_2 pl.isList pl2.isList fun h' hz hTI hTO hi1 hi2 hsz hk => ?_
  refine wpAny_pyIter_zip (s := { s1 with heap := h' }) hz ?_
  refine ⟨s1.heap.objs.size + 4, [s1.heap.objs.size + 4, s1.heap.objs.size + 2, s1.heap.objs.size + 3, s1.heap.objs.size, s1.heap.objs.size + 1], _, _, H1, rfl, I1.kept (t' := s1.toks) hk, turn_zip a b _ _ _ _ _ D, ⟨hz, hTI, ⟨_, _, hTO⟩, hi1, hi2⟩, fun c hc => ?_, q⟩
  have hle : s1.heap.objs.size ≤ c := by
    have hc' : c = s1.heap.objs.size + 4 ∨ c = s1.heap.objs.size + 2 ∨ c = s1.heap.objs.size + 3 ∨ c = s1.heap.objs.size ∨ c = s1.heap.objs.size + 1 := by simpa using hc
    rcases hc' with e | e | e | e | e <;> rw [e] <;> first | exact Nat.le_refl _ | exact Nat.le_add_right _ _
  exact I1.fpOk hle (I1.hok.fresh hle)
end
end L2
namespace My
open PySem L2
section
variable {K : PySem.W.Frag} {a b : Addr} {xs ys : List V} {g : TG} {tt : TT} {te : TE} {o : Nat} {fr : List Nat} {σ : St} {H : Hp} {Q : VK}
/-- a list out of two -/
theorem lc_zip (Pv : Nat → List V → Hp → Prop) (h0 : Pv 0 [] H) (hxy : xs.length = ys.length) (hz : xs.length < sizeLine) (hl : ∀ i zs H, i ≤ xs.length → Pv i zs H → SqL K H a xs ∧ SqL K H b ys ∧ zs.length ≤ i)
    (hs : ∀ (i : Nat) x y zs H (p : Addr), H p = none → xs[i]? = some x → ys[i]? = some y → Pv i zs H → LcTurn Pv g tt te o fr σ i (.ref p) zs (upd H p (.tup [x, y]))) (hd : ∀ zs H, Pv xs.length zs H → ∀ p, H p = none → Q (.ref p) (upd H p (.lst zs))) : LcR (Itz K a b) g tt te o fr σ H Q := by
  refine ⟨fun i m zs H => m = xs.length - i ∧ i ≤ xs.length ∧ Pv i zs H, ⟨xs.length, by simp, Nat.zero_le _, h0⟩, ?_⟩
  rintro i m zs H ⟨rfl, hi, p⟩
  obtain ⟨q, q2, hy⟩ := hl i zs H hi p
  by_cases hlt : i < xs.length
  · refine .inr ⟨⟨xs, ys, xs[i], ys[i]'(by omega), q, q2, by simp [hlt], List.getElem?_eq_getElem (by omega)⟩, by omega, fun x H' ⟨T, u, v, hT, ex, eH, hu, hv⟩ => ?_⟩
    subst ex eH
    exact hs i u v zs H T hT (hu xs q) (hv ys q2) p (fun j zs H => ∃ m', m' < xs.length - i ∧ m' = xs.length - j ∧ j ≤ xs.length ∧ Pv j zs H) fun zs H p' => ⟨xs.length - (i + 1), by omega, rfl, hlt, p'⟩
  · have e : i = xs.length := by omega
    subst e
    exact .inl ⟨⟨xs, ys, q, q2, .inl (Nat.le_refl _)⟩, by omega, hd zs H p⟩
end
end My

/-! ## determinants, by the first row -/
namespace My
abbrev Mx := Nat → Nat → Int
/-- the sum of the first n -/
def sm : Nat → (Nat → Int) → Int
  | 0, _ => 0
  | n + 1, f => sm n f + f n
theorem sm_congr {f g : Nat → Int} : ∀ {n : Nat}, (∀ i, i < n → f i = g i) → sm n f = sm n g
  | 0, _ => rfl
  | n + 1, h => by
    show sm n f + f n = sm n g + g n
    rw [sm_congr fun i hi => h i (by omega), h n (by omega)]
theorem sm_add {f g : Nat → Int} : ∀ {n : Nat}, sm n (fun i => f i + g i) = sm n f + sm n g
  | 0 => rfl
  | n + 1 => by
    show sm n (fun i => f i + g i) + (f n + g n) = sm n f + f n + (sm n g + g n)
    rw [sm_add]
    omega
theorem sm_mul {c : Int} {f : Nat → Int} : ∀ {n : Nat}, sm n (fun i => c * f i) = c * sm n f
  | 0 => (Int.mul_zero c).symm
  | n + 1 => by
    show sm n (fun i => c * f i) + c * f n = c * (sm n f + f n)
    rw [sm_mul, Int.mul_add]
theorem sm_zero : ∀ {n : Nat}, sm n (fun _ => 0) = 0
  | 0 => rfl
  | n + 1 => by
    show sm n (fun _ => 0) + 0 = 0
    rw [sm_zero]
    rfl
theorem sm_none {f : Nat → Int} {n : Nat} (h : ∀ i, i < n → f i = 0) : sm n f = 0 := by rw [sm_congr h]; exact sm_zero
theorem sm_first {f : Nat → Int} : ∀ {n : Nat}, sm (n + 1) f = f 0 + sm n (fun i => f (i + 1))
  | 0 => by show 0 + f 0 = f 0 + 0; omega
  | n + 1 => by
    show sm (n + 1) f + f (n + 1) = f 0 + (sm n (fun i => f (i + 1)) + f (n + 1))
    rw [sm_first]
    omega
theorem sm_swap {f : Nat → Nat → Int} {m : Nat} : ∀ {n : Nat}, sm n (fun i => sm m (f i)) = sm m (fun j => sm n (fun i => f i j))
  | 0 => sm_zero.symm
  | n + 1 => by
    show sm n (fun i => sm m (f i)) + sm m (f n) = sm m (fun j => sm n (fun i => f i j) + f n j)
    rw [sm_swap, sm_add]
/-- all numbers but j -/
def sk (j k : Nat) : Nat := if k < j then k else k + 1
def mn (A : Mx) (j : Nat) : Mx := fun i k => A (i + 1) (sk j k)
def sg (j : Nat) : Int := if j % 2 = 0 then 1 else -1
theorem sg_succ (j : Nat) : sg (j + 1) = - sg j := by
  unfold sg
  by_cases h : j % 2 = 0
  · rw [if_pos h, if_neg (by omega)]
  · rw [if_neg h, if_pos (by omega)]; rfl
def det : Nat → Mx → Int
  | 0, _ => 1
  | n + 1, A => sm (n + 1) fun j => sg j * A 0 j * det n (mn A j)
theorem sk_lt {j k n : Nat} (h : k < n) : sk j k < n + 1 := by unfold sk; split <;> omega
theorem det_congr : ∀ {n : Nat} {A B : Mx}, (∀ i j, i < n → j < n → A i j = B i j) → det n A = det n B
  | 0, _, _, _ => rfl
  | n + 1, A, B, h => sm_congr fun j hj => by
    rw [h 0 j (by omega) hj, det_congr (A := mn A j) (B := mn B j) fun i k hi hk => h (i + 1) (sk j k) (by omega) (sk_lt hk)]
theorem det_lin : ∀ {n : Nat} {A B C : Mx} {c : Int} {i : Nat}, i < n → (∀ r j, r < n → j < n → r ≠ i → A r j = B r j ∧ A r j = C r j) → (∀ j, j < n → A i j = c * B i j + C i j) → det n A = c * det n B + det n C
  | 0, _, _, _, _, _, hi, _, _ => absurd hi (Nat.not_lt_zero _)
  | n + 1, A, B, C, c, i, hi, h1, h2 => by
    show sm (n + 1) (fun j => sg j * A 0 j * det n (mn A j)) = c * sm (n + 1) (fun j => sg j * B 0 j * det n (mn B j)) + sm (n + 1) (fun j => sg j * C 0 j * det n (mn C j))
    rw [← sm_mul, ← sm_add]
    refine sm_congr fun j hj => ?_
    cases i with
    | zero =>
      have e1 : det n (mn B j) = det n (mn A j) := det_congr fun r k hr hk => (h1 (r + 1) (sk j k) (by omega) (sk_lt hk) (by omega)).1.symm
      have e2 : det n (mn C j) = det n (mn A j) := det_congr fun r k hr hk => (h1 (r + 1) (sk j k) (by omega) (sk_lt hk) (by omega)).2.symm
      rw [e1, e2, h2 j hj]
      generalize det n (mn A j) = d
      generalize sg j = s
      rw [Int.mul_add, Int.add_mul, ← Int.mul_assoc s c, Int.mul_comm s c, Int.mul_assoc c s, Int.mul_assoc c]
    | succ i =>
      have e := det_lin (n := n) (A := mn A j) (B := mn B j) (C := mn C j) (c := c) (i := i) (by omega) (fun r k hr hk hne => h1 (r + 1) (sk j k) (by omega) (sk_lt hk) (by omega)) (fun k hk => h2 (sk j k) (sk_lt hk))
      have e0 := h1 0 j (by omega) hj (by omega)
      rw [e, ← e0.1, ← e0.2]
      generalize det n (mn B j) = d
      generalize det n (mn C j) = d'
      generalize sg j * A 0 j = s
      rw [Int.mul_add, ← Int.mul_assoc, ← Int.mul_assoc, Int.mul_comm s c]
theorem mn_mn {A : Mx} {j k i l : Nat} (h : j ≤ k) : mn (mn A j) k i l = mn (mn A (k + 1)) j i l := by
  show A (i + 1 + 1) (sk j (sk k l)) = A (i + 1 + 1) (sk (k + 1) (sk j l))
  refine congrArg _ ?_
  unfold sk
  by_cases h1 : l < j
  · rw [if_pos (show l < k by omega), if_pos h1, if_pos (show l < k + 1 by omega)]
  · rw [if_neg h1]
    by_cases h2 : l < k
    · rw [if_pos h2, if_neg h1, if_pos (show l + 1 < k + 1 by omega)]
    · rw [if_neg h2, if_neg (show ¬ l + 1 < j by omega), if_neg (show ¬ l + 1 < k + 1 by omega)]
/-- two neighbouring rows alike -/
theorem det_next : ∀ {n : Nat} {A : Mx} {i : Nat}, i + 1 < n → (∀ j, j < n → A i j = A (i + 1) j) → det n A = 0
  | 0, _, _, hi, _ => absurd hi (Nat.not_lt_zero _)
  | n + 1, A, i + 1, hi, h => sm_none fun j hj => by
    rw [det_next (A := mn A j) (i := i) (by omega) fun k hk => h (sk j k) (sk_lt hk), Int.mul_zero]
  | 1, _, 0, hi, _ => absurd hi (by omega)
  | n + 2, A, 0, _, h => by
    -- t j k: columns j and then k
    obtain ⟨t, ht⟩ : ∃ t : Nat → Nat → Int, t = fun j k => sg j * A 0 j * (sg k * A 1 (sk j k) * det n (mn (mn A j) k)) := ⟨_, rfl⟩
    have e1 : det (n + 2) A = sm (n + 2) fun j => sm (n + 1) (t j) := sm_congr fun j hj => by
      rw [ht, sm_mul]
      rfl
    have e2 : ∀ j k, j ≤ k → k < n + 1 → t (k + 1) j = - t j k := fun j k hjk hk => by
      rw [ht]
      show sg (k + 1) * A 0 (k + 1) * (sg j * A 1 (sk (k + 1) j) * det n (mn (mn A (k + 1)) j)) = - (sg j * A 0 j * (sg k * A 1 (sk j k) * det n (mn (mn A j) k)))
      have f1 : sk (k + 1) j = j := by unfold sk; rw [if_pos (by omega)]
      have f2 : sk j k = k + 1 := by unfold sk; rw [if_neg (by omega)]
      have f3 : det n (mn (mn A (k + 1)) j) = det n (mn (mn A j) k) := det_congr fun i l _ _ => (mn_mn hjk).symm
      rw [f1, f2, f3, sg_succ, ← h j (by omega), ← h (k + 1) (by omega)]
      generalize det n (mn (mn A j) k) = d
      generalize A 0 j = x
      generalize A 0 (k + 1) = y
      generalize sg j = s
      generalize sg k = u
      simp only [Int.neg_mul, Int.neg_inj]
      simp only [Int.mul_comm, Int.mul_left_comm, Int.mul_assoc]
    have e3 : sm (n + 2) (fun j => sm (n + 1) (t j)) = sm (n + 2) (fun j => sm (n + 1) fun k => if k < j then t j k else 0) + sm (n + 2) (fun j => sm (n + 1) fun k => if k < j then 0 else t j k) := by
      rw [← sm_add]
      refine sm_congr fun j _ => ?_
      rw [← sm_add]
      refine sm_congr fun k _ => ?_
      split <;> omega
    have e4 : sm (n + 2) (fun j => sm (n + 1) fun k => if k < j then t j k else 0) = sm (n + 1) (fun k => sm (n + 1) fun j => if k ≤ j then t (j + 1) k else 0) := by
      rw [sm_swap]
      refine sm_congr fun k _ => ?_
      rw [sm_first, if_neg (by omega), Int.zero_add]
      refine sm_congr fun j _ => ?_
      by_cases c : k ≤ j
      · rw [if_pos c, if_pos (by omega)]
      · rw [if_neg c, if_neg (by omega)]
    have e5 : sm (n + 2) (fun j => sm (n + 1) fun k => if k < j then 0 else t j k) = sm (n + 1) (fun j => sm (n + 1) fun k => if j ≤ k then t j k else 0) := by
      show sm (n + 1) (fun j => sm (n + 1) fun k => if k < j then 0 else t j k) + sm (n + 1) (fun k => if k < n + 1 then 0 else t (n + 1) k) = _
      rw [sm_none (f := fun k => if k < n + 1 then 0 else t (n + 1) k) fun k hk => if_pos hk, Int.add_zero]
      refine sm_congr fun j _ => sm_congr fun k _ => ?_
      by_cases c : j ≤ k
      · rw [if_pos c, if_neg (by omega)]
      · rw [if_neg c, if_pos (by omega)]
    rw [e1, e3, e4, e5, ← sm_add]
    refine sm_none fun j hj => ?_
    rw [← sm_add]
    refine sm_none fun k hk => ?_
    by_cases c : j ≤ k
    · rw [if_pos c, if_pos c, e2 j k c hk]
      omega
    · rw [if_neg c, if_neg c]
      rfl
end My

/-! ## determinants: rows exchanged, rows taken off -/
namespace My
/-- rows i and i + 1 put in -/
def put2 (A : Mx) (i : Nat) (x y : Nat → Int) : Mx := fun r => if r = i then x else if r = i + 1 then y else A r
theorem det_put2 {n : Nat} {A : Mx} {i : Nat} {x x' y : Nat → Int} (hi : i + 1 < n) : det n (put2 A i (fun j => x j + x' j) y) = det n (put2 A i x y) + det n (put2 A i x' y) := by
  have := det_lin (n := n) (A := put2 A i (fun j => x j + x' j) y) (B := put2 A i x y) (C := put2 A i x' y) (c := 1) (i := i) (by omega) (fun r j _ _ hne => by unfold put2; rw [if_neg hne, if_neg hne, if_neg hne]; exact ⟨rfl, rfl⟩) (fun j _ => by unfold put2; rw [if_pos rfl, if_pos rfl, if_pos rfl, Int.one_mul])
  rw [this, Int.one_mul]
theorem det_put2' {n : Nat} {A : Mx} {i : Nat} {x y y' : Nat → Int} (hi : i + 1 < n) : det n (put2 A i x (fun j => y j + y' j)) = det n (put2 A i x y) + det n (put2 A i x y') := by
  have ne : ¬ i + 1 = i := by omega
  have := det_lin (n := n) (A := put2 A i x (fun j => y j + y' j)) (B := put2 A i x y) (C := put2 A i x y') (c := 1) (i := i + 1) (by omega) (fun r j _ _ hne => by unfold put2; rw [if_neg hne, if_neg hne, if_neg hne]; exact ⟨rfl, rfl⟩) (fun j _ => by unfold put2; rw [if_neg ne, if_neg ne, if_neg ne, if_pos rfl, if_pos rfl, if_pos rfl, Int.one_mul])
  rw [this, Int.one_mul]
theorem det_same {n : Nat} {A : Mx} {i : Nat} {x : Nat → Int} (hi : i + 1 < n) : det n (put2 A i x x) = 0 := det_next hi fun j _ => by
  unfold put2
  rw [if_pos rfl, if_neg (by omega), if_pos rfl]
theorem det_turn {n : Nat} {A : Mx} {i : Nat} {x y : Nat → Int} (hi : i + 1 < n) : det n (put2 A i y x) = - det n (put2 A i x y) := by
  have h := det_same (A := A) (x := fun j => x j + y j) hi
  rw [det_put2 hi, det_put2' hi, det_put2' hi, det_same hi, det_same hi] at h
  omega
theorem put2_own {A : Mx} {i : Nat} : put2 A i (A i) (A (i + 1)) = A := by
  funext r
  unfold put2
  by_cases h : r = i
  · rw [if_pos h, h]
  · rw [if_neg h]
    by_cases h2 : r = i + 1
    · rw [if_pos h2, h2]
    · rw [if_neg h2]
theorem det_swap {n : Nat} {A : Mx} {i : Nat} (hi : i + 1 < n) : det n (put2 A i (A (i + 1)) (A i)) = - det n A := by
  have := det_turn (A := A) (x := A i) (y := A (i + 1)) hi
  rw [put2_own] at this
  exact this
/-- two rows alike -/
theorem det_alike {n : Nat} {a : Nat} : ∀ {d : Nat} {A : Mx}, a + d + 1 < n → (∀ j, j < n → A a j = A (a + d + 1) j) → det n A = 0
  | 0, A, hn, h => det_next hn h
  | d + 1, A, hn, h => by
    have e := det_swap (n := n) (A := A) (i := a + d + 1) (by omega)
    have z : det n (put2 A (a + d + 1) (A (a + d + 1 + 1)) (A (a + d + 1))) = 0 := by
      refine det_alike (a := a) (d := d) (by omega) fun j hj => ?_
      unfold put2
      rw [if_neg (by omega), if_neg (by omega), if_pos rfl]
      exact h j hj
    omega
/-- row k + t put before row k -/
def rotN (k t i : Nat) : Nat := if i < k then i else if i = k then k + t else if i ≤ k + t then i - 1 else i
theorem rotN_zero (k i : Nat) : rotN k 0 i = i := by
  unfold rotN
  by_cases h : i < k
  · rw [if_pos h]
  · rw [if_neg h]
    by_cases h2 : i = k
    · rw [if_pos h2, h2]; rfl
    · rw [if_neg h2, if_neg (by omega)]
theorem det_rot {n k : Nat} : ∀ {t : Nat} {A : Mx}, k + t < n → det n (fun i => A (rotN k t i)) = sg t * det n A
  | 0, A, _ => by
    rw [show sg 0 = 1 from rfl, Int.one_mul]
    exact det_congr fun i j _ _ => by rw [rotN_zero]
  | t + 1, A, h => by
    have e := det_rot (n := n) (k := k) (t := t) (A := put2 A (k + t) (A (k + t + 1)) (A (k + t))) (by omega)
    rw [det_swap (by omega)] at e
    have f : det n (fun i => A (rotN k (t + 1) i)) = det n (fun i => put2 A (k + t) (A (k + t + 1)) (A (k + t)) (rotN k t i)) := det_congr fun i j _ _ => by
      refine congrFun ?_ j
      have r1 : rotN k (t + 1) i = if i < k then i else if i = k then k + (t + 1) else if i ≤ k + (t + 1) then i - 1 else i := rfl
      have r2 : rotN k t i = if i < k then i else if i = k then k + t else if i ≤ k + t then i - 1 else i := rfl
      unfold put2
      by_cases h1 : i < k
      · rw [if_pos h1] at r1 r2
        rw [r1, r2, if_neg (by omega), if_neg (by omega)]
      · rw [if_neg h1] at r1 r2
        by_cases h2 : i = k
        · rw [if_pos h2] at r1 r2
          rw [r1, r2, if_pos rfl]
          rfl
        · rw [if_neg h2] at r1 r2
          by_cases h3 : i ≤ k + t
          · rw [if_pos (by omega)] at r1
            rw [if_pos h3] at r2
            rw [r1, r2, if_neg (by omega), if_neg (by omega)]
          · rw [if_neg h3] at r2
            by_cases h4 : i = k + t + 1
            · rw [if_pos (by omega)] at r1
              rw [r1, r2, if_neg (by omega), if_pos h4]
              exact congrArg A (by omega)
            · rw [if_neg (by omega)] at r1
              rw [r1, r2, if_neg (by omega), if_neg h4]
    rw [f, e, sg_succ, Int.mul_neg, Int.neg_mul]
theorem det_col0 : ∀ {n : Nat} {A : Mx}, (∀ i, i < n + 1 → A i 0 = 0) → det (n + 1) A = 0
  | 0, A, h => by
    show 0 + sg 0 * A 0 0 * 1 = 0
    rw [h 0 (by omega), Int.mul_zero]
    rfl
  | n + 1, A, h => sm_none fun j hj => by
    cases j with
    | zero => rw [h 0 (by omega), Int.mul_zero, Int.zero_mul]
    | succ j =>
      rw [det_col0 (A := mn A (j + 1)) fun i hi => ?_, Int.mul_zero]
      show A (i + 1) (sk (j + 1) 0) = 0
      rw [show sk (j + 1) 0 = 0 from rfl]
      exact h (i + 1) (by omega)
theorem det_first {n : Nat} {A : Mx} (h : ∀ i, i < n → A (i + 1) 0 = 0) : det (n + 1) A = A 0 0 * det n (fun i j => A (i + 1) (j + 1)) := by
  show sm (n + 1) (fun j => sg j * A 0 j * det n (mn A j)) = _
  rw [sm_first, sm_none fun j hj => ?_]
  · rw [Int.add_zero, show sg 0 = 1 from rfl, Int.one_mul]
    refine congrArg (A 0 0 * ·) (det_congr fun i j _ _ => ?_)
    rfl
  · cases n with
    | zero => exact absurd hj (Nat.not_lt_zero _)
    | succ n =>
      rw [det_col0 (A := mn A (j + 1)) fun i hi => ?_, Int.mul_zero]
      exact h i hi
theorem det_row0 {n : Nat} {A : Mx} {i : Nat} (hi : i < n) (h : ∀ j, j < n → A i j = 0) : det n A = 0 := by
  have := det_lin (A := A) (B := A) (C := A) (c := 1) hi (fun r j _ _ _ => ⟨rfl, rfl⟩) (fun j hj => by rw [h j hj]; rfl)
  omega
theorem det_scale {c : Int} : ∀ {n : Nat} {A : Mx}, det n (fun i j => c * A i j) = c ^ n * det n A
  | 0, _ => by show (1 : Int) = c ^ 0 * 1; rw [Int.pow_zero]; rfl
  | n + 1, A => by
    show sm (n + 1) (fun j => sg j * (c * A 0 j) * det n (mn (fun i j => c * A i j) j)) = c ^ (n + 1) * sm (n + 1) (fun j => sg j * A 0 j * det n (mn A j))
    rw [← sm_mul]
    refine sm_congr fun j _ => ?_
    have e : det n (mn (fun i j => c * A i j) j) = c ^ n * det n (mn A j) := det_scale (A := mn A j)
    rw [e, Int.pow_succ]
    generalize det n (mn A j) = d
    generalize c ^ n = p
    generalize sg j = s
    generalize A 0 j = x
    simp only [Int.mul_comm, Int.mul_left_comm, Int.mul_assoc]
/-- what stays of the rows below, once the first is taken off -/
def offN (R : Mx) : Mx := fun i j => R 0 0 * R (i + 1) (j + 1) - R (i + 1) 0 * R 0 (j + 1)
def offB (R : Mx) (k : Nat) : Mx := fun r j => if r = 0 then R 0 j else if r ≤ k then R 0 0 * R r j - R r 0 * R 0 j else R r j
theorem det_offB {m : Nat} {R : Mx} : ∀ {k : Nat}, k < m + 1 → det (m + 1) (offB R k) = R 0 0 ^ k * det (m + 1) R
  | 0, _ => by
    rw [Int.pow_zero, Int.one_mul]
    refine det_congr fun i j _ _ => ?_
    unfold offB
    by_cases h : i = 0
    · rw [if_pos h, h]
    · rw [if_neg h, if_neg (by omega)]
  | k + 1, hk => by
    have ih := det_offB (m := m) (R := R) (k := k) (by omega)
    -- the row in question: another of the first
    obtain ⟨C, hC⟩ : ∃ C : Mx, C = fun r j => if r = k + 1 then - R (k + 1) 0 * R 0 j else offB R k r j := ⟨_, rfl⟩
    obtain ⟨B, hB⟩ : ∃ B : Mx, B = fun r j => if r = k + 1 then R 0 j else offB R k r j := ⟨_, rfl⟩
    obtain ⟨Z, hZ⟩ : ∃ Z : Mx, Z = fun r j => if r = k + 1 then 0 else offB R k r j := ⟨_, rfl⟩
    have hBz : det (m + 1) B = 0 := det_alike (n := m + 1) (a := 0) (d := k) (by omega) fun j hj => by
      rw [hB]
      show (if 0 = k + 1 then _ else offB R k 0 j) = if 0 + k + 1 = k + 1 then _ else _
      rw [if_neg (by omega), if_pos (by omega)]
      rfl
    have hZz : det (m + 1) Z = 0 := det_row0 (i := k + 1) hk fun j hj => by rw [hZ]; exact if_pos rfl
    have hCz : det (m + 1) C = 0 := by
      have := det_lin (A := C) (B := B) (C := Z) (c := - R (k + 1) 0) hk (fun r j _ _ hne => by
        rw [hC, hB, hZ]
        show (if r = k + 1 then _ else offB R k r j) = (if r = k + 1 then _ else offB R k r j) ∧ (if r = k + 1 then _ else offB R k r j) = (if r = k + 1 then _ else offB R k r j)
        rw [if_neg hne, if_neg hne, if_neg hne]
        exact ⟨rfl, rfl⟩) (fun j _ => by
        rw [hC, hB, hZ]
        show (if k + 1 = k + 1 then _ else _) = _ * (if k + 1 = k + 1 then _ else _) + (if k + 1 = k + 1 then _ else _)
        rw [if_pos rfl, if_pos rfl, if_pos rfl, Int.add_zero])
      rw [this, hBz, hZz, Int.mul_zero]
      rfl
    have := det_lin (A := offB R (k + 1)) (B := offB R k) (C := C) (c := R 0 0) hk (fun r j _ _ hne => by
      have e1 : offB R (k + 1) r j = offB R k r j := by
        unfold offB
        by_cases h0 : r = 0
        · rw [if_pos h0, if_pos h0]
        · rw [if_neg h0, if_neg h0]
          by_cases h1 : r ≤ k
          · rw [if_pos h1, if_pos (by omega)]
          · rw [if_neg h1, if_neg (by omega)]
      refine ⟨e1, ?_⟩
      rw [hC, e1]
      show _ = if r = k + 1 then _ else _
      rw [if_neg hne]) (fun j _ => by
      have e1 : offB R (k + 1) (k + 1) j = R 0 0 * R (k + 1) j - R (k + 1) 0 * R 0 j := by
        unfold offB
        rw [if_neg (by omega), if_pos (by omega)]
      have e2 : offB R k (k + 1) j = R (k + 1) j := by
        unfold offB
        rw [if_neg (by omega), if_neg (by omega)]
      rw [e1, e2, hC]
      show _ = _ + (if k + 1 = k + 1 then - R (k + 1) 0 * R 0 j else _)
      rw [if_pos rfl, Int.neg_mul]
      rfl)
    rw [this, hCz, ih, Int.add_zero, Int.pow_succ]
    rw [← Int.mul_assoc, Int.mul_comm (R 0 0)]
theorem det_off {m : Nat} {R : Mx} : R 0 0 * det m (offN R) = R 0 0 ^ m * det (m + 1) R := by
  rw [← det_offB (k := m) (by omega), det_first fun i hi => ?_]
  · have e0 : offB R m 0 0 = R 0 0 := if_pos rfl
    rw [e0]
    refine congrArg (R 0 0 * ·) (det_congr fun i j hi hj => ?_)
    unfold offB offN
    rw [if_neg (by omega), if_pos (by omega)]
  · unfold offB
    rw [if_neg (by omega), if_pos (by omega), Int.mul_comm]
    omega
end My

/-! ## determinants, without fractions -/
namespace My
/-- the first k, and then those behind them that r names -/
def ex (k : Nat) (r : Nat → Nat) (i : Nat) : Nat := if i < k then i else k + r (i - k)
/-- the rows that stay after k steps are minors of the table: last is what divides -/
def Bar (A : Mx) (k M : Nat) (R : Mx) (last : Int) : Prop := last ≠ 0 ∧ ∀ (m : Nat) (r c : Nat → Nat), (∀ i, i < m + 1 → r i < M ∧ c i < M) →
  det (m + 1) (fun i j => R (r i) (c j)) = det (k + m + 1) (fun i j => A (ex k r i) (ex k c j)) * last ^ m
theorem bar_start (A : Mx) (n : Nat) : Bar A 0 n A 1 := ⟨by decide, fun m r c _ => by
  rw [Int.one_pow, Int.mul_one, Nat.zero_add]
  refine det_congr fun i j _ _ => ?_
  unfold ex
  rw [if_neg (Nat.not_lt_zero _), if_neg (Nat.not_lt_zero _), Nat.zero_add, Nat.zero_add, Nat.sub_zero, Nat.sub_zero]⟩
theorem pow_ne {p : Int} (h : p ≠ 0) : ∀ n : Nat, p ^ n ≠ 0
  | 0 => by rw [Int.pow_zero]; decide
  | n + 1 => by rw [Int.pow_succ]; exact Int.mul_ne_zero (pow_ne h n) h
/-- one before, then the next ones -/
def bef (r : Nat → Nat) : Nat → Nat
  | 0 => 0
  | i + 1 => r i + 1
theorem ex_bef (k : Nat) (r : Nat → Nat) (i : Nat) : ex k (bef r) i = ex (k + 1) r i := by
  unfold ex
  by_cases h : i < k
  · rw [if_pos h, if_pos (by omega)]
  · rw [if_neg h]
    by_cases h2 : i = k
    · rw [if_pos (by omega), h2, Nat.sub_self]
      rfl
    · rw [if_neg (by omega)]
      obtain ⟨d, rfl⟩ : ∃ d, i = k + d + 1 := ⟨i - k - 1, by omega⟩
      rw [show k + d + 1 - k = d + 1 by omega, show k + d + 1 - (k + 1) = d by omega]
      show k + (r d + 1) = k + 1 + r d
      omega
/-- what the numbers before the division are -/
theorem bar_off {A : Mx} {k M : Nat} {R : Mx} {last : Int} (h : Bar A k (M + 1) R last) (hp : R 0 0 ≠ 0) {m : Nat} {r c : Nat → Nat} (hb : ∀ i, i < m + 1 → r i < M ∧ c i < M) :
    det (m + 1) (fun i j => offN R (r i) (c j)) = R 0 0 ^ m * (last ^ (m + 1) * det (k + 1 + m + 1) (fun i j => A (ex (k + 1) r i) (ex (k + 1) c j))) := by
  have e1 := det_off (m := m + 1) (R := fun i j => R (bef r i) (bef c j))
  have e2 := h.2 (m + 1) (bef r) (bef c) fun i hi => by
    cases i with
    | zero => exact ⟨Nat.succ_pos _, Nat.succ_pos _⟩
    | succ i => have := hb i (by omega); exact ⟨Nat.succ_lt_succ this.1, Nat.succ_lt_succ this.2⟩
  have e3 : det (m + 1) (offN fun i j => R (bef r i) (bef c j)) = det (m + 1) (fun i j => offN R (r i) (c j)) := rfl
  have e4 : det (k + (m + 1) + 1) (fun i j => A (ex k (bef r) i) (ex k (bef c) j)) = det (k + 1 + m + 1) (fun i j => A (ex (k + 1) r i) (ex (k + 1) c j)) := by
    rw [show k + (m + 1) + 1 = k + 1 + m + 1 by omega]
    exact det_congr fun i j _ _ => by rw [ex_bef, ex_bef]
  rw [e3] at e1
  rw [e4] at e2
  have e5 : R (bef r 0) (bef c 0) = R 0 0 := rfl
  rw [e5, e2] at e1
  generalize det (m + 1) (fun i j => offN R (r i) (c j)) = x at *
  generalize det (k + 1 + m + 1) (fun i j => A (ex (k + 1) r i) (ex (k + 1) c j)) = y at *
  rw [Int.pow_succ] at e1
  refine Int.eq_of_mul_eq_mul_left hp ?_
  rw [e1, Int.mul_comm y, Int.mul_comm (R 0 0 ^ m), Int.mul_assoc]
theorem det_one (A : Mx) : det 1 A = A 0 0 := by
  show 0 + sg 0 * A 0 0 * 1 = A 0 0
  rw [show sg 0 = 1 from rfl]
  omega
/-- each number before the division is a minor, last times -/
theorem bar_num {A : Mx} {k M : Nat} {R : Mx} {last : Int} (h : Bar A k (M + 1) R last) (hp : R 0 0 ≠ 0) {i j : Nat} (hi : i < M) (hj : j < M) :
    offN R i j = last * det (k + 2) (fun a b => A (ex (k + 1) (fun _ => i) a) (ex (k + 1) (fun _ => j) b)) := by
  have := bar_off h hp (m := 0) (r := fun _ => i) (c := fun _ => j) fun _ _ => ⟨hi, hj⟩
  rw [det_one, Int.pow_zero, Int.one_mul, Int.pow_succ, Int.pow_zero, Int.one_mul] at this
  exact this
theorem bar_step {A : Mx} {k M : Nat} {R R' : Mx} {last : Int} (h : Bar A k (M + 1) R last) (hp : R 0 0 ≠ 0) (hR : ∀ i j, i < M → j < M → R' i j = (offN R i j).fdiv last) : Bar A (k + 1) M R' (R 0 0) := by
  refine ⟨hp, fun m r c hb => ?_⟩
  have ex1 : ∀ i j, i < M → j < M → offN R i j = last * R' i j := fun i j hi hj => by
    rw [hR i j hi hj, bar_num h hp hi hj, Int.mul_fdiv_cancel_left _ h.1]
  have e1 := bar_off h hp hb
  have e2 : det (m + 1) (fun i j => offN R (r i) (c j)) = last ^ (m + 1) * det (m + 1) (fun i j => R' (r i) (c j)) := by
    rw [← det_scale]
    exact det_congr fun i j hi hj => ex1 _ _ (hb i hi).1 (hb j hj).2
  rw [e2] at e1
  refine Int.eq_of_mul_eq_mul_left (pow_ne h.1 (m + 1)) ?_
  rw [e1]
  generalize det (k + 1 + m + 1) (fun i j => A (ex (k + 1) r i) (ex (k + 1) c j)) = y
  rw [Int.mul_left_comm, Int.mul_comm y]
/-- a row moved up -/
theorem bar_rot {A : Mx} {k M t : Nat} {R : Mx} {last : Int} (h : Bar A k M R last) (ht : t < M) : Bar (fun i => A (rotN k t i)) k M (fun i => R (rotN 0 t i)) last := by
  refine ⟨h.1, fun m r c hb => ?_⟩
  have e := h.2 m (fun i => rotN 0 t (r i)) c fun i hi => ⟨by
    have := (hb i hi).1
    unfold rotN
    rw [if_neg (by omega)]
    split
    · omega
    · split <;> omega, (hb i hi).2⟩
  rw [e]
  refine congrArg (· * last ^ m) (det_congr fun i j _ _ => ?_)
  refine congrArg (fun a => A a (ex k c j)) ?_
  unfold ex
  by_cases hi : i < k
  · rw [if_pos hi, if_pos hi]
    unfold rotN
    rw [if_pos hi]
  · rw [if_neg hi, if_neg hi]
    show k + rotN 0 t (r (i - k)) = rotN k t (k + r (i - k))
    generalize r (i - k) = a
    have r1 : rotN 0 t a = if a < 0 then a else if a = 0 then 0 + t else if a ≤ 0 + t then a - 1 else a := rfl
    have r2 : rotN k t (k + a) = if k + a < k then k + a else if k + a = k then k + t else if k + a ≤ k + t then k + a - 1 else k + a := rfl
    rw [if_neg (by omega)] at r1 r2
    by_cases h1 : a = 0
    · rw [if_pos h1] at r1
      rw [if_pos (by omega)] at r2
      rw [r1, r2]
      omega
    · rw [if_neg h1] at r1
      rw [if_neg (by omega)] at r2
      by_cases h2 : a ≤ t
      · rw [if_pos (by omega)] at r1
        rw [if_pos (by omega)] at r2
        rw [r1, r2]
        omega
      · rw [if_neg (by omega)] at r1
        rw [if_neg (by omega)] at r2
        rw [r1, r2]
theorem ex_id (k i : Nat) : ex k (fun i => i) i = i := by
  unfold ex
  by_cases h : i < k
  · rw [if_pos h]
  · rw [if_neg h]
    show k + (i - k) = i
    omega
theorem bar_none {A : Mx} {k M : Nat} {R : Mx} {last : Int} (h : Bar A k (M + 1) R last) (h0 : ∀ i, i < M + 1 → R i 0 = 0) : det (k + M + 1) A = 0 := by
  have e := h.2 M (fun i => i) (fun i => i) fun i hi => ⟨hi, hi⟩
  rw [det_col0 (A := fun i j => R i j) h0] at e
  have e2 : det (k + M + 1) (fun i j => A (ex k (fun i => i) i) (ex k (fun i => i) j)) = det (k + M + 1) A := det_congr fun i j _ _ => by rw [ex_id, ex_id]
  rw [e2] at e
  rcases Int.mul_eq_zero.mp e.symm with z | z
  · exact z
  · exact absurd z (pow_ne h.1 M)
theorem bar_end {A : Mx} {k : Nat} {R : Mx} {last : Int} (h : Bar A k 1 R last) : R 0 0 = det (k + 1) A := by
  have e := h.2 0 (fun i => i) (fun i => i) fun i hi => ⟨by omega, by omega⟩
  rw [det_one, Int.pow_zero, Int.mul_one] at e
  have e2 : det (k + 0 + 1) (fun i j => A (ex k (fun i => i) i) (ex k (fun i => i) j)) = det (k + 1) A := det_congr fun i j _ _ => by rw [ex_id, ex_id]
  rw [e2] at e
  exact e
end My

/-! ## products and quotients of great numbers -/
namespace L2
open PySem PySem.Spec PyProof.Rows
def CMulL (i j : Int) : Prop := i.natAbs < 2 ^ 9000 ∧ j.natAbs < 2 ^ 9000
def CDivL (i j : Int) : Prop := j ≠ 0 ∧ j.natAbs < 2 ^ 9000
theorem bits_long {a : Int} (h : a.natAbs < 2 ^ 9000) : Builtin.Int.intBits a ≤ 9000 := PySem.intBits_le_iff.mpr h
section
variable {X : Cx}
theorem op_mulL : OpR X (binaryOp .Mult) (rI CMulL fun i j => .int (i * j)) := opI fun _ _ _ _ _ _ _ hc q => mul_int q (.of_bits (Nat.le_trans (bits_long hc.1) (by decide)) (Nat.le_trans (bits_long hc.2) (by decide)))
theorem op_fdivL : OpR X (binaryOp .FloorDiv) (rI CDivL fun i j => .int (i.fdiv j)) := opI fun _ _ _ _ _ _ _ hc q => floordiv_int hc.1 q (.inl (PyProof.noPylong_of_log2 ((Nat.log2_lt (by have := hc.1; omega)).mpr hc.2)))
end
end L2

/-! ## tables as rows of rows -/
namespace My
def fnL (L : List (List Int)) : Mx := fun i j => (L.getD i []).getD j 0
theorem fnL_at {L : List (List Int)} {l : List Int} {i j : Nat} {x : Int} (h : L[i]? = some l) (h2 : l[j]? = some x) : fnL L i j = x := by
  have e : L.getD i [] = l := by rw [List.getD_eq_getElem?_getD, h]; rfl
  unfold fnL
  rw [e, List.getD_eq_getElem?_getD, h2]
  rfl
/-- how great a determinant can be -/
def bnd (B : Nat) : Nat → Nat
  | 0 => 1
  | n + 1 => (n + 1) * (B * bnd B n)
theorem sm_abs {f : Nat → Int} {C : Nat} : ∀ {n : Nat}, (∀ i, i < n → (f i).natAbs ≤ C) → (sm n f).natAbs ≤ n * C
  | 0, _ => by show (0 : Int).natAbs ≤ 0 * C; rw [Nat.zero_mul]; exact Nat.le_refl 0
  | n + 1, h => by
    have h1 := sm_abs (n := n) fun i hi => h i (by omega)
    have h2 := h n (by omega)
    have h3 : (sm n f + f n).natAbs ≤ (sm n f).natAbs + (f n).natAbs := Int.natAbs_add_le ..
    show (sm n f + f n).natAbs ≤ (n + 1) * C
    rw [Nat.succ_mul]
    omega
theorem det_abs {B : Nat} : ∀ {n : Nat} {A : Mx}, (∀ i j, i < n → j < n → (A i j).natAbs ≤ B) → (det n A).natAbs ≤ bnd B n
  | 0, _, _ => Nat.le_refl 1
  | n + 1, A, h => by
    refine sm_abs fun j hj => ?_
    have e : (sg j).natAbs = 1 := by
      unfold sg
      split <;> rfl
    rw [Int.natAbs_mul, Int.natAbs_mul, e, Nat.one_mul]
    exact Nat.mul_le_mul (h 0 j (by omega) hj) (det_abs fun i k hi hk => h (i + 1) (sk j k) (by omega) (sk_lt hk))
theorem bnd_le {b : Nat} : ∀ {n : Nat}, n ≤ 16 → bnd (2 ^ b) n ≤ 2 ^ ((b + 4) * n)
  | 0, _ => by show 1 ≤ 2 ^ ((b + 4) * 0); rw [Nat.mul_zero]; exact Nat.le_refl 1
  | n + 1, h => by
    have ih := bnd_le (b := b) (n := n) (by omega)
    have e : 2 ^ ((b + 4) * (n + 1)) = 16 * (2 ^ b * 2 ^ ((b + 4) * n)) := by
      rw [Nat.mul_succ, Nat.pow_add, Nat.pow_add, Nat.mul_comm (2 ^ ((b + 4) * n)), Nat.mul_comm (2 ^ b) (2 ^ 4), Nat.mul_assoc]
    rw [e]
    show (n + 1) * (2 ^ b * bnd (2 ^ b) n) ≤ _
    exact Nat.mul_le_mul h (Nat.mul_le_mul (Nat.le_refl _) ih)
theorem det_small {n : Nat} {A : Mx} (hn : n ≤ 16) (h : ∀ i j, i < n → j < n → (A i j).natAbs ≤ 2 ^ 400) : (det n A).natAbs < 2 ^ 9000 := by
  have h1 := det_abs h
  have h2 := bnd_le (b := 400) hn
  have h3 : 2 ^ ((400 + 4) * n) ≤ 2 ^ (404 * 16) := Nat.pow_le_pow_right (by decide) (Nat.mul_le_mul (Nat.le_refl _) hn)
  have h4 : 2 ^ (404 * 16) < 2 ^ 9000 := Nat.pow_lt_pow_right (by decide) (by decide)
  exact Nat.lt_of_le_of_lt (Nat.le_trans h1 (Nat.le_trans h2 h3)) h4
theorem bar_at {A : Mx} {k M : Nat} {R : Mx} {last : Int} (h : Bar A k M R last) {i j : Nat} (hi : i < M) (hj : j < M) : R i j = det (k + 1) (fun a b => A (ex k (fun _ => i) a) (ex k (fun _ => j) b)) := by
  have := h.2 0 (fun _ => i) (fun _ => j) fun _ _ => ⟨hi, hj⟩
  rw [det_one, Int.pow_zero, Int.mul_one] at this
  exact this
theorem bar_small {A : Mx} {k M n : Nat} {R : Mx} {last : Int} (h : Bar A k M R last) (hn : k + M = n) (hn16 : n ≤ 16) (hA : ∀ i j, i < n → j < n → (A i j).natAbs ≤ 2 ^ 400) {i j : Nat} (hi : i < M) (hj : j < M) : (R i j).natAbs < 2 ^ 9000 := by
  rw [bar_at h hi hj]
  refine det_small (by omega) fun a b ha hb => hA _ _ ?_ ?_
  · have e : ex k (fun _ => i) a = if a < k then a else k + i := rfl
    rw [e]
    split <;> omega
  · have e : ex k (fun _ => j) b = if b < k then b else k + j := rfl
    rw [e]
    split <;> omega
theorem rot_get {L : List (List Int)} {l : List Int} {t : Nat} (h : L[t]? = some l) (i : Nat) : (l :: L.eraseIdx t)[i]? = L[rotN 0 t i]? := by
  have ht := (List.getElem?_eq_some_iff.mp h).1
  have r : rotN 0 t i = if i < 0 then i else if i = 0 then 0 + t else if i ≤ 0 + t then i - 1 else i := rfl
  rw [if_neg (by omega)] at r
  cases i with
  | zero =>
    rw [if_pos rfl, Nat.zero_add] at r
    rw [r, h]
    rfl
  | succ i =>
    rw [if_neg (by omega), Nat.zero_add] at r
    rw [r, List.getElem?_cons_succ, List.getElem?_eraseIdx]
    by_cases c : i + 1 ≤ t
    · rw [if_pos c, if_pos (by omega)]
      rfl
    · rw [if_neg c, if_neg (by omega)]
theorem rot_fnL {L : List (List Int)} {l : List Int} {t : Nat} (h : L[t]? = some l) : fnL (l :: L.eraseIdx t) = fun i => fnL L (rotN 0 t i) := by
  funext i j
  show ((l :: L.eraseIdx t).getD i []).getD j 0 = (L.getD (rotN 0 t i) []).getD j 0
  refine congrArg (fun r : List Int => r.getD j 0) ?_
  rw [List.getD_eq_getElem?_getD, List.getD_eq_getElem?_getD, rot_get h]
/-- a row once the pivot is taken off -/
def tkn (y : Int) (p : List Int) (last : Int) (l : List Int) : List Int := List.zipWith (fun own other => (y * own - l.headD 0 * other).fdiv last) l.tail p
theorem tkn_len {y last : Int} {p l : List Int} (h : l.length = p.length + 1) : (tkn y p last l).length = p.length := by
  unfold tkn
  rw [List.length_zipWith, List.length_tail]
  omega
theorem tkn_fnL {y last : Int} {p : List Int} {L : List (List Int)} {M : Nat} (hp : p.length = M) (hL : L.length = M) (hl : ∀ l ∈ L, l.length = M + 1) {i j : Nat} (hi : i < M) (hj : j < M) :
    fnL (L.map (tkn y p last)) i j = (offN (fnL ((y :: p) :: L)) i j).fdiv last := by
  obtain ⟨l, hli⟩ : ∃ l, L[i]? = some l := ⟨_, List.getElem?_eq_getElem (by omega)⟩
  have hll := hl l (List.mem_of_getElem? hli)
  obtain ⟨x, l', rfl⟩ : ∃ x l', l = x :: l' := by
    cases l with
    | nil => cases hll
    | cons x l' => exact ⟨x, l', rfl⟩
  have hl' : l'.length = M := by rw [List.length_cons] at hll; omega
  obtain ⟨u, hu⟩ : ∃ u, l'[j]? = some u := ⟨_, List.getElem?_eq_getElem (by omega)⟩
  obtain ⟨v, hv⟩ : ∃ v, p[j]? = some v := ⟨_, List.getElem?_eq_getElem (by omega)⟩
  have e1 : fnL (L.map (tkn y p last)) i j = (y * u - x * v).fdiv last := fnL_at (l := tkn y p last (x :: l')) (by rw [List.getElem?_map, hli]; rfl) (by
    show (List.zipWith _ l' p)[j]? = _
    rw [List.getElem?_zipWith, hu, hv]
    rfl)
  have e2 : fnL ((y :: p) :: L) 0 0 = y := rfl
  have e3 : fnL ((y :: p) :: L) (i + 1) (j + 1) = u := fnL_at (l := x :: l') hli hu
  have e4 : fnL ((y :: p) :: L) (i + 1) 0 = x := fnL_at (l := x :: l') hli rfl
  have e5 : fnL ((y :: p) :: L) 0 (j + 1) = v := fnL_at (l := y :: p) rfl hv
  rw [e1]
  unfold offN
  rw [e2, e3, e4, e5]
end My

/-! ## tables as they lie -/
namespace My
open PySem L2
def RowV (K : PySem.W.Frag) (H : Hp) (v : V) (l : List Int) : Prop := ∃ (r : Addr) (k : Bool), v = .ref r ∧ SqK k K H r (IL l)
theorem RowV.same {K : PySem.W.Frag} {H H' : Hp} {v : V} {l : List Int} (s : Same H H') (h : RowV K H v l) : RowV K H' v l := by
  obtain ⟨r, k, e, h⟩ := h
  exact ⟨r, k, e, h.same s⟩
/-- a list that is not the one at d -/
def LiV (d : Addr) (H : Hp) (v : V) (l : List Int) : Prop := ∃ r, v = .ref r ∧ H r = some (.lst (IL l)) ∧ r ≠ d
theorem LiV.same {d : Addr} {H H' : Hp} {v : V} {l : List Int} (s : Same H H') (h : LiV d H v l) : LiV d H' v l := by
  obtain ⟨r, e, h, n⟩ := h
  exact ⟨r, e, s _ _ h, n⟩
theorem LiV.mut {d : Addr} {H : Hp} {v : V} {l : List Int} {o : HO} (h : LiV d H v l) : LiV d (upd H d o) v l := by
  obtain ⟨r, e, h, n⟩ := h
  exact ⟨r, e, by rw [upd_ne n]; exact h, n⟩
theorem LiV.list {d : Addr} {H : Hp} {v : V} {l : List Int} (h : LiV d H v l) : ListV H v l := by
  obtain ⟨r, e, h, _⟩ := h
  exact ⟨r, e, h⟩
theorem Bears.erase {α : Type} [DecidableEq α] {R : V → α → Prop} {xs : List V} {l : List α} (h : Bears R xs l) (t : Nat) : Bears R (xs.eraseIdx t) (l.eraseIdx t) := by
  have hl := h.1
  refine ⟨by rw [List.length_eraseIdx, List.length_eraseIdx, hl], fun i a e => ?_⟩
  rw [List.getElem?_eraseIdx] at e
  rw [List.getElem?_eraseIdx]
  split at e
  · next c => rw [if_pos c]; exact h.2 _ _ e
  · next c => rw [if_neg c]; exact h.2 _ _ e
theorem cut_tail (x : Int) (l : List Int) : cutV (IL (x :: l)) (some 1) none = IL l := by
  rw [cut_from2 (by decide)]
  rfl
theorem sg_sq (t : Nat) : sg t * sg t = 1 := by
  unfold sg
  split <;> rfl
end My

/-! ## determinants: columns, turned tables, any two rows -/
namespace My
theorem sm_reord {f : Nat → Nat → Int} {n m : Nat} : sm n (fun i => sm m (fun j => f i j)) = sm m (fun j => sm n (fun i => f i j)) := sm_swap
/-- by the first column -/
theorem det_col : ∀ {n : Nat} {A : Mx}, det (n + 1) A = sm (n + 1) fun i => sg i * A i 0 * det n (fun r c => A (sk i r) (c + 1))
  | 0, A => rfl
  | n + 1, A => by
    have e1 : det (n + 2) A = sg 0 * A 0 0 * det (n + 1) (mn A 0) + sm (n + 1) fun j => sg (j + 1) * A 0 (j + 1) * det (n + 1) (mn A (j + 1)) := sm_first
    have e2 : sm (n + 2) (fun i => sg i * A i 0 * det (n + 1) (fun r c => A (sk i r) (c + 1))) = sg 0 * A 0 0 * det (n + 1) (fun r c => A (sk 0 r) (c + 1)) + sm (n + 1) fun i => sg (i + 1) * A (i + 1) 0 * det (n + 1) (fun r c => A (sk (i + 1) r) (c + 1)) := sm_first
    rw [e1, e2]
    have e3 : det (n + 1) (mn A 0) = det (n + 1) (fun r c => A (sk 0 r) (c + 1)) := det_congr fun r c _ _ => rfl
    rw [e3]
    refine congrArg (fun z : Int => sg 0 * A 0 0 * det (n + 1) (fun r c => A (sk 0 r) (c + 1)) + z) ?_
    -- what stays without two rows and two columns
    obtain ⟨D, hD⟩ : ∃ D : Nat → Nat → Int, D = fun i j => det n (fun r c => A (sk i r + 1) (sk (j + 1) (c + 1))) := ⟨_, rfl⟩
    have e4 : ∀ j, j < n + 1 → det (n + 1) (mn A (j + 1)) = sm (n + 1) fun i => sg i * A (i + 1) 0 * D i j := fun j _ => by
      rw [det_col, hD]
      rfl
    have e5 : ∀ i, i < n + 1 → det (n + 1) (fun r c => A (sk (i + 1) r) (c + 1)) = sm (n + 1) fun j => sg j * A 0 (j + 1) * D i j := fun i hi => by
      show sm (n + 1) (fun j => sg j * A (sk (i + 1) 0) (j + 1) * det n (mn (fun r c => A (sk (i + 1) r) (c + 1)) j)) = _
      refine sm_congr fun j _ => ?_
      rw [hD]
      show sg j * A (sk (i + 1) 0) (j + 1) * det n (mn (fun r c => A (sk (i + 1) r) (c + 1)) j) = sg j * A 0 (j + 1) * det n (fun r c => A (sk i r + 1) (sk (j + 1) (c + 1)))
      rw [show sk (i + 1) 0 = 0 from rfl]
      refine congrArg (sg j * A 0 (j + 1) * ·) (det_congr fun r c _ _ => ?_)
      show A (sk (i + 1) (r + 1)) (sk j c + 1) = A (sk i r + 1) (sk (j + 1) (c + 1))
      have f1 : sk (i + 1) (r + 1) = sk i r + 1 := by
        unfold sk
        by_cases h : r < i
        · rw [if_pos h, if_pos (by omega)]
        · rw [if_neg h, if_neg (by omega)]
      have f2 : sk j c + 1 = sk (j + 1) (c + 1) := by
        unfold sk
        by_cases h : c < j
        · rw [if_pos h, if_pos (by omega)]
        · rw [if_neg h, if_neg (by omega)]
      rw [f1, f2]
    have e6 : sm (n + 1) (fun j => sg (j + 1) * A 0 (j + 1) * det (n + 1) (mn A (j + 1))) = sm (n + 1) fun j => sm (n + 1) fun i => sg (j + 1) * A 0 (j + 1) * (sg i * A (i + 1) 0 * D i j) := sm_congr fun j hj => by rw [e4 j hj, sm_mul]
    have e7 : sm (n + 1) (fun i => sg (i + 1) * A (i + 1) 0 * det (n + 1) (fun r c => A (sk (i + 1) r) (c + 1))) = sm (n + 1) fun i => sm (n + 1) fun j => sg (i + 1) * A (i + 1) 0 * (sg j * A 0 (j + 1) * D i j) := sm_congr fun i hi => by rw [e5 i hi, sm_mul]
    rw [e6, e7, sm_reord]
    refine sm_congr fun i _ => sm_congr fun j _ => ?_
    rw [sg_succ, sg_succ]
    generalize D i j = d
    generalize A 0 (j + 1) = x
    generalize A (i + 1) 0 = y
    generalize sg i = s
    generalize sg j = u
    simp only [Int.neg_mul, Int.neg_inj]
    simp only [Int.mul_comm, Int.mul_left_comm, Int.mul_assoc]
/-- rows and columns exchanged -/
theorem det_T : ∀ {n : Nat} {A : Mx}, det n (fun i j => A j i) = det n A
  | 0, _ => rfl
  | n + 1, A => by
    rw [det_col (A := A)]
    refine sm_congr fun j _ => ?_
    show sg j * A j 0 * det n (fun i k => A (sk j k) (i + 1)) = sg j * A j 0 * det n (fun r c => A (sk j r) (c + 1))
    rw [← det_T (A := fun r c => A (sk j r) (c + 1))]
theorem det_two {n a b : Nat} {A : Mx} (ha : a < n) (hb : b < n) (hne : a ≠ b) (h : ∀ j, j < n → A a j = A b j) : det n A = 0 := by
  rcases Nat.lt_or_gt_of_ne hne with c | c
  · obtain ⟨d, rfl⟩ : ∃ d, b = a + d + 1 := ⟨b - a - 1, by omega⟩
    exact det_alike hb h
  · obtain ⟨d, rfl⟩ : ∃ d, a = b + d + 1 := ⟨a - b - 1, by omega⟩
    exact det_alike ha fun j hj => (h j hj).symm
end My

/-! ## the tables of webs: a tie more -/
namespace My
/-- where a tie begins and where it ends -/
def ind (u v i : Nat) : Int := (if i = u then 1 else 0) - (if i = v then 1 else 0)
end My

/-! ## the tables of webs tell their trees -/
namespace My
open PySem L2
end My

/-! ## the matrix-tree theorem -/
namespace My
open PySem L2
/-! ### for webs -/
end My

/-! ## o[i] += e, o a list -/
namespace L2
open PySem PySem.Spec PyProof.Rows
section
variable {X : Cx}
end
end L2

/-! ## a table that is written into; loops over two lists -/
namespace My
open PySem L2
/-- a table of own rows at r, made since H0 -/
structure TabAt (H0 : Hp) (r : Addr) (n : Nat) (H : Hp) (ys : List V) (L : List (List Int)) : Prop where
  tab : H r = some (.lst ys)
  rows : Bears (LiV r H) ys L
  len : L.length = n
  all : ∀ l ∈ L, l.length = n
  nd : ys.Nodup
  new : ∀ A, V.ref A ∈ ys → H0 A = none
end My

/-! ## one tie left out, wherever it stands -/
namespace My
open PySem L2
end My

/-! ## trees told back -/
namespace My
open PySem L2
end My

/-! ## two webs put together: their trees -/
namespace My
open PySem L2
end My

/-! ## how many sets there are; two webs put together the other way round -/
namespace My
open PySem L2
end My

/-! ## the table of a set: its places ascend -/
namespace L2
open PySem
end L2

/-! ## an int put into a set, its table kept in order -/
namespace L2
open PySem PySem.Spec PyProof.Rows
section
variable {prog : Program} {w : World} {A : Around} {E : Value → Shared → Prop} {s : Shared}
end
end L2

/-! ## set(list of ints), its table kept in order -/
namespace L2
open PySem PySem.Spec PyProof.Rows
section
variable {prog : Program} {w : World} {A : Around} {R : Result → Shared → Prop} {I : Addr} {fp wr : List Addr} {G : Array GenState → Array GenState → Prop} {n : Nat} {P : Nat → Value → Prop} {St : Nat → Shared → Prop}
end
section
variable {prog : Program} {w : World} {A : Around} {E : Value → Shared → Prop} {s : Shared}
end
end L2

/-! ## the call set(list of ints) -/
namespace L2
open PySem PySem.Spec PyProof.Rows
section
variable {prog : Program} {w : World} {A : Around} {E : Value → Shared → Prop} {s : Shared}
end
end L2

/-! ## what a set's iterator tells -/
namespace L2
open PySem PySem.Spec PyProof.Rows
/-- a set's iterator: what goes first, how many were told, the set, its size and its epoch -/
def IsSi (h : Heap) (I a : Addr) (f : Value) (i n ep : Nat) : Prop := ∃ o, h.get? I = some o ∧ o.cls = .type "set_iterator" ∧ o.data = .fields #[f, rawInt (i : Int), .ref a, rawInt (n : Int), rawInt (ep : Int)]
theorem IsSi.keep {h h' : Heap} {I a : Addr} {f : Value} {i n ep : Nat} (x : IsSi h I a f i n ep) (e : ∀ o, h.get? I = some o → h'.get? I = some o) : IsSi h' I a f i n ep := let ⟨o, p, q⟩ := x; ⟨o, e _ p, q⟩
/-- what a set holds -/
def SetIs (h : Heap) (a : Addr) (es : Array (Int × Value)) (ep : Nat) (t : SetTable) : Prop := ∃ o, h.get? a = some o ∧ o.ExactSet ∧ o.data = .set es ep t
theorem SetIs.keep {h h' : Heap} {a : Addr} {es : Array (Int × Value)} {ep : Nat} {t : SetTable} (x : SetIs h a es ep t) (e : ∀ o, h.get? a = some o → h'.get? a = some o) : SetIs h' a es ep t := let ⟨o, p, q⟩ := x; ⟨o, e _ p, q⟩
section
variable {prog : Program} {w : World} {A : Around} {E : Value → Shared → Prop} {s : Shared}
end
end L2

/-! ## a set walked through -/
namespace L2
open PySem PySem.Spec PyProof.Rows
section
variable {prog : Program} {w : World} {A : Around} {E : Value → Shared → Prop} {s : Shared}
end
end L2

/-! ## a set walked through in a drawn order; its iterator made -/
namespace L2
open PySem PySem.Spec PyProof.Rows
section
variable {prog : Program} {w : World} {A : Around} {E : Value → Shared → Prop} {s : Shared}
def IsPl (h : Heap) (b : Addr) (pl : List Nat) : Prop := ∃ o n, h.get? b = some o ∧ o.data = .seq (pl.map fun (i : Nat) => rawInt (i : Int)).toArray n
theorem IsPl.keep {h h' : Heap} {b : Addr} {pl : List Nat} (x : IsPl h b pl) (e : ∀ o, h.get? b = some o → h'.get? b = some o) : IsPl h' b pl := let ⟨o, n, p, q⟩ := x; ⟨o, n, e _ p, q⟩
end
end L2

/-! ## sorted(set of ints) -/
namespace L2
open PySem PySem.Spec PyProof.Rows
section
variable {prog : Program} {w : World} {A B : Around} {E : Value → Shared → Prop} {s : Shared}
end
end L2

/-! ## a set's items as a list; sorted(set of ints) -/
namespace L2
open PySem PySem.Spec PyProof.Rows
section
variable {prog : Program} {w : World} {A : Around} {E : Value → Shared → Prop} {s : Shared}
end
end L2

/-! ## sorted(set(list of ints)) -/
namespace L2
open PySem PySem.Spec PyProof.Rows
section
variable {prog : Program} {w : World} {A : Around} {E : Value → Shared → Prop} {s : Shared}
end
section
variable {X : Cx} {p p2 pos pos2 : Pos} {e : Expr} {t : TA}
end
end L2

/-! ## pieces drawn together: trees with some ties and without others -/
namespace My
open PySem L2
section
variable {n : Int} {ps : List (Int × Int)} {I O S : List Int} {f g : Nat → Nat} {k : Nat}
end
end My

/-! ## marks numbered in their order -/
namespace My
open PySem L2
section
variable {N : Nat} {es : List (Nat × Nat)} {F : List Int}
end
end My

/-! ## counts with and without, when a tie is left out or drawn together -/
namespace My
open PySem L2
end My

/-! ## counts that meet: by one tie, over all ties, turned about -/
namespace My
open PySem L2
end My

/-! ## a list out of another one, from its end -/
namespace My
open PySem L2
section
variable {K : PySem.W.Frag} {a : Addr} {xs : List V} {g : TG} {tt : TT} {te : TE} {o : Nat} {fr : List Nat} {σ : St} {H : Hp} {Q : VK}
end
end My

/-! ## the number of a tree: how many are less -/
namespace My
open PySem L2
end My

/-! ## a tree found by its number, tie by tie -/
namespace My
open PySem L2
section
variable {n : Int} {ps : List (Int × Int)} {I O : List Int} {i b c : Nat}
end
end My

/-! ## the number of a tree in the row of all -/
namespace My
open PySem L2
end My

/-! ## abs(int) -/
namespace L2
open PySem PySem.Spec PyProof.Rows
section
variable {X : Cx}
theorem call_absI : CallR X (.builtin "abs") (fun xs H Q => ∃ z : Int, xs = [.int z] ∧ Q (.int (if z < 0 then -z else z)) H) := by
  intro pins s σ H xs us Q I r h
  obtain ⟨z, rfl, q⟩ := h
  obtain ⟨u, rfl, ru⟩ := vals1 r
  obtain ⟨t, rfl⟩ := ru
  exact call_abs_int fun u tk => ⟨.int (if z < 0 then -z else z), H, I.tok tk, ⟨u, rfl⟩, q⟩
end
end L2

/-! ## a piece of a list -/
namespace My
open PySem L2
end My

/-! ## steps of a block told once; try: .. except W: without a name -/
namespace My
open PySem L2
theorem contS {s rest : TS} {D : Ends} {σ : L2.St} {H : Hp} (P : L2.St → Hp → Prop) (h1 : ∀ σ' H', P σ' H' → rest D σ' H') (h2 : ∀ K : L2.St → Hp → Prop, (∀ σ' H', P σ' H' → K σ' H') → s { D with nx := K } σ H) : tSeq s rest D σ H := h2 _ h1
theorem asgC {c : V} {i : Nat} {rest : TS} {D : Ends} {σ : L2.St} {H : Hp} (h : rest D (σ.set i (some c)) H) : tSeq (tAsg (tC c) (gName i)) rest D σ H := h
theorem tryX {K : PySem.W.Frag} {W : Addr} {i : Nat} {tb : (L2.St → XK) → TS} {th : Addr → Addr → TS} {D : Ends} {σ : L2.St} {H : Hp} (P : L2.St → Addr → Hp → Prop)
    (h1 : ∀ σ' C H', P σ' C H' → PySem.W.exmOne K (.ref C) (.ref W) = some true ∧ ∀ e : Addr, H' e = none → th e C (D.less i) (σ'.set i (some (.ref e))) H')
    (h2 : ∀ R : L2.St → XK, (∀ σ' C H', P σ' C H' → R σ' (.ref C) none H') → tb R D σ H) : tTry K W i tb th D σ H := h2 _ fun _ C _ p => ⟨C, rfl, h1 _ _ _ p⟩
end My
namespace L2
open PySem PySem.Spec PyProof.Rows
end L2

/-! ## tuple < tuple, of ints -/
namespace L2
open PySem PySem.Spec PyProof.Rows
section
variable {X : Cx}
end
end L2

/-! ## how many trees there can be; ranks and order; trees tie by tie -/
namespace My
open PySem L2
end My

/-! ## tuple <= tuple, of ints; a <= b <= c <= d <= e -/
namespace HT
open PySem PyProof.Rows
section
open PySem.SeqAt
open PySem.AutoSeq1 (wpAny_loadPart')
open PySem.MeetsSeq PySem.MeetsSeq2 PySem.MeetsSeq3
end
section
variable {prog : Program} {w : World} {A : Around} {E : Value → Shared → Prop} {s : Shared}
end
end HT
namespace L2
open PySem PySem.Spec PyProof.Rows
section
variable {X : Cx}
end
end L2

/-! ## webs made so that they hang together -/
namespace My
open PySem L2
end My

/-! ## a list whose own name is seen by a list within it -/
namespace L2
open PySem PySem.Spec PyProof.Rows
section
variable {M : Model} {A : Around} {E : Value → Shared → Prop} {s : Shared}
end
/-- as CompScope, with one own name xo that is seen by a list within -/
structure CompScopeD (sc0 : Scope) (N N' : List Str) (o : Nat) (fr : List Nat) (scope : Scope) (xo : Str) : Prop where
  kind : scope.kind = .function
  one : (scope.names.filter fun y => y.2 == .cell) = [(xo, .cell)]
  loc : (scope.names.all fun y => y.2 != .local || scope.names.lookup y.1 == some .local) = true
  free : (scope.names.all fun y => y.2 != .free || (y.1 != xo && (sc0.names.lookup y.1 == some .cell || sc0.names.lookup y.1 == some .free))) = true
  len : N'.length = o + fr.length
  sees : ((List.range fr.length).all fun j => match fr[j]? with
    | none => false
    | some y => match N[y]? with
      | none => false
      | some x => N'[o + j]? == some x && scope.names.lookup x == some .free) = true
section
variable {X : Cx} {pins : List (Addr × Obj)} {σ : St} {H : Hp} {s : Shared} {N' : List Str} {o : Nat} {fr : List Nat} {scope : Scope} {fp : List Addr} {xo : Str}
end

section
variable {xo : Str} {X : Cx} {N' : List Str} {o : Nat} {fr : List Nat} {scope : Scope} {elt tg iter : Expr} {ifs : List Expr} {pos : Pos} {wi : TI} {g : TG} {tt : TT} {te : TE}
end
end L2

/-! ## sums over trees: weights -/
namespace My
open PySem L2
end My

/-! ## for x, y in zip(list, tuple) -/
namespace L2
open PySem PySem.Spec PyProof.Rows
section
variable {prog : Program} {w : World} {A : Around} {E : Value → Shared → Prop} {s : Shared}
/-- a tuple's next one, asked by zip -/
theorem nxT_item {j t : Addr} {i : Nat} {us : Array Value} {u : Value} {Q : Value → Shared → Prop} (hj : s.heap.IsTupleIter j t i) (ht : s.heap.IsTuple t us) (hu : us[i]? = some u)
    (q : ∀ h', h'.IsTupleIter j t (i + 1) → Heap.SameBut j s.heap h' → Q u { s with heap := h' }) : wpAny (model prog w) A (Builtin.SmallTypes.nextOf (.ref j)) Q E s := by
  obtain ⟨o1, e1, c1, d1⟩ := id hj
  obtain ⟨o2, e2, _, n2, d2⟩ := ht
  unfold Builtin.SmallTypes.nextOf
  refine wpAny_bind (wpAny_callSpecial?_slot (name := Str.ofString "__next__") hj.typeIs F.slot_tuple_iterator_next (wpAny_call_entry F.slot_tuple_iterator_next hj.typeIs F.entry_tuple_iterator_next ?_ (F.args_tuple_iterator_next_1 _)))
  show wpAny _ _ (field (.ref j) 0 >>= _) _ _ s
  refine wpAny_bind (wpAny_field e1 d1 (x := .ref t) rfl ?_)
  rw [if_neg (show ¬ (Value.ref t == Value.none) = true from Bool.false_ne_true)]
  show wpAny _ _ (field (.ref j) 1 >>= _) _ _ s
  refine wpAny_bind (wpAny_field e1 d1 (x := .int i 0) rfl ?_)
  show wpAny _ _ (seqItems? (.ref t) >>= _) _ _ s
  refine wpAny_bind (wpAny_seqItems e2 d2 ?_)
  simp only [hu, Int.toNat_natCast]
  refine wpAny_bind (wpAny_setField e1 d1 (by simp) (wpAny_pure ⟨u, rfl, wpAny_pure (q _ ?_ (Heap.SameBut.update ..))⟩))
  refine ⟨_, Heap.get?_update_self _ e1 (Obj.isFreed_of_fields (Obj.data_mapFields d1 _)), (Obj.cls_mapFields ..).trans c1, ?_⟩
  rw [Obj.data_mapFields d1]
  simp [rawInt]
theorem nxT_end {j t : Addr} {i : Nat} {us : Array Value} {Q : Value → Shared → Prop} (hh : A.handled = none) (hj : s.heap.IsTupleIter j t i) (ht : s.heap.IsTuple t us) (hu : us[i]? = none)
    (q : ∀ h' e, Heap.ExtBut j s.heap h' → (∃ o, h'.get? e = some o ∧ o.cls = .type "StopIteration") → E (.ref e) { s with heap := h' }) : wpAny (model prog w) A (Builtin.SmallTypes.nextOf (.ref j)) Q E s := by
  obtain ⟨o1, e1, c1, d1⟩ := id hj
  obtain ⟨o2, e2, _, n2, d2⟩ := ht
  unfold Builtin.SmallTypes.nextOf
  refine wpAny_bind (wpAny_callSpecial?_slot (name := Str.ofString "__next__") hj.typeIs F.slot_tuple_iterator_next (wpAny_call_entry F.slot_tuple_iterator_next hj.typeIs F.entry_tuple_iterator_next ?_ (F.args_tuple_iterator_next_1 _)))
  show wpAny _ _ (field (.ref j) 0 >>= _) _ _ s
  refine wpAny_bind (wpAny_field e1 d1 (x := .ref t) rfl ?_)
  rw [if_neg (show ¬ (Value.ref t == Value.none) = true from Bool.false_ne_true)]
  show wpAny _ _ (field (.ref j) 1 >>= _) _ _ s
  refine wpAny_bind (wpAny_field e1 d1 (x := .int i 0) rfl ?_)
  show wpAny _ _ (seqItems? (.ref t) >>= _) _ _ s
  refine wpAny_bind (wpAny_seqItems e2 d2 ?_)
  simp only [hu, Int.toNat_natCast]
  refine wpAny_bind (wpAny_rule (wpAny_bind (wpAny_setField e1 d1 (by simp) (wpAny_bind (m := newExc (.type "StopIteration") []) ?_))))
  simp only [newTuple, newExc]
  refine wpAny_bind (wpAny_newObj_type (wpAny_bind (m := firstArgMember _ _) (wpAny_of_eq (a := Value.none) (by first | rfl | (simp only [firstArgMember]; rfl)) (wpAny_newObj_type ?_ (by size_fits)))) (by size_fits))
  unfold raiseNew
  refine wpAny_bind (wpAny_handled ?_)
  first
    | rw [hh]
    | rw [show A.in1.handled = none from hh]
  refine wpAny_bind (wpAny_pure (wpAny_throw (q _ _ (((Heap.SameBut.update ..).extBut.push _).push _) ⟨_, Heap.get?_push_size _ rfl, rfl⟩)))
/-- the next pair of a list and a tuple -/
theorem zipT_item {z P O i j l t : Addr} {k m : Nat} {xs us : Array Value} {x u a b : Value} {Q : Value → Shared → Prop} (D : ZipApart z P O i j l t) (y0 : IsZip s.heap z P O .none) (p0 : IsPair s.heap P (.ref i) (.ref j)) (o0 : IsPair s.heap O a b)
    (hi : s.heap.IsListIter i l k) (hj : s.heap.IsTupleIter j t m) (hl : s.heap.IsList l xs) (ht : s.heap.IsTuple t us) (hx : xs[k]? = some x) (hu : us[m]? = some u)
    (q : ∀ h', IsZip h' z P O (rawInt s.heap.objs.size) → IsPair h' O x u → h'.IsListIter i l (k + 1) → h'.IsTupleIter j t (m + 1) → IsPair h' s.heap.objs.size x u → h'.objs.size = s.heap.objs.size + 1 →
      (∀ c o, c ≠ z → c ≠ O → c ≠ i → c ≠ j → s.heap.get? c = some o → h'.get? c = some o) → Q (.ref s.heap.objs.size) { s with heap := h' }) :
    wpAny (model prog w) A (Builtin.«zip.__next__» ⟨[.ref z], []⟩) (fun r s' => ∃ v, r = .done (.ret v) ∧ Q v s') E s := by
  show wpAny _ _ (field (.ref z) 2 >>= _) _ E s
  refine wpAny_bind (wpAny_field y0 rfl (x := .bool false) rfl ?_)
  show wpAny _ _ (field (.ref z) 3 >>= _) _ E s
  refine wpAny_bind (wpAny_field y0 rfl (x := .ref P) rfl (wpAny_bind (wpAny_seqItems p0 rfl (wpAny_bind (m := Builtin.SmallTypes.ownedTupleIsFree (.ref z)) ?_))))
  unfold Builtin.SmallTypes.ownedTupleIsFree
  refine wpAny_bind (wpAny_field y0 rfl (x := .none) rfl (wpAny_pure ?_))
  simp only [if_true]
  refine wpAny_bind (wpAny_rule (wpAny_bind (wpAny_field y0 rfl (x := .ref O) rfl (wpAny_bind (wpAny_setField_rec y0 (by simp) fun g1 y1 w1 => wpAny_bind ?_)))))
  replace y1 : IsZip g1 z P O .ellipsis := y1
  simp only [List.forIn_cons, List.forIn_nil, List.zipIdx_cons, List.zipIdx_nil]
  refine wpAny_bind (wpAny_bind (wpAny_onRaise (wpAny_bind (m := Builtin.SmallTypes.nextOf (.ref i)) ?_)))
  refine wpAny_nextOf_list_item (hi.extBut w1.extBut D.i1z) (hl.extBut w1.extBut D.l1z) hx fun g2 i2 w2 => wpAny_pure ?_
  have o2 : IsPair g2 O a b := w2.extBut _ _ D.TOi1 (w1.extBut _ _ D.TOz o0)
  refine wpAny_bind (wpAny_seqItems o2 rfl (wpAny_bind (wpAny_updateSeq_pair o2 fun g3 o3 w3 => wpAny_bind (wpAny_letGo (wpAny_pure ?_)))))
  replace o3 : IsPair g3 O x b := o3
  refine wpAny_bind (wpAny_bind (wpAny_onRaise (wpAny_bind (m := Builtin.SmallTypes.nextOf (.ref j)) ?_)))
  refine nxT_item (((hj.extBut w1.extBut D.i2z).extBut w2.extBut D.i12.symm).extBut w3.extBut D.TOi2.symm) (((ht.extBut w1.extBut D.l2z).extBut w2.extBut D.l2i1).extBut w3.extBut D.l2TO) hu fun g4 j4 w4 => wpAny_pure ?_
  have o4 : IsPair g4 O x b := w4.extBut _ _ D.TOi2 o3
  refine wpAny_bind (wpAny_seqItems o4 rfl (wpAny_bind (wpAny_updateSeq_pair o4 fun g5 o5 w5 => wpAny_bind (wpAny_letGo (wpAny_pure (wpAny_pure ?_))))))
  replace o5 : IsPair g5 O x u := o5
  refine wpAny_bind (wpAny_seqItems o5 rfl (wpAny_bind (wpAny_newTuple ?_)))
  have sz : g5.objs.size = s.heap.objs.size := by rw [w5.1, w4.1, w3.1, w2.1, w1.1]
  have y5 : IsZip g5 z P O .ellipsis := w5.extBut _ _ D.TOz.symm (w4.extBut _ _ D.i2z.symm (w3.extBut _ _ D.TOz.symm (w2.extBut _ _ D.i1z.symm y1)))
  have kp : ∀ c o, c ≠ z → c ≠ O → c ≠ i → c ≠ j → s.heap.get? c = some o → g5.get? c = some o := fun c o c1 c2 c3 c4 e => w5.extBut _ _ c2 (w4.extBut _ _ c4 (w3.extBut _ _ c2 (w2.extBut _ _ c3 (w1.extBut _ _ c1 e))))
  have i5 : g5.IsListIter i l (k + 1) := ((i2.extBut w3.extBut D.TOi1.symm).extBut w4.extBut D.i12).extBut w5.extBut D.TOi1.symm
  have j5 : g5.IsTupleIter j t (m + 1) := j4.extBut w5.extBut D.TOi2.symm
  have lz : z < g5.objs.size := Heap.lt_size y5
  show wpAny _ _ (Builtin.SmallTypes.ownedTupleHandOut (.ref z) (.ref g5.objs.size) >>= _) _ E _
  refine wpAny_bind ?_
  unfold Builtin.SmallTypes.ownedTupleHandOut
  have y6 : IsZip (g5.push { cls := .type "tuple", data := .seq #[x, u] }) z P O .ellipsis := Heap.get?_push_of_some _ y5
  refine wpAny_bind (wpAny_setField_rec y6 (by simp) fun g7 y7 w7 => ?_)
  replace y7 : IsZip g7 z P O (rawInt g5.objs.size) := y7
  refine wpAny_setField_rec y7 (by simp) fun g8 y8 w8 => ?_
  replace y8 : IsZip g8 z P O (rawInt g5.objs.size) := y8
  have up : ∀ c o, c ≠ z → g5.get? c = some o → g8.get? c = some o := fun c o c1 e => w8.extBut _ _ c1 (w7.extBut _ _ c1 (Heap.get?_push_of_some _ e))
  have n8 : IsPair g8 g5.objs.size x u := w8.extBut _ _ (Nat.ne_of_gt lz) (w7.extBut _ _ (Nat.ne_of_gt lz) (Heap.get?_push_size _ rfl))
  have z8 : g8.objs.size = g5.objs.size + 1 := by rw [w8.1, w7.1, Heap.size_push]
  rw [sz] at y8 n8 z8
  refine wpAny_pure ⟨_, rfl, ?_⟩
  show Q (.ref g5.objs.size) _
  rw [sz]
  exact q g8 y8 (up _ _ D.TOz o5) (i5.at fun o e => up _ o D.i1z e) (j5.at fun o e => up _ o D.i2z e) n8 z8 fun c o c1 c2 c3 c4 e => up c o c1 (kp c o c1 c2 c3 c4 e)
theorem zipT_end {z P O i j l t : Addr} {k m : Nat} {xs us : Array Value} {a b : Value} {Q : Fin → Shared → Prop} (hh : A.handled = none) (D : ZipApart z P O i j l t) (y0 : IsZip s.heap z P O .none) (p0 : IsPair s.heap P (.ref i) (.ref j)) (o0 : IsPair s.heap O a b)
    (hi : s.heap.IsListIter i l k) (hj : s.heap.IsTupleIter j t m) (hl : s.heap.IsList l xs) (ht : s.heap.IsTuple t us) (hE : xs[k]? = none ∨ us[m]? = none)
    (q : ∀ h' e, (∀ c o, c ≠ z → c ≠ O → c ≠ i → c ≠ j → s.heap.get? c = some o → h'.get? c = some o) → (∃ o, h'.get? e = some o ∧ o.cls = .type "StopIteration") → E (.ref e) { s with heap := h' }) :
    wpAny (model prog w) A (Builtin.«zip.__next__» ⟨[.ref z], []⟩) Q E s := by
  show wpAny _ _ (field (.ref z) 2 >>= _) _ E s
  refine wpAny_bind (wpAny_field y0 rfl (x := .bool false) rfl ?_)
  show wpAny _ _ (field (.ref z) 3 >>= _) _ E s
  refine wpAny_bind (wpAny_field y0 rfl (x := .ref P) rfl (wpAny_bind (wpAny_seqItems p0 rfl (wpAny_bind (m := Builtin.SmallTypes.ownedTupleIsFree (.ref z)) ?_))))
  unfold Builtin.SmallTypes.ownedTupleIsFree
  refine wpAny_bind (wpAny_field y0 rfl (x := .none) rfl (wpAny_pure ?_))
  simp only [if_true]
  refine wpAny_bind (wpAny_rule (wpAny_bind (wpAny_field y0 rfl (x := .ref O) rfl (wpAny_bind (wpAny_setField_rec y0 (by simp) fun g1 y1 w1 => wpAny_bind ?_)))))
  replace y1 : IsZip g1 z P O .ellipsis := y1
  simp only [List.forIn_cons, List.forIn_nil, List.zipIdx_cons, List.zipIdx_nil]
  refine wpAny_bind (wpAny_bind (wpAny_onRaise (wpAny_bind (m := Builtin.SmallTypes.nextOf (.ref i)) ?_)))
  cases hx : xs[k]? with
  | none =>
    refine wpAny_nextOf_list_end hh (hi.extBut w1.extBut D.i1z) (hl.extBut w1.extBut D.l1z) hx fun g2 e w2 ⟨oe, he, ce⟩ => ?_
    have y2 : IsZip g2 z P O .ellipsis := w2 _ _ D.i1z.symm y1
    have ez : e ≠ z := by
      rintro rfl
      rw [y2] at he
      cases he
      simp at ce
    exact wpAny_setField_rec y2 (by simp) fun g3 _ w3 => q g3 e (fun c o c1 _ c3 _ r => w3.extBut _ _ c1 (w2 _ _ c3 (w1.extBut _ _ c1 r))) ⟨oe, w3.extBut _ _ ez he, ce⟩
  | some x =>
    have hu : us[m]? = none := hE.resolve_left (by rw [hx]; exact Option.some_ne_none x)
    refine wpAny_nextOf_list_item (hi.extBut w1.extBut D.i1z) (hl.extBut w1.extBut D.l1z) hx fun g2 i2 w2 => wpAny_pure ?_
    have o2 : IsPair g2 O a b := w2.extBut _ _ D.TOi1 (w1.extBut _ _ D.TOz o0)
    refine wpAny_bind (wpAny_seqItems o2 rfl (wpAny_bind (wpAny_updateSeq_pair o2 fun g3 o3 w3 => wpAny_bind (wpAny_letGo (wpAny_pure ?_)))))
    refine wpAny_bind (wpAny_bind (wpAny_onRaise (wpAny_bind (m := Builtin.SmallTypes.nextOf (.ref j)) ?_)))
    refine nxT_end hh (((hj.extBut w1.extBut D.i2z).extBut w2.extBut D.i12.symm).extBut w3.extBut D.TOi2.symm) (((ht.extBut w1.extBut D.l2z).extBut w2.extBut D.l2i1).extBut w3.extBut D.l2TO) hu fun g4 e w4 ⟨oe, he, ce⟩ => ?_
    have y4 : IsZip g4 z P O .ellipsis := w4 _ _ D.i2z.symm (w3.extBut _ _ D.TOz.symm (w2.extBut _ _ D.i1z.symm y1))
    have ez : e ≠ z := by
      rintro rfl
      rw [y4] at he
      cases he
      simp at ce
    exact wpAny_setField_rec y4 (by simp) fun g5 _ w5 => q g5 e (fun c o c1 c2 c3 c4 r => w5.extBut _ _ c1 (w4 _ _ c4 (w3.extBut _ _ c2 (w2.extBut _ _ c3 (w1.extBut _ _ c1 r))))) ⟨oe, w5.extBut _ _ ez he, ce⟩
theorem nextZT_item {z P O i j l t : Addr} {k m : Nat} {xs us : Array Value} {x u a b : Value} {Q : Option Value → Shared → Prop} (D : ZipApart z P O i j l t) (y0 : IsZip s.heap z P O .none) (p0 : IsPair s.heap P (.ref i) (.ref j)) (o0 : IsPair s.heap O a b)
    (hi : s.heap.IsListIter i l k) (hj : s.heap.IsTupleIter j t m) (hl : s.heap.IsList l xs) (ht : s.heap.IsTuple t us) (hx : xs[k]? = some x) (hu : us[m]? = some u)
    (q : ∀ h', IsZip h' z P O (rawInt s.heap.objs.size) → IsPair h' O x u → h'.IsListIter i l (k + 1) → h'.IsTupleIter j t (m + 1) → IsPair h' s.heap.objs.size x u → h'.objs.size = s.heap.objs.size + 1 →
      (∀ c o, c ≠ z → c ≠ O → c ≠ i → c ≠ j → s.heap.get? c = some o → h'.get? c = some o) → Q (some (.ref s.heap.objs.size)) { s with heap := h' }) : wpAny (model prog w) A (pyNext (.ref z)) Q E s := by
  have ty : s.TypeIs (.ref z) "zip" := ⟨_, y0, rfl⟩
  unfold pyNext
  refine wpAny_bind (wpAny_attempt (wpAny_callSpecial?_slot (name := Str.ofString "__next__") ty F.slot_zip_next (wpAny_call_entry F.slot_zip_next ty F.entry_zip_next ?_ (F.args_zip_next_1 _))))
  exact zipT_item D y0 p0 o0 hi hj hl ht hx hu fun h' b1 b2 b3 b4 b5 b6 b7 => wpAny_pure (q h' b1 b2 b3 b4 b5 b6 b7)
theorem nextZT_end {z P O i j l t : Addr} {k m : Nat} {xs us : Array Value} {a b : Value} {Q : Option Value → Shared → Prop} (hh : A.handled = none) (D : ZipApart z P O i j l t) (y0 : IsZip s.heap z P O .none) (p0 : IsPair s.heap P (.ref i) (.ref j)) (o0 : IsPair s.heap O a b)
    (hi : s.heap.IsListIter i l k) (hj : s.heap.IsTupleIter j t m) (hl : s.heap.IsList l xs) (ht : s.heap.IsTuple t us) (hE : xs[k]? = none ∨ us[m]? = none)
    (q : ∀ h', (∀ c o, c ≠ z → c ≠ O → c ≠ i → c ≠ j → s.heap.get? c = some o → h'.get? c = some o) → Q none { s with heap := h' }) : wpAny (model prog w) A (pyNext (.ref z)) Q E s := by
  have ty : s.TypeIs (.ref z) "zip" := ⟨_, y0, rfl⟩
  unfold pyNext
  refine wpAny_bind (wpAny_attempt (wpAny_callSpecial?_slot (name := Str.ofString "__next__") ty F.slot_zip_next (wpAny_call_entry F.slot_zip_next ty F.entry_zip_next ?_ (F.args_zip_next_1 _))))
  refine zipT_end hh D y0 p0 o0 hi hj hl ht hE fun h' e hk ⟨o, ho, co⟩ => ?_
  exact wpAny_bind (wpAny_isInstance (T := "StopIteration") (b := true) ⟨o, ho, co⟩ isSubtype_stop (wpAny_pure (q _ hk)))
end
/-- what zip(list, tuple) lays on the heap -/
def zH (h : Heap) (l t : Addr) : Heap :=
  ((((h.push { cls := .type "list_iterator", data := .fields #[.ref l, .int 0 0] }).push { cls := .type "tuple_iterator", data := .fields #[.ref t, .int 0 0] }).push { cls := .type "tuple", data := .seq #[.ref h.objs.size, .ref (h.objs.size + 1)] }).push { cls := .type "tuple", data := .seq #[.none, .none] }).push { cls := .type "zip", data := .fields #[.none, .bool false, .bool false, .ref (h.objs.size + 2), .ref (h.objs.size + 3)] }
theorem zipT_new (l t : Addr) (xs us : Array Value) :
    Meets (Builtin.«zip.__new__» ⟨[.type "zip", .ref l, .ref t], []⟩) (fun _ R s => s.heap.IsList l xs ∧ s.heap.IsTuple t us ∧ R (.ok (.ret (.ref (s.heap.objs.size + 4)))) { s with heap := zH s.heap l t }) :=
  .of_wp fun prog w A R s h => by
    obtain ⟨hp, g, d, tk, os⟩ := s
    obtain ⟨hl, ht, h⟩ := h
    have hsub := sub_zip
    have f1 : Heap.IsList (Shared.heap ⟨hp, g, d, tk, os⟩) l xs := hl
    have f2 : Heap.IsTuple (Shared.heap ⟨hp.push { cls := .type "list_iterator", data := .fields #[.ref l, .int 0 0] }, g, d, tk, os⟩) t us := Heap.IsTuple.push ht _
    wp_walk using wpAny_pyIter_list f1, wpAny_pyIter_tuple f2
    refine ⟨_, rfl, ?_⟩
    have e : ∀ (h : Heap) (o : Obj), (h.push o).objs.size = h.objs.size + 1 := fun h o => Heap.size_push ..
    simp only [e]
    exact h
end L2

/-! ## for x, y in zip(list, list or tuple) -/
namespace L2
open PySem PySem.Spec PyProof.Rows
/-- at turn i: a new pair of the list's and the tuple's i-th ones -/
def ItzT (K : PySem.W.Frag) (a b : Addr) : It :=
  ⟨fun i H => ∃ xs ys x y, SqL K H a xs ∧ SqT K H b ys ∧ xs[i]? = some x ∧ ys[i]? = some y, fun i H v H' => ∃ T x y, H T = none ∧ v = .ref T ∧ H' = upd H T (.tup [x, y]) ∧ (∀ xs, SqL K H a xs → xs[i]? = some x) ∧ ∀ ys, SqT K H b ys → ys[i]? = some y,
   fun i H => ∃ xs ys, SqL K H a xs ∧ SqT K H b ys ∧ (xs.length ≤ i ∨ ys.length ≤ i)⟩
theorem turn_zipT {P : Program} {w : World} {K : PySem.W.Frag} {elts : List Expr} {x1 : Nat} {pos : Pos} (a b z TI TO i1 i2 : Addr) (D : ZipApart z TI TO i1 i2 a b) :
    Turn P w K (.Tuple elts x1 pos) (ItzT K a b) [z, TI, TO, i1, i2] z (fun i h => IsZip h z TI TO .none ∧ IsPair h TI (.ref i1) (.ref i2) ∧ (∃ c d, IsPair h TO c d) ∧ h.IsListIter i1 a i ∧ h.IsTupleIter i2 b i) where
  mem := by simp
  obj := fun i h st c hc => by
    obtain ⟨hz, hTI, ⟨u, v, hTO⟩, ⟨o1, e1, _, d1⟩, ⟨o2, e2, _, d2⟩⟩ := st
    have hc' : c = z ∨ c = TI ∨ c = TO ∨ c = i1 ∨ c = i2 := by simpa using hc
    rcases hc' with rfl | rfl | rfl | rfl | rfl
    · exact ⟨_, hz, fun v q => by
        have q' : Data.fields _ = Data.cell v := q
        cases q'⟩
    · exact ⟨_, hTI, fun v q => by
        have q' : Data.seq _ _ = Data.cell v := q
        cases q'⟩
    · exact ⟨_, hTO, fun v q => by
        have q' : Data.seq _ _ = Data.cell v := q
        cases q'⟩
    · exact ⟨o1, e1, fun v q => by rw [d1] at q; cases q⟩
    · exact ⟨o2, e2, fun v q => by rw [d2] at q; cases q⟩
  keep := fun i h h' st k => by
    obtain ⟨hz, hTI, ⟨u, v, hTO⟩, h1, h2⟩ := st
    exact ⟨k z (by simp) _ hz, k TI (by simp) _ hTI, ⟨u, v, k TO (by simp) _ hTO⟩, h1.at fun o e => k i1 (by simp) o e, h2.at fun o e => k i2 (by simp) o e⟩
  item := by
    intro X hP hw hK hc i pins s σ H E I hf st hg
    subst hP hw hK
    obtain ⟨xs, ys, x, y, hq, hq2, hx, hy⟩ := hg
    obtain ⟨hz, hTI, ⟨u0, v0, hTO⟩, h1, h2⟩ := st
    obtain ⟨its, rv, p, _⟩ := I.list hq
    obtain ⟨u, hu, ru⟩ := rv.get hx
    obtain ⟨its2, rv2, p2, _⟩ := I.tuple hq2
    obtain ⟨v, hv, rv'⟩ := rv2.get hy
    have fz := hf z (by simp)
    have fTO := hf TO (by simp)
    have fi1 := hf i1 (by simp)
    have fi2 := hf i2 (by simp)
    have hT0 : H s.heap.objs.size = none := I.hok.fresh (Nat.le_refl _)
    refine nextZT_item D hz hTI hTO h1 h2 p.isList (show s.heap.IsTuple b its2.toArray from p2) (x := u) (u := v) (by simpa using hu) (by simpa using hv) fun h' a1 a2 a3 a4 a5 hsz hk => ?_
    have ltT : ∀ b ob, s.heap.get? b = some ob → b ≠ s.heap.objs.size := fun b ob z => Nat.ne_of_lt (Heap.lt_size z)
    have ltH : ∀ b ob, H b = some ob → b ≠ s.heap.objs.size := fun b ob z => Nat.ne_of_lt (I.hok.lt z)
    have nof : ∀ c ob, H c = some ob → c ≠ z ∧ c ≠ TO ∧ c ≠ i1 ∧ c ≠ i2 := fun c ob q => ⟨fun e => (by rw [e, fz.1] at q; cases q), fun e => (by rw [e, fTO.1] at q; cases q), fun e => (by rw [e, fi1.1] at q; cases q), fun e => (by rw [e, fi2.1] at q; cases q)⟩
    have hkc : ∀ c o, c ∉ [z, TO, i1, i2] → s.heap.get? c = some o → h'.get? c = some o := fun c o hcx q => hk c o (fun e => hcx (by simp [e])) (fun e => hcx (by simp [e])) (fun e => hcx (by simp [e])) (fun e => hcx (by simp [e])) q
    have I1 : Inv X pins σ (upd H s.heap.objs.size (.tup [x, y])) { s with heap := h' } := by
      refine I.step (g' := s.gens) (d' := s.drawn) (t' := s.toks) (ch := [z, TO, i1, i2]) (fun c hb => ?_) (fun c o _ _ hcx q _ => hkc c o hcx q) (fun c o _ _ hcx q _ => ⟨o.slots, hkc c o hcx q⟩)
        (fun c o _ q n => by rw [upd_ne (ltT c o q)]; exact n) (fun c o hcx q => ⟨o, hkc c o hcx q⟩) (fun c ys q => by rw [upd_ne (ltH c _ q)]; exact q) (fun c o v q => by rw [upd_ne (ltH c _ q)]; exact q)
        (fun c ps q => ⟨#[], by rw [upd_ne (ltH c _ q), q]; simp⟩) (fun m hm => ?_) (fun c v' q => ?_) I.bare
      · have hc' : c = z ∨ c = TO ∨ c = i1 ∨ c = i2 := by simpa using hb
        rcases hc' with rfl | rfl | rfl | rfl
        · exact ⟨fz.2.2.2.1, fz.2.1, fz.2.2.2.2.1, fz.2.2.2.2.2⟩
        · exact ⟨fTO.2.2.2.1, fTO.2.1, fTO.2.2.2.2.1, fTO.2.2.2.2.2⟩
        · exact ⟨fi1.2.2.2.1, fi1.2.1, fi1.2.2.2.2.1, fi1.2.2.2.2.2⟩
        · exact ⟨fi2.2.2.2.1, fi2.2.1, fi2.2.2.2.2.1, fi2.2.2.2.2.2⟩
      · obtain ⟨o, es, ep, ho', r⟩ := hm
        exact ⟨o, es, ep, hk _ o (Ne.symm fz.2.1) (Ne.symm fTO.2.1) (Ne.symm fi1.2.1) (Ne.symm fi2.2.1) ho', r⟩
      · by_cases hb : c = s.heap.objs.size
        · subst hb
          rw [upd_same] at q
          cases q
          exact ⟨by show 2 ≤ sizeLine; decide, [u, v], .cons ru (.cons rv' .nil), ⟨_, a5, rfl, _, rfl⟩⟩
        · rw [upd_ne hb] at q
          refine (I.hok c v' q).stay (fun e w' hc' q' => ?_) (fun e q => by rw [upd_ne (ltH e _ q)]; exact q) fun e ys q => by rw [upd_ne (ltH e _ q)]; exact q
          rcases hc' with rfl | hc'
          · have := nof e _ q
            exact hk e w' this.1 this.2.1 this.2.2.1 this.2.2.2 q'
          · have := nof e _ hc'
            exact hk e w' this.1 this.2.1 this.2.2.1 this.2.2.2 q'
    refine ⟨_, rfl, wpAny_letOwnedTupleGo_zip a1 fun h2 hz2 hs2 => ?_⟩
    have fT : z ≠ s.heap.objs.size := ltT z _ hz
    have I2 : Inv X pins σ (upd H s.heap.objs.size (.tup [x, y])) { s with heap := h2 } := Inv.turned (s := { s with heap := h' }) (h' := h2) (t' := s.toks) (it := z) I1 (fun b o hb q => hs2.extBut b o hb q) (by rw [upd_ne fT]; exact fz.1) fz.2.1 fz.2.2.2.1 fz.2.2.2.2.1 fz.2.2.2.2.2
    refine ⟨.ref s.heap.objs.size, _, I2, rfl, ⟨_, x, y, hT0, rfl, rfl, fun ys hy' => by rw [I.list_inj hy' hq]; exact hx, fun ys hy' => by rw [I.tuple_inj hy' hq2]; exact hy⟩,
      ⟨hz2, hs2.extBut _ _ D.TIz (hkc _ _ (by have := D.TIz; have := D.TITO; have := D.TIi1; have := D.TIi2; simp; exact ⟨D.TIz, D.TITO, D.TIi1, D.TIi2⟩) hTI), ⟨u, v, hs2.extBut _ _ D.TOz a2⟩, a3.at fun o q => hs2.extBut i1 o D.i1z q, a4.at fun o q => hs2.extBut i2 o D.i2z q⟩, fun c hc => ?_⟩
    have hc' : c = z ∨ c = TI ∨ c = TO ∨ c = i1 ∨ c = i2 := by simpa using hc
    have hn := (hf c hc).1
    rcases hc' with rfl | rfl | rfl | rfl | rfl
    · rw [upd_ne fT]; exact hn
    · rw [upd_ne (ltT _ _ hTI)]; exact hn
    · rw [upd_ne (ltT _ _ hTO)]; exact hn
    · obtain ⟨o, eo, _⟩ := h1
      rw [upd_ne (ltT _ o eo)]; exact hn
    · obtain ⟨o, eo, _⟩ := h2
      rw [upd_ne (ltT _ o eo)]; exact hn
  done := by
    intro X hP hw hK hc i pins s σ H E I hf st hg
    subst hP hw hK
    obtain ⟨xs, ys, hq, hq2, hend⟩ := hg
    obtain ⟨hz, hTI, ⟨u0, v0, hTO⟩, h1, h2⟩ := st
    obtain ⟨its, rv, p, _⟩ := I.list hq
    obtain ⟨its2, rv2, p2, _⟩ := I.tuple hq2
    have l1 := rv.length
    have l2 := rv2.length
    have fz := hf z (by simp)
    have fTO := hf TO (by simp)
    have fi1 := hf i1 (by simp)
    have fi2 := hf i2 (by simp)
    refine nextZT_end (I.ok.hd hc) D hz hTI hTO h1 h2 p.isList (show s.heap.IsTuple b its2.toArray from p2) (by
      rcases hend with e | e
      · exact .inl (by simp; omega)
      · exact .inr (by simp; omega)) fun h' hk => ⟨rfl, ?_⟩
    have hkc : ∀ c o, c ∉ [z, TO, i1, i2] → s.heap.get? c = some o → h'.get? c = some o := fun c o hcx q => hk c o (fun e => hcx (by simp [e])) (fun e => hcx (by simp [e])) (fun e => hcx (by simp [e])) (fun e => hcx (by simp [e])) q
    have nof : ∀ c ob, H c = some ob → c ≠ z ∧ c ≠ TO ∧ c ≠ i1 ∧ c ≠ i2 := fun c ob q => ⟨fun e => (by rw [e, fz.1] at q; cases q), fun e => (by rw [e, fTO.1] at q; cases q), fun e => (by rw [e, fi1.1] at q; cases q), fun e => (by rw [e, fi2.1] at q; cases q)⟩
    refine I.step (g' := s.gens) (d' := s.drawn) (t' := s.toks) (ch := [z, TO, i1, i2]) (fun c hb => ?_) (fun c o _ _ hcx q _ => hkc c o hcx q) (fun c o _ _ hcx q _ => ⟨o.slots, hkc c o hcx q⟩)
      (fun c o _ q n => n) (fun c o hcx q => ⟨o, hkc c o hcx q⟩) (fun c ys q => q) (fun c o v q => q)
      (fun c ps q => ⟨#[], by rw [q]; simp⟩) (fun m hm => ?_) (fun c v' q => ?_) I.bare
    · have hc' : c = z ∨ c = TO ∨ c = i1 ∨ c = i2 := by simpa using hb
      rcases hc' with rfl | rfl | rfl | rfl
      · exact ⟨fz.2.2.2.1, fz.2.1, fz.2.2.2.2.1, fz.2.2.2.2.2⟩
      · exact ⟨fTO.2.2.2.1, fTO.2.1, fTO.2.2.2.2.1, fTO.2.2.2.2.2⟩
      · exact ⟨fi1.2.2.2.1, fi1.2.1, fi1.2.2.2.2.1, fi1.2.2.2.2.2⟩
      · exact ⟨fi2.2.2.2.1, fi2.2.1, fi2.2.2.2.2.1, fi2.2.2.2.2.2⟩
    · obtain ⟨o, es, ep, ho', r⟩ := hm
      exact ⟨o, es, ep, hk _ o (Ne.symm fz.2.1) (Ne.symm fTO.2.1) (Ne.symm fi1.2.1) (Ne.symm fi2.2.1) ho', r⟩
    · refine (I.hok c v' q).stay (fun e w' hc' q' => ?_) (fun e q => q) fun e ys q => q
      rcases hc' with rfl | hc'
      · have := nof e _ q
        exact hk e w' this.1 this.2.1 this.2.2.1 this.2.2.2 q'
      · have := nof e _ hc'
        exact hk e w' this.1 this.2.1 this.2.2.1 this.2.2.2 q'
  self := fun _ _ _ _ _ st h => wpAny_pyIter_zip st.1 h
/-- at turn i: a new pair of the list's i-th one and that of a list or a tuple -/
def ItzK (K : PySem.W.Frag) (kd : Bool) (a b : Addr) : It := match kd with
  | false => Itz K a b
  | true => ItzT K a b
def iZipK (K : PySem.W.Frag) (ta : TA) : TI := fun σ H R => ta σ H fun vs H1 => ∃ a b kd, vs = [.ref a, .ref b] ∧ (∃ xs ys, SqL K H1 a xs ∧ My.SqK kd K H1 b ys) ∧ R (ItzK K kd a b) H1
section
variable {prog : Program} {w : World} {A : Around} {E : Value → Shared → Prop} {s : Shared}
theorem call_zipT {l t : Addr} {xs us : Array Value} {Q : Value → Shared → Prop} (hl : s.heap.IsList l xs) (ht : s.heap.IsTuple t us)
    (q : ∀ h', IsZip h' (s.heap.objs.size + 4) (s.heap.objs.size + 2) (s.heap.objs.size + 3) .none → IsPair h' (s.heap.objs.size + 2) (.ref s.heap.objs.size) (.ref (s.heap.objs.size + 1)) → IsPair h' (s.heap.objs.size + 3) .none .none →
      h'.IsListIter s.heap.objs.size l 0 → h'.IsTupleIter (s.heap.objs.size + 1) t 0 → (∀ c o, s.heap.get? c = some o → h'.get? c = some o) → Q (.ref (s.heap.objs.size + 4)) { s with heap := h' }) :
    wpAny (model prog w) A (call (.type "zip") [.ref l, .ref t]) Q E s := by
  refine callType_new F.called_zip (by decide) (F.typeCall_zip_2 _ _) (F.newCall_zip_2 _ _) (fun o => F.args_object_init_3 o _ _) F.entry_zip_new (zipT_new l t xs us) ⟨hl, ht, ?_⟩
  obtain ⟨h, eh⟩ : ∃ h, h = s.heap := ⟨_, rfl⟩
  rw [← eh] at q ⊢
  have at' : ∀ (g : Heap) (o : Obj) (n : Nat), g.objs.size = n → o.isFreed = false → (g.push o).get? n = some o := fun g o n e ho => by
    subst e
    exact Heap.get?_push_size _ ho
  have sz : ∀ (g : Heap) (o : Obj) (n : Nat), g.objs.size = n → (g.push o).objs.size = n + 1 := fun g o n e => by rw [Heap.size_push, e]
  have up : ∀ (g : Heap) (o o' : Obj) (c : Addr), g.get? c = some o → (g.push o').get? c = some o := fun g o o' c e => Heap.get?_push_of_some _ e
  have g0 : (zH h l t).get? h.objs.size = some { cls := .type "list_iterator", data := .fields #[.ref l, .int 0 0] } := up _ _ _ _ (up _ _ _ _ (up _ _ _ _ (up _ _ _ _ (at' _ _ _ rfl rfl))))
  have g1 : (zH h l t).get? (h.objs.size + 1) = some { cls := .type "tuple_iterator", data := .fields #[.ref t, .int 0 0] } := up _ _ _ _ (up _ _ _ _ (up _ _ _ _ (at' _ _ _ (sz _ _ _ rfl) rfl)))
  have g2 : IsPair (zH h l t) (h.objs.size + 2) (.ref h.objs.size) (.ref (h.objs.size + 1)) := up _ _ _ _ (up _ _ _ _ (at' _ _ _ (sz _ _ _ (sz _ _ _ rfl)) rfl))
  have g3 : IsPair (zH h l t) (h.objs.size + 3) .none .none := up _ _ _ _ (at' _ _ _ (sz _ _ _ (sz _ _ _ (sz _ _ _ rfl))) rfl)
  have g4 : IsZip (zH h l t) (h.objs.size + 4) (h.objs.size + 2) (h.objs.size + 3) .none := at' _ _ _ (sz _ _ _ (sz _ _ _ (sz _ _ _ (sz _ _ _ rfl)))) rfl
  exact ⟨⟨_, g4, rfl⟩, q _ g4 g2 g3 ⟨_, g0, rfl, rfl⟩ ⟨_, g1, rfl, rfl⟩ fun c o e => up _ _ _ _ (up _ _ _ _ (up _ _ _ _ (up _ _ _ _ (up _ _ _ _ e))))⟩
end
section
variable {X : Cx}
theorem pi_zipK (K : PySem.W.Frag) {elts : List Expr} {x1 : Nat} {tpos : Pos} {e f : Expr} {ta : TA} {p pos : Pos} (hg : Gl X "zip") (hm : X.mg "zip" = none) (ha : PA X [e, f] ta) (hs : starEach [e, f] X.env = (false, eval e X.env) :: starEach [f] X.env := by rfl) (hpl : (backTo pos (starEach [f] X.env)).any (·.1) = false := by rfl) (hk : X.K = K := by rfl) :
    PI X (.Tuple elts x1 tpos) (.Call (.Name "zip" p) [e, f] [] pos) (iZipK K ta) := by
  subst hk
  intro pins s σ H R I h
  refine Call_ (ld_blt I hg hm Boot.«zip» (PyProof.Rows.callWith_type1 (thn (ha pos pins s σ H _ I h) fun us s1 ⟨vs, H1, I1, r1, q1⟩ => ?_) hs hpl))
  obtain ⟨a, b, kd, ev, ⟨xs, ys, hq, hq2⟩, q⟩ := q1
  subst ev
  obtain ⟨u, u', rfl, ru, ru'⟩ := vals2 r1
  obtain rfl : u = Value.ref a := ru
  obtain rfl : u' = Value.ref b := ru'
  have key : ∀ n x y : Nat, x < n → y < n → ZipApart (n + 4) (n + 2) (n + 3) n (n + 1) x y := fun n x y h1 h2 => by constructor <;> (intro q; have q' : (_ : Nat) = _ := q; omega)
  have hfr : ∀ c ∈ [s1.heap.objs.size + 4, s1.heap.objs.size + 2, s1.heap.objs.size + 3, s1.heap.objs.size, s1.heap.objs.size + 1], s1.heap.objs.size ≤ c := fun c hc => by
    have hc' : c = s1.heap.objs.size + 4 ∨ c = s1.heap.objs.size + 2 ∨ c = s1.heap.objs.size + 3 ∨ c = s1.heap.objs.size ∨ c = s1.heap.objs.size + 1 := by simpa using hc
    rcases hc' with e | e | e | e | e <;> rw [e] <;> first | exact Nat.le_refl _ | exact Nat.le_add_right _ _
  obtain ⟨its, rv, pl, _⟩ := I1.list hq
  have lt1 : a < s1.heap.objs.size := let ⟨_, _, e, _⟩ := pl; Heap.lt_size e
  cases kd with
  | false =>
    obtain ⟨its2, rv2, pl2, _⟩ := I1.list hq2
    have lt2 : b < s1.heap.objs.size := let ⟨_, _, e, _⟩ := pl2; Heap.lt_size e
    have D := key _ _ _ lt1 lt2
    refine call_zip_2 pl.isList pl2.isList fun h' hz hTI hTO hi1 hi2 hsz hk => ?_
    refine wpAny_pyIter_zip (s := { s1 with heap := h' }) hz ?_
    exact ⟨s1.heap.objs.size + 4, [s1.heap.objs.size + 4, s1.heap.objs.size + 2, s1.heap.objs.size + 3, s1.heap.objs.size, s1.heap.objs.size + 1], _, _, H1, rfl, I1.kept (t' := s1.toks) hk, turn_zip a b _ _ _ _ _ D, ⟨hz, hTI, ⟨_, _, hTO⟩, hi1, hi2⟩, fun c hc => I1.fpOk (hfr c hc) (I1.hok.fresh (hfr c hc)), q⟩
  | true =>
    obtain ⟨its2, rv2, pl2, _⟩ := I1.tuple hq2
    have pT : s1.heap.IsTuple b its2.toArray := pl2
    have lt2 : b < s1.heap.objs.size := let ⟨_, e, _⟩ := pT; Heap.lt_size e
    have D := key _ _ _ lt1 lt2
    refine call_zipT pl.isList pT fun h' hz hTI hTO hi1 hi2 hk => ?_
    refine wpAny_pyIter_zip (s := { s1 with heap := h' }) hz ?_
    exact ⟨s1.heap.objs.size + 4, [s1.heap.objs.size + 4, s1.heap.objs.size + 2, s1.heap.objs.size + 3, s1.heap.objs.size, s1.heap.objs.size + 1], _, _, H1, rfl, I1.kept (t' := s1.toks) hk, turn_zipT a b _ _ _ _ _ D, ⟨hz, hTI, ⟨_, _, hTO⟩, hi1, hi2⟩, fun c hc => I1.fpOk (hfr c hc) (I1.hok.fresh (hfr c hc)), q⟩
end
end L2
namespace My
open PySem L2
theorem ItzK.go {K : PySem.W.Frag} {kd : Bool} {a b : Addr} {i : Nat} {H : Hp} {xs ys : List V} {x y : V} (h1 : SqL K H a xs) (h2 : SqK kd K H b ys) (hx : xs[i]? = some x) (hy : ys[i]? = some y) : (ItzK K kd a b).go i H := by
  cases kd <;> exact ⟨xs, ys, x, y, h1, h2, hx, hy⟩
theorem ItzK.stop {K : PySem.W.Frag} {kd : Bool} {a b : Addr} {i : Nat} {H : Hp} {xs ys : List V} (h1 : SqL K H a xs) (h2 : SqK kd K H b ys) (h : xs.length ≤ i) : (ItzK K kd a b).stop i H := by
  cases kd <;> exact ⟨xs, ys, h1, h2, .inl h⟩
theorem ItzK.yld {K : PySem.W.Frag} {kd : Bool} {a b : Addr} {i : Nat} {H H' : Hp} {v : V} {xs ys : List V} (h1 : SqL K H a xs) (h2 : SqK kd K H b ys) (h : (ItzK K kd a b).yld i H v H') : ∃ T x y, H T = none ∧ v = .ref T ∧ H' = upd H T (.tup [x, y]) ∧ xs[i]? = some x ∧ ys[i]? = some y := by
  cases kd with
  | false =>
    obtain ⟨T, x, y, a1, a2, a3, a4, a5⟩ := h
    exact ⟨T, x, y, a1, a2, a3, a4 _ h1, a5 _ h2⟩
  | true =>
    obtain ⟨T, x, y, a1, a2, a3, a4, a5⟩ := h
    exact ⟨T, x, y, a1, a2, a3, a4 _ h1, a5 _ h2⟩
theorem for_zipK {K : PySem.W.Frag} {kd : Bool} {a b : Addr} {xs ys : List V} {g : TG} {tb : TS} {D : Ends} {σ : St} {H : Hp} (hxy : xs.length = ys.length) (Pv : Nat → St → Hp → Prop) (h0 : Pv 0 σ H) (hl : ∀ i σ H, i ≤ xs.length → Pv i σ H → SqL K H a xs ∧ SqK kd K H b ys)
    (hs : ∀ (i : Nat) x y σ H (p : Addr), H p = none → xs[i]? = some x → ys[i]? = some y → Pv i σ H → g (.ref p) σ (upd H p (.tup [x, y])) fun σ2 H2 => tb { D with nx := Pv (i + 1), ct := Pv (i + 1), bk := D.nx } σ2 H2) (hd : ∀ σ H, Pv xs.length σ H → D.nx σ H) :
    ∃ W : Nat → Nat → St → Hp → Prop, (∃ m, W 0 m σ H) ∧ ∀ i m σ H, W i m σ H →
      ((ItzK K kd a b).stop i H ∧ D.nx σ H) ∨ ((ItzK K kd a b).go i H ∧ ∃ N : St → Hp → Prop, (∀ σ' H', N σ' H' → ∃ m', m' < m ∧ W (i + 1) m' σ' H') ∧ ∀ x H', (ItzK K kd a b).yld i H x H' → g x σ H' fun σ2 H2 => tb { D with nx := N, ct := N, bk := D.nx } σ2 H2) := by
  refine ⟨fun i m σ H => m = xs.length - i ∧ i ≤ xs.length ∧ Pv i σ H, ⟨xs.length, by simp, Nat.zero_le _, h0⟩, ?_⟩
  rintro i m σ H ⟨rfl, hi, p⟩
  obtain ⟨q, q2⟩ := hl i σ H hi p
  by_cases hlt : i < xs.length
  · refine .inr ⟨ItzK.go q q2 (List.getElem?_eq_getElem hlt) (List.getElem?_eq_getElem (by omega)), Pv (i + 1), fun σ' H' p' => ⟨xs.length - (i + 1), by omega, rfl, hlt, p'⟩, fun x H' hy => ?_⟩
    obtain ⟨T, u, v, hT, ex, eH, hu, hv⟩ := ItzK.yld q q2 hy
    subst ex eH
    exact hs i u v σ H T hT hu hv p
  · have e : i = xs.length := by omega
    subst e
    exact .inl ⟨ItzK.stop q q2 (Nat.le_refl _), hd σ H p⟩
end My

/-! ## trees sorted by the ties of a set: numbers as figures of a sum -/
namespace My
open PySem L2
/-- the number with these figures, the first one the least -/
def ev (b : Int) : List Int → Int
  | [] => 0
  | d :: l => d + b * ev b l
theorem sum_snocI (l : List Int) (x : Int) : (l ++ [x]).sum = l.sum + x := by
  induction l with
  | nil => show x + 0 = 0 + x; omega
  | cons y l ih => show y + (l ++ [x]).sum = y + l.sum + x; omega
end My

/-! ## one more place, tied to each with the same weight -/
namespace My
open PySem L2
end My

/-! ## the trees of the web with one more place, sorted by the ties at that place -/
namespace My
open PySem L2
end My

/-! ## list.count -/
namespace L2
open PySem PySem.Spec PyProof.Rows
section
variable {X : Cx}
end
end L2

/-! ## forests with a chosen place of each piece -/
namespace My
open PySem L2
end My

/-! ## the trees of the web with one more place, by their ties of the web -/
namespace My
open PySem L2
end My

/-! ## the web whose trees are the cheapest ones -/
namespace My
open PySem L2
/-! ### marks: each the least place of its piece -/
section
variable {n : Nat} {es : List (Nat × Nat)} (h : InN n es)
include h
end
/-! ### the ties of the web by their lengths -/
abbrev lnz (ls : List Int) (z : Int) : Int := ls.getD z.toNat 0
def lwS (ls : List Int) (x : Int) : List Int := (rgL ls.length).filter fun z => decide (lnz ls z < x)
def leS (ls : List Int) (x : Int) : List Int := (rgL ls.length).filter fun z => decide (lnz ls z ≤ x)
/-- the marks below and up to a length -/
def mA (N : Nat) (ps : List (Int × Int)) (ls : List Int) (x : Int) : List Int := pms N (endsOf ps (lwS ls x))
def mB (N : Nat) (ps : List (Int × Int)) (ls : List Int) (x : Int) : List Int := pms N (endsOf ps (leS ls x))
section
variable {n : Int} {ps : List (Int × Int)} {ls T : List Int} (g : GoodW n ps) (hl : ls.length = ps.length)
include g hl
end
end My

/-! ## sums that meet: sorts turned, forests of few and of all pieces, weights scaled -/
namespace My
open PySem L2
/-! ### forests of no, of one and of all pieces -/
/-! ### the web with one more place, and weights scaled -/
end My

/-! ## sum of a tuple of ints -/
namespace L2
open PySem PySem.Spec PyProof.Rows
section
variable {prog : Program} {w : World} {A : Around} {E : Value → Shared → Prop} {s : Shared} {l : Addr} {xs : Array (Int × Tok)}
end
section
variable {X : Cx}
end
end L2

/-! ## the trees of that web are the trees without a gain, the cheapest ones -/
namespace My
open PySem L2
section
variable {n : Int} {ps : List (Int × Int)} {ls T : List Int} (g : GoodW n ps) (hl : ls.length = ps.length)
include g hl
omit hl in
end
end My

/-! ## the steps that make the web of the cheapest -/
namespace My
open PySem L2
section
variable {n : Int} {ps : List (Int × Int)} {ls Ls S : List Int} {j : Nat} {x : Int} (g : GoodW n ps) (hl : ls.length = ps.length) (hLa : Ls.Pairwise (· < ·)) (hLm : ∀ z, z ∈ Ls ↔ z ∈ ls) (hx : Ls[j]? = some x)
include hLa hx
include g hl hLm
end
end My

/-! ## the trees without a gain are those of least length -/
namespace My
open PySem L2
section
variable {n : Int} {ps : List (Int × Int)} {ls T : List Int} (g : GoodW n ps)
include g
end
end My

/-! ## sorted(list of empty tuples) -/
namespace L2
open PySem PySem.Spec PyProof.Rows My
section
variable {prog : Program} {w : World} {A : Around} {E : Value → Shared → Prop} {s : Shared}
end
section
variable {X : Cx}
end
end L2

/-! ## sorted(list of two tuples that stand in their order) -/
namespace L2
open PySem PySem.Spec PyProof.Rows My
section
variable {M : Model} {A : Around} {E : Value → Shared → Prop} {s : Shared}
end
section
variable {prog : Program} {w : World} {A : Around} {E : Value → Shared → Prop} {s : Shared}
end
section
variable {X : Cx}
end
end L2

/-! ## walks turned round -/
namespace My
open PySem L2
theorem Wk.cons {n : Int} {ps : List (Int × Int)} {T T' : List Int} {o z : Int} (h1 : exg n ps T o z) (h2 : T'.Perm (wo T o ++ [z])) (h3 : T'.Pairwise (· ≤ ·)) {ws : List (Int × Int)} {U : List Int} (h : Wk n ps T' ws U) : Wk n ps T ((o, z) :: ws) U := by
  induction h with
  | nil => exact Wk.step (ws := []) .nil h1 h2 h3
  | step k1 k2 k3 k4 ih => exact Wk.step (ws := (o, z) :: _) ih k2 k3 k4
end My
namespace My
open PySem L2
end My

/-! ## the numbers that solve a table -/
namespace My
open PySem L2
/-- a column put in -/
def putc (A : Mx) (c : Nat) (b : Nat → Int) : Mx := fun i j => if j = c then b i else A i j
/-- the table with its right side ahead, and one row once more on top -/
def aug (A : Mx) (b : Nat → Int) (p : Nat) : Mx := fun r j => match r, j with
  | 0, 0 => b p
  | 0, j + 1 => A p j
  | r + 1, 0 => b r
  | r + 1, j + 1 => A r j
theorem sg_two (j : Nat) : sg (j + 1) * sg j = -1 := by
  unfold sg
  split <;> split <;> first | rfl | omega
theorem det_rotc {n t : Nat} {A : Mx} (h : t < n) : det n (fun i k => A i (rotN 0 t k)) = sg t * det n A := by
  have e := det_rot (n := n) (k := 0) (t := t) (A := fun i j => A j i) (by omega)
  rw [det_T (A := A)] at e
  rw [← det_T]
  exact e
theorem aug_mn0 {A : Mx} {b : Nat → Int} {p n : Nat} : det n (mn (aug A b p) 0) = det n A := det_congr fun i k _ _ => rfl
theorem aug_mn {A : Mx} {b : Nat → Int} {p n j : Nat} (h : j < n) : det n (mn (aug A b p) (j + 1)) = sg j * det n (putc A j b) := by
  rw [← det_rotc h]
  refine det_congr fun i k _ _ => ?_
  show aug A b p (i + 1) (sk (j + 1) k) = putc A j b i (rotN 0 j k)
  cases k with
  | zero =>
    have e1 : sk (j + 1) 0 = 0 := by unfold sk; rw [if_pos (Nat.succ_pos j)]
    have e2 : rotN 0 j 0 = j := by unfold rotN; rw [if_neg (Nat.lt_irrefl 0), if_pos rfl, Nat.zero_add]
    rw [e1, e2]
    unfold putc
    rw [if_pos rfl]
    rfl
  | succ k =>
    by_cases c : k + 1 < j + 1
    · have e1 : sk (j + 1) (k + 1) = k + 1 := by unfold sk; rw [if_pos c]
      have e2 : rotN 0 j (k + 1) = k := by unfold rotN; rw [if_neg (Nat.not_lt_zero _), if_neg (Nat.succ_ne_zero k), if_pos (by omega)]; rfl
      rw [e1, e2]
      unfold putc
      rw [if_neg (by omega)]
      rfl
    · have e1 : sk (j + 1) (k + 1) = k + 2 := by unfold sk; rw [if_neg c]
      have e2 : rotN 0 j (k + 1) = k + 1 := by unfold rotN; rw [if_neg (Nat.not_lt_zero _), if_neg (Nat.succ_ne_zero k), if_neg (by omega)]
      rw [e1, e2]
      unfold putc
      rw [if_neg (by omega)]
      rfl
/-- in each row the sum of its numbers times the tops is its number times the determinant -/
theorem cramer {n p : Nat} {A : Mx} {b : Nat → Int} (hp : p < n) : sm n (fun j => A p j * det n (putc A j b)) = b p * det n A := by
  have z : det (n + 1) (aug A b p) = 0 := det_two (a := 0) (b := p + 1) (by omega) (by omega) (by omega) fun j _ => by cases j <;> rfl
  have e : det (n + 1) (aug A b p) = sm (n + 1) fun j => sg j * aug A b p 0 j * det n (mn (aug A b p) j) := rfl
  rw [e, sm_first] at z
  have e0 : sg 0 * aug A b p 0 0 * det n (mn (aug A b p) 0) = b p * det n A := by
    rw [aug_mn0]
    show 1 * b p * _ = _
    rw [Int.one_mul]
  have e1 : sm n (fun j => sg (j + 1) * aug A b p 0 (j + 1) * det n (mn (aug A b p) (j + 1))) = -1 * sm n (fun j => A p j * det n (putc A j b)) := by
    rw [← sm_mul]
    refine sm_congr fun j hj => ?_
    rw [aug_mn hj]
    show sg (j + 1) * A p j * (sg j * _) = -1 * (A p j * _)
    rw [← sg_two j]
    generalize sg (j + 1) = x
    generalize sg j = y
    generalize A p j = u
    generalize det n (putc A j b) = v
    rw [Int.mul_assoc x u, Int.mul_left_comm u y v, ← Int.mul_assoc x y]
  rw [e0, e1] at z
  omega
end My

/-! ## fractions in least terms -/
namespace My
open PySem L2
/-- p / q is x / y in least terms -/
def LowF (x y p q : Int) : Prop := 0 < q ∧ Int.gcd p q = 1 ∧ p * y = x * q
theorem dvd_cop {a b c : Int} (h : a ∣ b * c) (g : Int.gcd b a = 1) : a ∣ c := by
  have h1 : a.natAbs ∣ b.natAbs * c.natAbs := by rw [← Int.natAbs_mul]; exact Int.natAbs_dvd_natAbs.mpr h
  have h2 : Nat.Coprime a.natAbs b.natAbs := by unfold Nat.Coprime; rw [Nat.gcd_comm]; exact g
  exact Int.natAbs_dvd_natAbs.mp (h2.dvd_of_dvd_mul_left h1)
theorem low_uniq {x y p q p' q' : Int} (hy : y ≠ 0) (h : LowF x y p q) (h' : LowF x y p' q') : p = p' ∧ q = q' := by
  obtain ⟨q0, g, e⟩ := h
  obtain ⟨q0', g', e'⟩ := h'
  have c : p * q' = p' * q := by
    refine Int.eq_of_mul_eq_mul_right hy ?_
    rw [Int.mul_assoc, Int.mul_comm q' y, ← Int.mul_assoc, e, Int.mul_assoc p', Int.mul_comm q y, ← Int.mul_assoc, e', Int.mul_assoc, Int.mul_assoc, Int.mul_comm q q']
  have d1 : q ∣ q' := by
    have : q ∣ p * q' := by rw [c]; exact Int.dvd_mul_left p' q
    exact dvd_cop this g
  have d2 : q' ∣ q := by
    have : q' ∣ p' * q := by rw [← c]; exact Int.dvd_mul_left p q'
    exact dvd_cop this g'
  have eq : q = q' := Int.dvd_antisymm (by omega) (by omega) d1 d2
  refine ⟨?_, eq⟩
  rw [eq] at c
  exact Int.eq_of_mul_eq_mul_right (by omega) c
/-- divided by the common divisor with the bottom's sign -/
theorem low_div {x y d : Int} (hy : y ≠ 0) (hd : d = if y < 0 then -(Int.gcd x y : Int) else (Int.gcd x y : Int)) : d ≠ 0 ∧ LowF x y (x.fdiv d) (y.fdiv d) := by
  have gp : 0 < Int.gcd x y := Int.gcd_pos_of_ne_zero_right _ hy
  have d0 : d ≠ 0 := by rw [hd]; split <;> omega
  obtain ⟨u, hu⟩ := Int.gcd_dvd_left (a := x) (b := y)
  obtain ⟨v, hv⟩ := Int.gcd_dvd_right (a := x) (b := y)
  have cop : Int.gcd u v = 1 := by
    have h := Int.gcd_mul_left (Int.gcd x y : Int) u v
    rw [← hu, ← hv, Int.natAbs_natCast] at h
    have : Int.gcd x y * 1 = Int.gcd x y * Int.gcd u v := by omega
    exact (Nat.eq_of_mul_eq_mul_left gp this).symm
  by_cases c : y < 0
  · rw [if_pos c] at hd
    have ex : x = d * (-u) := by rw [hd, Int.neg_mul_neg]; exact hu
    have ey : y = d * (-v) := by rw [hd, Int.neg_mul_neg]; exact hv
    have fx : x.fdiv d = -u := by rw [ex]; exact Int.mul_fdiv_cancel_left _ d0
    have fy : y.fdiv d = -v := by rw [ey]; exact Int.mul_fdiv_cancel_left _ d0
    rw [fx, fy]
    refine ⟨d0, ?_, by rw [Int.gcd_neg, Int.neg_gcd]; exact cop, ?_⟩
    · have : (Int.gcd x y : Int) * v < 0 := by omega
      have g0 : (0 : Int) < (Int.gcd x y : Int) := by omega
      have : v < 0 := Int.lt_of_mul_lt_mul_left (a := (Int.gcd x y : Int)) (by rw [Int.mul_zero]; exact this) (by omega)
      omega
    · have e1 : (-u) * y = (-u) * (d * (-v)) := by rw [← ey]
      have e2 : x * (-v) = d * (-u) * (-v) := by rw [← ex]
      rw [e1, e2, ← Int.mul_assoc, Int.mul_comm (-u) d]
  · rw [if_neg c] at hd
    have ex : x = d * u := by rw [hd]; exact hu
    have ey : y = d * v := by rw [hd]; exact hv
    have fx : x.fdiv d = u := by rw [ex]; exact Int.mul_fdiv_cancel_left _ d0
    have fy : y.fdiv d = v := by rw [ey]; exact Int.mul_fdiv_cancel_left _ d0
    rw [fx, fy]
    refine ⟨d0, ?_, cop, ?_⟩
    · have : 0 < (Int.gcd x y : Int) * v := by omega
      exact Int.lt_of_mul_lt_mul_left (a := (Int.gcd x y : Int)) (by rw [Int.mul_zero]; exact this) (by omega)
    · have e1 : u * y = u * (d * v) := by rw [← ey]
      have e2 : x * v = d * u * v := by rw [← ex]
      rw [e1, e2, ← Int.mul_assoc, Int.mul_comm u d]
/-- rows with one column put in -/
def wcL (L : List (List Int)) (c : Nat) (bs : List Int) : List (List Int) := List.zipWith (fun l x => l.take c ++ x :: l.drop (c + 1)) L bs
theorem wcL_len {L : List (List Int)} {c : Nat} {bs : List Int} (h : bs.length = L.length) : (wcL L c bs).length = L.length := by unfold wcL; rw [List.length_zipWith]; omega
theorem wcL_rows {L : List (List Int)} {c N : Nat} {bs : List Int} (h : ∀ l ∈ L, l.length = N) (hc : c < N) : ∀ l ∈ wcL L c bs, l.length = N := fun l hl => by
  unfold wcL at hl
  obtain ⟨i, hi⟩ := List.getElem?_of_mem hl
  rw [List.getElem?_zipWith] at hi
  cases h1 : L[i]? with
  | none => rw [h1] at hi; cases hi
  | some r =>
    cases h2 : bs[i]? with
    | none => rw [h1, h2] at hi; cases hi
    | some x =>
      rw [h1, h2] at hi
      obtain rfl := Option.some.inj hi
      have := h r (List.mem_of_getElem? h1)
      rw [List.length_append, List.length_cons, List.length_take, List.length_drop]
      omega
theorem wcL_fn {L : List (List Int)} {c N : Nat} {bs : List Int} (hL : L.length = N) (hb : bs.length = N) (h : ∀ l ∈ L, l.length = N) (hc : c < N) {i j : Nat} (hi : i < N) (hj : j < N) : fnL (wcL L c bs) i j = putc (fnL L) c (fun i => bs.getD i 0) i j := by
  obtain ⟨l, h1⟩ : ∃ l, L[i]? = some l := ⟨_, List.getElem?_eq_getElem (by omega)⟩
  obtain ⟨x, h2⟩ : ∃ x, bs[i]? = some x := ⟨_, List.getElem?_eq_getElem (by omega)⟩
  have hr := h l (List.mem_of_getElem? h1)
  have e : (wcL L c bs)[i]? = some (l.take c ++ x :: l.drop (c + 1)) := by
    unfold wcL
    rw [List.getElem?_zipWith, h1, h2]
  have f1 : (wcL L c bs).getD i [] = l.take c ++ x :: l.drop (c + 1) := by rw [List.getD_eq_getElem?_getD, e]; rfl
  have f2 : L.getD i [] = l := by rw [List.getD_eq_getElem?_getD, h1]; rfl
  have f3 : bs.getD i 0 = x := by rw [List.getD_eq_getElem?_getD, h2]; rfl
  unfold putc
  show ((wcL L c bs).getD i []).getD j 0 = if j = c then bs.getD i 0 else (L.getD i []).getD j 0
  rw [f1, f2, f3]
  rw [List.getD_eq_getElem?_getD]
  by_cases d : j = c
  · rw [if_pos d, List.getElem?_append_right (by rw [List.length_take]; omega), List.length_take, show j - min c l.length = 0 by omega]
    rfl
  · rw [if_neg d, List.getD_eq_getElem?_getD]
    by_cases d2 : j < c
    · rw [List.getElem?_append_left (by rw [List.length_take]; omega), List.getElem?_take, if_pos d2]
    · rw [List.getElem?_append_right (by rw [List.length_take]; omega), List.length_take, show j - min c l.length = (j - c - 1) + 1 by omega, List.getElem?_cons_succ, List.getElem?_drop, show c + 1 + (j - c - 1) = j by omega]
end My

/-! ## a web's table without any one of its places -/
namespace My
open PySem L2
end My

/-! ## the heights of a web's places -/
namespace My
open PySem L2
end My

/-! ## sums of fractions with one bottom -/
namespace My
open PySem L2
theorem low_bnd {x W a b : Int} (hW : 0 < W) (h : LowF x W a b) : b ≤ W ∧ a.natAbs ≤ x.natAbs := by
  obtain ⟨h1, h2, h3⟩ := h
  have d : b ∣ W := dvd_cop (b := a) (by rw [h3]; exact Int.dvd_mul_left x b) h2
  have hb : b ≤ W := Int.le_of_dvd hW d
  refine ⟨hb, ?_⟩
  have e : a.natAbs * W.natAbs = x.natAbs * b.natAbs := by rw [← Int.natAbs_mul, h3, Int.natAbs_mul]
  have l : x.natAbs * b.natAbs ≤ x.natAbs * W.natAbs := Nat.mul_le_mul_left _ (by omega)
  exact Nat.le_of_mul_le_mul_right (by rw [e]; exact l) (by omega)
end My

/-! ## heights: the same both ways; the trees that hold a tie -/
namespace My
open PySem L2
end My

/-! ## leans -/
namespace My
open PySem L2
end My

/-! ## shares by heights -/
namespace My
open PySem L2
end My

/-! ## rows of fractions, and heights by their balance -/
namespace My
open PySem L2
/-- fractions in least terms, each a whole number by W -/
def FrL (W : Int) (B : Nat) (fs : List (Int × Int)) : Prop := ∀ f ∈ fs, ∃ x : Int, x.natAbs ≤ B ∧ LowF x W f.1 f.2
def FrB (B : Nat) (fs : List (Int × Int)) : Prop := ∃ W : Int, 0 < W ∧ W.natAbs ≤ B ∧ FrL W B fs
theorem FrB.mono {B C : Nat} {fs : List (Int × Int)} (h : FrB B fs) (hc : B ≤ C) : FrB C fs := by
  obtain ⟨W, a, b, c⟩ := h
  exact ⟨W, a, Nat.le_trans b hc, fun f hf => by obtain ⟨x, h1, h2⟩ := c f hf; exact ⟨x, Nat.le_trans h1 hc, h2⟩⟩
theorem eqd_tpairs {K : PySem.W.Frag} {H : Hp} {p q : Addr} {xs ys : List V} {ps qs : List (Int × Int)} (hp : SqT K H p xs) (hq : SqT K H q ys) (h1 : PairsV H xs ps) (h2 : PairsV H ys qs) : EqD K H 2 (.ref p) (.ref q) (decide (ps = qs)) :=
  eqd_tups hp hq (bears_pairs h1) (bears_pairs h2) fun _ _ _ _ => eqd_pair
end My

/-! ## chains of rings of bundles -/
namespace My
open PySem L2
/-! ties one by one -/
end My

/-! ## rings of bundles, tie by tie -/
namespace My
open PySem L2
end My

/-! ## for x, y in zip(tuple, tuple) -/
namespace L2
open PySem PySem.Spec PyProof.Rows
section
variable {prog : Program} {w : World} {A : Around} {E : Value → Shared → Prop} {s : Shared}
/-- the next pair of two tuples -/
theorem zipTT_item {z P O i j l t : Addr} {k m : Nat} {xs us : Array Value} {x u a b : Value} {Q : Value → Shared → Prop} (D : ZipApart z P O i j l t) (y0 : IsZip s.heap z P O .none) (p0 : IsPair s.heap P (.ref i) (.ref j)) (o0 : IsPair s.heap O a b)
    (hi : s.heap.IsTupleIter i l k) (hj : s.heap.IsTupleIter j t m) (hl : s.heap.IsTuple l xs) (ht : s.heap.IsTuple t us) (hx : xs[k]? = some x) (hu : us[m]? = some u)
    (q : ∀ h', IsZip h' z P O (rawInt s.heap.objs.size) → IsPair h' O x u → h'.IsTupleIter i l (k + 1) → h'.IsTupleIter j t (m + 1) → IsPair h' s.heap.objs.size x u → h'.objs.size = s.heap.objs.size + 1 →
      (∀ c o, c ≠ z → c ≠ O → c ≠ i → c ≠ j → s.heap.get? c = some o → h'.get? c = some o) → Q (.ref s.heap.objs.size) { s with heap := h' }) :
    wpAny (model prog w) A (Builtin.«zip.__next__» ⟨[.ref z], []⟩) (fun r s' => ∃ v, r = .done (.ret v) ∧ Q v s') E s := by
  show wpAny _ _ (field (.ref z) 2 >>= _) _ E s
  refine wpAny_bind (wpAny_field y0 rfl (x := .bool false) rfl ?_)
  show wpAny _ _ (field (.ref z) 3 >>= _) _ E s
  refine wpAny_bind (wpAny_field y0 rfl (x := .ref P) rfl (wpAny_bind (wpAny_seqItems p0 rfl (wpAny_bind (m := Builtin.SmallTypes.ownedTupleIsFree (.ref z)) ?_))))
  unfold Builtin.SmallTypes.ownedTupleIsFree
  refine wpAny_bind (wpAny_field y0 rfl (x := .none) rfl (wpAny_pure ?_))
  simp only [if_true]
  refine wpAny_bind (wpAny_rule (wpAny_bind (wpAny_field y0 rfl (x := .ref O) rfl (wpAny_bind (wpAny_setField_rec y0 (by simp) fun g1 y1 w1 => wpAny_bind ?_)))))
  replace y1 : IsZip g1 z P O .ellipsis := y1
  simp only [List.forIn_cons, List.forIn_nil, List.zipIdx_cons, List.zipIdx_nil]
  refine wpAny_bind (wpAny_bind (wpAny_onRaise (wpAny_bind (m := Builtin.SmallTypes.nextOf (.ref i)) ?_)))
  refine nxT_item (hi.extBut w1.extBut D.i1z) (hl.extBut w1.extBut D.l1z) hx fun g2 i2 w2 => wpAny_pure ?_
  have o2 : IsPair g2 O a b := w2.extBut _ _ D.TOi1 (w1.extBut _ _ D.TOz o0)
  refine wpAny_bind (wpAny_seqItems o2 rfl (wpAny_bind (wpAny_updateSeq_pair o2 fun g3 o3 w3 => wpAny_bind (wpAny_letGo (wpAny_pure ?_)))))
  replace o3 : IsPair g3 O x b := o3
  refine wpAny_bind (wpAny_bind (wpAny_onRaise (wpAny_bind (m := Builtin.SmallTypes.nextOf (.ref j)) ?_)))
  refine nxT_item (((hj.extBut w1.extBut D.i2z).extBut w2.extBut D.i12.symm).extBut w3.extBut D.TOi2.symm) (((ht.extBut w1.extBut D.l2z).extBut w2.extBut D.l2i1).extBut w3.extBut D.l2TO) hu fun g4 j4 w4 => wpAny_pure ?_
  have o4 : IsPair g4 O x b := w4.extBut _ _ D.TOi2 o3
  refine wpAny_bind (wpAny_seqItems o4 rfl (wpAny_bind (wpAny_updateSeq_pair o4 fun g5 o5 w5 => wpAny_bind (wpAny_letGo (wpAny_pure (wpAny_pure ?_))))))
  replace o5 : IsPair g5 O x u := o5
  refine wpAny_bind (wpAny_seqItems o5 rfl (wpAny_bind (wpAny_newTuple ?_)))
  have sz : g5.objs.size = s.heap.objs.size := by rw [w5.1, w4.1, w3.1, w2.1, w1.1]
  have y5 : IsZip g5 z P O .ellipsis := w5.extBut _ _ D.TOz.symm (w4.extBut _ _ D.i2z.symm (w3.extBut _ _ D.TOz.symm (w2.extBut _ _ D.i1z.symm y1)))
  have kp : ∀ c o, c ≠ z → c ≠ O → c ≠ i → c ≠ j → s.heap.get? c = some o → g5.get? c = some o := fun c o c1 c2 c3 c4 e => w5.extBut _ _ c2 (w4.extBut _ _ c4 (w3.extBut _ _ c2 (w2.extBut _ _ c3 (w1.extBut _ _ c1 e))))
  have i5 : g5.IsTupleIter i l (k + 1) := ((i2.extBut w3.extBut D.TOi1.symm).extBut w4.extBut D.i12).extBut w5.extBut D.TOi1.symm
  have j5 : g5.IsTupleIter j t (m + 1) := j4.extBut w5.extBut D.TOi2.symm
  have lz : z < g5.objs.size := Heap.lt_size y5
  show wpAny _ _ (Builtin.SmallTypes.ownedTupleHandOut (.ref z) (.ref g5.objs.size) >>= _) _ E _
  refine wpAny_bind ?_
  unfold Builtin.SmallTypes.ownedTupleHandOut
  have y6 : IsZip (g5.push { cls := .type "tuple", data := .seq #[x, u] }) z P O .ellipsis := Heap.get?_push_of_some _ y5
  refine wpAny_bind (wpAny_setField_rec y6 (by simp) fun g7 y7 w7 => ?_)
  replace y7 : IsZip g7 z P O (rawInt g5.objs.size) := y7
  refine wpAny_setField_rec y7 (by simp) fun g8 y8 w8 => ?_
  replace y8 : IsZip g8 z P O (rawInt g5.objs.size) := y8
  have up : ∀ c o, c ≠ z → g5.get? c = some o → g8.get? c = some o := fun c o c1 e => w8.extBut _ _ c1 (w7.extBut _ _ c1 (Heap.get?_push_of_some _ e))
  have n8 : IsPair g8 g5.objs.size x u := w8.extBut _ _ (Nat.ne_of_gt lz) (w7.extBut _ _ (Nat.ne_of_gt lz) (Heap.get?_push_size _ rfl))
  have z8 : g8.objs.size = g5.objs.size + 1 := by rw [w8.1, w7.1, Heap.size_push]
  rw [sz] at y8 n8 z8
  refine wpAny_pure ⟨_, rfl, ?_⟩
  show Q (.ref g5.objs.size) _
  rw [sz]
  exact q g8 y8 (up _ _ D.TOz o5) (i5.at fun o e => up _ o D.i1z e) (j5.at fun o e => up _ o D.i2z e) n8 z8 fun c o c1 c2 c3 c4 e => up c o c1 (kp c o c1 c2 c3 c4 e)
theorem zipTT_end {z P O i j l t : Addr} {k m : Nat} {xs us : Array Value} {a b : Value} {Q : Fin → Shared → Prop} (hh : A.handled = none) (D : ZipApart z P O i j l t) (y0 : IsZip s.heap z P O .none) (p0 : IsPair s.heap P (.ref i) (.ref j)) (o0 : IsPair s.heap O a b)
    (hi : s.heap.IsTupleIter i l k) (hj : s.heap.IsTupleIter j t m) (hl : s.heap.IsTuple l xs) (ht : s.heap.IsTuple t us) (hE : xs[k]? = none ∨ us[m]? = none)
    (q : ∀ h' e, (∀ c o, c ≠ z → c ≠ O → c ≠ i → c ≠ j → s.heap.get? c = some o → h'.get? c = some o) → (∃ o, h'.get? e = some o ∧ o.cls = .type "StopIteration") → E (.ref e) { s with heap := h' }) :
    wpAny (model prog w) A (Builtin.«zip.__next__» ⟨[.ref z], []⟩) Q E s := by
  show wpAny _ _ (field (.ref z) 2 >>= _) _ E s
  refine wpAny_bind (wpAny_field y0 rfl (x := .bool false) rfl ?_)
  show wpAny _ _ (field (.ref z) 3 >>= _) _ E s
  refine wpAny_bind (wpAny_field y0 rfl (x := .ref P) rfl (wpAny_bind (wpAny_seqItems p0 rfl (wpAny_bind (m := Builtin.SmallTypes.ownedTupleIsFree (.ref z)) ?_))))
  unfold Builtin.SmallTypes.ownedTupleIsFree
  refine wpAny_bind (wpAny_field y0 rfl (x := .none) rfl (wpAny_pure ?_))
  simp only [if_true]
  refine wpAny_bind (wpAny_rule (wpAny_bind (wpAny_field y0 rfl (x := .ref O) rfl (wpAny_bind (wpAny_setField_rec y0 (by simp) fun g1 y1 w1 => wpAny_bind ?_)))))
  replace y1 : IsZip g1 z P O .ellipsis := y1
  simp only [List.forIn_cons, List.forIn_nil, List.zipIdx_cons, List.zipIdx_nil]
  refine wpAny_bind (wpAny_bind (wpAny_onRaise (wpAny_bind (m := Builtin.SmallTypes.nextOf (.ref i)) ?_)))
  cases hx : xs[k]? with
  | none =>
    refine nxT_end hh (hi.extBut w1.extBut D.i1z) (hl.extBut w1.extBut D.l1z) hx fun g2 e w2 ⟨oe, he, ce⟩ => ?_
    have y2 : IsZip g2 z P O .ellipsis := w2 _ _ D.i1z.symm y1
    have ez : e ≠ z := by
      rintro rfl
      rw [y2] at he
      cases he
      simp at ce
    exact wpAny_setField_rec y2 (by simp) fun g3 _ w3 => q g3 e (fun c o c1 _ c3 _ r => w3.extBut _ _ c1 (w2 _ _ c3 (w1.extBut _ _ c1 r))) ⟨oe, w3.extBut _ _ ez he, ce⟩
  | some x =>
    have hu : us[m]? = none := hE.resolve_left (by rw [hx]; exact Option.some_ne_none x)
    refine nxT_item (hi.extBut w1.extBut D.i1z) (hl.extBut w1.extBut D.l1z) hx fun g2 i2 w2 => wpAny_pure ?_
    have o2 : IsPair g2 O a b := w2.extBut _ _ D.TOi1 (w1.extBut _ _ D.TOz o0)
    refine wpAny_bind (wpAny_seqItems o2 rfl (wpAny_bind (wpAny_updateSeq_pair o2 fun g3 o3 w3 => wpAny_bind (wpAny_letGo (wpAny_pure ?_)))))
    refine wpAny_bind (wpAny_bind (wpAny_onRaise (wpAny_bind (m := Builtin.SmallTypes.nextOf (.ref j)) ?_)))
    refine nxT_end hh (((hj.extBut w1.extBut D.i2z).extBut w2.extBut D.i12.symm).extBut w3.extBut D.TOi2.symm) (((ht.extBut w1.extBut D.l2z).extBut w2.extBut D.l2i1).extBut w3.extBut D.l2TO) hu fun g4 e w4 ⟨oe, he, ce⟩ => ?_
    have y4 : IsZip g4 z P O .ellipsis := w4 _ _ D.i2z.symm (w3.extBut _ _ D.TOz.symm (w2.extBut _ _ D.i1z.symm y1))
    have ez : e ≠ z := by
      rintro rfl
      rw [y4] at he
      cases he
      simp at ce
    exact wpAny_setField_rec y4 (by simp) fun g5 _ w5 => q g5 e (fun c o c1 c2 c3 c4 r => w5.extBut _ _ c1 (w4 _ _ c4 (w3.extBut _ _ c2 (w2.extBut _ _ c3 (w1.extBut _ _ c1 r))))) ⟨oe, w5.extBut _ _ ez he, ce⟩
theorem nextZTT_item {z P O i j l t : Addr} {k m : Nat} {xs us : Array Value} {x u a b : Value} {Q : Option Value → Shared → Prop} (D : ZipApart z P O i j l t) (y0 : IsZip s.heap z P O .none) (p0 : IsPair s.heap P (.ref i) (.ref j)) (o0 : IsPair s.heap O a b)
    (hi : s.heap.IsTupleIter i l k) (hj : s.heap.IsTupleIter j t m) (hl : s.heap.IsTuple l xs) (ht : s.heap.IsTuple t us) (hx : xs[k]? = some x) (hu : us[m]? = some u)
    (q : ∀ h', IsZip h' z P O (rawInt s.heap.objs.size) → IsPair h' O x u → h'.IsTupleIter i l (k + 1) → h'.IsTupleIter j t (m + 1) → IsPair h' s.heap.objs.size x u → h'.objs.size = s.heap.objs.size + 1 →
      (∀ c o, c ≠ z → c ≠ O → c ≠ i → c ≠ j → s.heap.get? c = some o → h'.get? c = some o) → Q (some (.ref s.heap.objs.size)) { s with heap := h' }) : wpAny (model prog w) A (pyNext (.ref z)) Q E s := by
  have ty : s.TypeIs (.ref z) "zip" := ⟨_, y0, rfl⟩
  unfold pyNext
  refine wpAny_bind (wpAny_attempt (wpAny_callSpecial?_slot (name := Str.ofString "__next__") ty F.slot_zip_next (wpAny_call_entry F.slot_zip_next ty F.entry_zip_next ?_ (F.args_zip_next_1 _))))
  exact zipTT_item D y0 p0 o0 hi hj hl ht hx hu fun h' b1 b2 b3 b4 b5 b6 b7 => wpAny_pure (q h' b1 b2 b3 b4 b5 b6 b7)
theorem nextZTT_end {z P O i j l t : Addr} {k m : Nat} {xs us : Array Value} {a b : Value} {Q : Option Value → Shared → Prop} (hh : A.handled = none) (D : ZipApart z P O i j l t) (y0 : IsZip s.heap z P O .none) (p0 : IsPair s.heap P (.ref i) (.ref j)) (o0 : IsPair s.heap O a b)
    (hi : s.heap.IsTupleIter i l k) (hj : s.heap.IsTupleIter j t m) (hl : s.heap.IsTuple l xs) (ht : s.heap.IsTuple t us) (hE : xs[k]? = none ∨ us[m]? = none)
    (q : ∀ h', (∀ c o, c ≠ z → c ≠ O → c ≠ i → c ≠ j → s.heap.get? c = some o → h'.get? c = some o) → Q none { s with heap := h' }) : wpAny (model prog w) A (pyNext (.ref z)) Q E s := by
  have ty : s.TypeIs (.ref z) "zip" := ⟨_, y0, rfl⟩
  unfold pyNext
  refine wpAny_bind (wpAny_attempt (wpAny_callSpecial?_slot (name := Str.ofString "__next__") ty F.slot_zip_next (wpAny_call_entry F.slot_zip_next ty F.entry_zip_next ?_ (F.args_zip_next_1 _))))
  refine zipTT_end hh D y0 p0 o0 hi hj hl ht hE fun h' e hk ⟨o, ho, co⟩ => ?_
  exact wpAny_bind (wpAny_isInstance (T := "StopIteration") (b := true) ⟨o, ho, co⟩ isSubtype_stop (wpAny_pure (q _ hk)))
end
/-- what zip(tuple, tuple) lays on the heap -/
def zHT (h : Heap) (l t : Addr) : Heap :=
  ((((h.push { cls := .type "tuple_iterator", data := .fields #[.ref l, .int 0 0] }).push { cls := .type "tuple_iterator", data := .fields #[.ref t, .int 0 0] }).push { cls := .type "tuple", data := .seq #[.ref h.objs.size, .ref (h.objs.size + 1)] }).push { cls := .type "tuple", data := .seq #[.none, .none] }).push { cls := .type "zip", data := .fields #[.none, .bool false, .bool false, .ref (h.objs.size + 2), .ref (h.objs.size + 3)] }
theorem zipTT_new (l t : Addr) (xs us : Array Value) :
    Meets (Builtin.«zip.__new__» ⟨[.type "zip", .ref l, .ref t], []⟩) (fun _ R s => s.heap.IsTuple l xs ∧ s.heap.IsTuple t us ∧ R (.ok (.ret (.ref (s.heap.objs.size + 4)))) { s with heap := zHT s.heap l t }) :=
  .of_wp fun prog w A R s h => by
    obtain ⟨hp, g, d, tk, os⟩ := s
    obtain ⟨hl, ht, h⟩ := h
    have hsub := sub_zip
    have f1 : Heap.IsTuple (Shared.heap ⟨hp, g, d, tk, os⟩) l xs := hl
    have f2 : Heap.IsTuple (Shared.heap ⟨hp.push { cls := .type "tuple_iterator", data := .fields #[.ref l, .int 0 0] }, g, d, tk, os⟩) t us := Heap.IsTuple.push ht _
    wp_walk using wpAny_pyIter_tuple f1, wpAny_pyIter_tuple f2
    refine ⟨_, rfl, ?_⟩
    have e : ∀ (h : Heap) (o : Obj), (h.push o).objs.size = h.objs.size + 1 := fun h o => Heap.size_push ..
    simp only [e]
    exact h
end L2

/-! ## zip of two lists or two tuples -/
namespace L2
open PySem PySem.Spec PyProof.Rows
/-- at turn i: a new pair of two tuples' i-th ones -/
def ItzTT (K : PySem.W.Frag) (a b : Addr) : It :=
  ⟨fun i H => ∃ xs ys x y, SqT K H a xs ∧ SqT K H b ys ∧ xs[i]? = some x ∧ ys[i]? = some y, fun i H v H' => ∃ T x y, H T = none ∧ v = .ref T ∧ H' = upd H T (.tup [x, y]) ∧ (∀ xs, SqT K H a xs → xs[i]? = some x) ∧ ∀ ys, SqT K H b ys → ys[i]? = some y,
   fun i H => ∃ xs ys, SqT K H a xs ∧ SqT K H b ys ∧ (xs.length ≤ i ∨ ys.length ≤ i)⟩
theorem turn_zipTT {P : Program} {w : World} {K : PySem.W.Frag} {elts : List Expr} {x1 : Nat} {pos : Pos} (a b z TI TO i1 i2 : Addr) (D : ZipApart z TI TO i1 i2 a b) :
    Turn P w K (.Tuple elts x1 pos) (ItzTT K a b) [z, TI, TO, i1, i2] z (fun i h => IsZip h z TI TO .none ∧ IsPair h TI (.ref i1) (.ref i2) ∧ (∃ c d, IsPair h TO c d) ∧ h.IsTupleIter i1 a i ∧ h.IsTupleIter i2 b i) where
  mem := by simp
  obj := fun i h st c hc => by
    obtain ⟨hz, hTI, ⟨u, v, hTO⟩, ⟨o1, e1, _, d1⟩, ⟨o2, e2, _, d2⟩⟩ := st
    have hc' : c = z ∨ c = TI ∨ c = TO ∨ c = i1 ∨ c = i2 := by simpa using hc
    rcases hc' with rfl | rfl | rfl | rfl | rfl
    · exact ⟨_, hz, fun v q => by
        have q' : Data.fields _ = Data.cell v := q
        cases q'⟩
    · exact ⟨_, hTI, fun v q => by
        have q' : Data.seq _ _ = Data.cell v := q
        cases q'⟩
    · exact ⟨_, hTO, fun v q => by
        have q' : Data.seq _ _ = Data.cell v := q
        cases q'⟩
    · exact ⟨o1, e1, fun v q => by rw [d1] at q; cases q⟩
    · exact ⟨o2, e2, fun v q => by rw [d2] at q; cases q⟩
  keep := fun i h h' st k => by
    obtain ⟨hz, hTI, ⟨u, v, hTO⟩, h1, h2⟩ := st
    exact ⟨k z (by simp) _ hz, k TI (by simp) _ hTI, ⟨u, v, k TO (by simp) _ hTO⟩, h1.at fun o e => k i1 (by simp) o e, h2.at fun o e => k i2 (by simp) o e⟩
  item := by
    intro X hP hw hK hc i pins s σ H E I hf st hg
    subst hP hw hK
    obtain ⟨xs, ys, x, y, hq, hq2, hx, hy⟩ := hg
    obtain ⟨hz, hTI, ⟨u0, v0, hTO⟩, h1, h2⟩ := st
    obtain ⟨its, rv, p, _⟩ := I.tuple hq
    obtain ⟨u, hu, ru⟩ := rv.get hx
    obtain ⟨its2, rv2, p2, _⟩ := I.tuple hq2
    obtain ⟨v, hv, rv'⟩ := rv2.get hy
    have fz := hf z (by simp)
    have fTO := hf TO (by simp)
    have fi1 := hf i1 (by simp)
    have fi2 := hf i2 (by simp)
    have hT0 : H s.heap.objs.size = none := I.hok.fresh (Nat.le_refl _)
    refine nextZTT_item D hz hTI hTO h1 h2 (show s.heap.IsTuple a its.toArray from p) (show s.heap.IsTuple b its2.toArray from p2) (x := u) (u := v) (by simpa using hu) (by simpa using hv) fun h' a1 a2 a3 a4 a5 hsz hk => ?_
    have ltT : ∀ b ob, s.heap.get? b = some ob → b ≠ s.heap.objs.size := fun b ob z => Nat.ne_of_lt (Heap.lt_size z)
    have ltH : ∀ b ob, H b = some ob → b ≠ s.heap.objs.size := fun b ob z => Nat.ne_of_lt (I.hok.lt z)
    have nof : ∀ c ob, H c = some ob → c ≠ z ∧ c ≠ TO ∧ c ≠ i1 ∧ c ≠ i2 := fun c ob q => ⟨fun e => (by rw [e, fz.1] at q; cases q), fun e => (by rw [e, fTO.1] at q; cases q), fun e => (by rw [e, fi1.1] at q; cases q), fun e => (by rw [e, fi2.1] at q; cases q)⟩
    have hkc : ∀ c o, c ∉ [z, TO, i1, i2] → s.heap.get? c = some o → h'.get? c = some o := fun c o hcx q => hk c o (fun e => hcx (by simp [e])) (fun e => hcx (by simp [e])) (fun e => hcx (by simp [e])) (fun e => hcx (by simp [e])) q
    have I1 : Inv X pins σ (upd H s.heap.objs.size (.tup [x, y])) { s with heap := h' } := by
      refine I.step (g' := s.gens) (d' := s.drawn) (t' := s.toks) (ch := [z, TO, i1, i2]) (fun c hb => ?_) (fun c o _ _ hcx q _ => hkc c o hcx q) (fun c o _ _ hcx q _ => ⟨o.slots, hkc c o hcx q⟩)
        (fun c o _ q n => by rw [upd_ne (ltT c o q)]; exact n) (fun c o hcx q => ⟨o, hkc c o hcx q⟩) (fun c ys q => by rw [upd_ne (ltH c _ q)]; exact q) (fun c o v q => by rw [upd_ne (ltH c _ q)]; exact q)
        (fun c ps q => ⟨#[], by rw [upd_ne (ltH c _ q), q]; simp⟩) (fun m hm => ?_) (fun c v' q => ?_) I.bare
      · have hc' : c = z ∨ c = TO ∨ c = i1 ∨ c = i2 := by simpa using hb
        rcases hc' with rfl | rfl | rfl | rfl
        · exact ⟨fz.2.2.2.1, fz.2.1, fz.2.2.2.2.1, fz.2.2.2.2.2⟩
        · exact ⟨fTO.2.2.2.1, fTO.2.1, fTO.2.2.2.2.1, fTO.2.2.2.2.2⟩
        · exact ⟨fi1.2.2.2.1, fi1.2.1, fi1.2.2.2.2.1, fi1.2.2.2.2.2⟩
        · exact ⟨fi2.2.2.2.1, fi2.2.1, fi2.2.2.2.2.1, fi2.2.2.2.2.2⟩
      · obtain ⟨o, es, ep, ho', r⟩ := hm
        exact ⟨o, es, ep, hk _ o (Ne.symm fz.2.1) (Ne.symm fTO.2.1) (Ne.symm fi1.2.1) (Ne.symm fi2.2.1) ho', r⟩
      · by_cases hb : c = s.heap.objs.size
        · subst hb
          rw [upd_same] at q
          cases q
          exact ⟨by show 2 ≤ sizeLine; decide, [u, v], .cons ru (.cons rv' .nil), ⟨_, a5, rfl, _, rfl⟩⟩
        · rw [upd_ne hb] at q
          refine (I.hok c v' q).stay (fun e w' hc' q' => ?_) (fun e q => by rw [upd_ne (ltH e _ q)]; exact q) fun e ys q => by rw [upd_ne (ltH e _ q)]; exact q
          rcases hc' with rfl | hc'
          · have := nof e _ q
            exact hk e w' this.1 this.2.1 this.2.2.1 this.2.2.2 q'
          · have := nof e _ hc'
            exact hk e w' this.1 this.2.1 this.2.2.1 this.2.2.2 q'
    refine ⟨_, rfl, wpAny_letOwnedTupleGo_zip a1 fun h2 hz2 hs2 => ?_⟩
    have fT : z ≠ s.heap.objs.size := ltT z _ hz
    have I2 : Inv X pins σ (upd H s.heap.objs.size (.tup [x, y])) { s with heap := h2 } := Inv.turned (s := { s with heap := h' }) (h' := h2) (t' := s.toks) (it := z) I1 (fun b o hb q => hs2.extBut b o hb q) (by rw [upd_ne fT]; exact fz.1) fz.2.1 fz.2.2.2.1 fz.2.2.2.2.1 fz.2.2.2.2.2
    refine ⟨.ref s.heap.objs.size, _, I2, rfl, ⟨_, x, y, hT0, rfl, rfl, fun ys hy' => by rw [I.tuple_inj hy' hq]; exact hx, fun ys hy' => by rw [I.tuple_inj hy' hq2]; exact hy⟩,
      ⟨hz2, hs2.extBut _ _ D.TIz (hkc _ _ (by have := D.TIz; have := D.TITO; have := D.TIi1; have := D.TIi2; simp; exact ⟨D.TIz, D.TITO, D.TIi1, D.TIi2⟩) hTI), ⟨u, v, hs2.extBut _ _ D.TOz a2⟩, a3.at fun o q => hs2.extBut i1 o D.i1z q, a4.at fun o q => hs2.extBut i2 o D.i2z q⟩, fun c hc => ?_⟩
    have hc' : c = z ∨ c = TI ∨ c = TO ∨ c = i1 ∨ c = i2 := by simpa using hc
    have hn := (hf c hc).1
    rcases hc' with rfl | rfl | rfl | rfl | rfl
    · rw [upd_ne fT]; exact hn
    · rw [upd_ne (ltT _ _ hTI)]; exact hn
    · rw [upd_ne (ltT _ _ hTO)]; exact hn
    · obtain ⟨o, eo, _⟩ := h1
      rw [upd_ne (ltT _ o eo)]; exact hn
    · obtain ⟨o, eo, _⟩ := h2
      rw [upd_ne (ltT _ o eo)]; exact hn
  done := by
    intro X hP hw hK hc i pins s σ H E I hf st hg
    subst hP hw hK
    obtain ⟨xs, ys, hq, hq2, hend⟩ := hg
    obtain ⟨hz, hTI, ⟨u0, v0, hTO⟩, h1, h2⟩ := st
    obtain ⟨its, rv, p, _⟩ := I.tuple hq
    obtain ⟨its2, rv2, p2, _⟩ := I.tuple hq2
    have l1 := rv.length
    have l2 := rv2.length
    have fz := hf z (by simp)
    have fTO := hf TO (by simp)
    have fi1 := hf i1 (by simp)
    have fi2 := hf i2 (by simp)
    refine nextZTT_end (I.ok.hd hc) D hz hTI hTO h1 h2 (show s.heap.IsTuple a its.toArray from p) (show s.heap.IsTuple b its2.toArray from p2) (by
      rcases hend with e | e
      · exact .inl (by simp; omega)
      · exact .inr (by simp; omega)) fun h' hk => ⟨rfl, ?_⟩
    have hkc : ∀ c o, c ∉ [z, TO, i1, i2] → s.heap.get? c = some o → h'.get? c = some o := fun c o hcx q => hk c o (fun e => hcx (by simp [e])) (fun e => hcx (by simp [e])) (fun e => hcx (by simp [e])) (fun e => hcx (by simp [e])) q
    have nof : ∀ c ob, H c = some ob → c ≠ z ∧ c ≠ TO ∧ c ≠ i1 ∧ c ≠ i2 := fun c ob q => ⟨fun e => (by rw [e, fz.1] at q; cases q), fun e => (by rw [e, fTO.1] at q; cases q), fun e => (by rw [e, fi1.1] at q; cases q), fun e => (by rw [e, fi2.1] at q; cases q)⟩
    refine I.step (g' := s.gens) (d' := s.drawn) (t' := s.toks) (ch := [z, TO, i1, i2]) (fun c hb => ?_) (fun c o _ _ hcx q _ => hkc c o hcx q) (fun c o _ _ hcx q _ => ⟨o.slots, hkc c o hcx q⟩)
      (fun c o _ q n => n) (fun c o hcx q => ⟨o, hkc c o hcx q⟩) (fun c ys q => q) (fun c o v q => q)
      (fun c ps q => ⟨#[], by rw [q]; simp⟩) (fun m hm => ?_) (fun c v' q => ?_) I.bare
    · have hc' : c = z ∨ c = TO ∨ c = i1 ∨ c = i2 := by simpa using hb
      rcases hc' with rfl | rfl | rfl | rfl
      · exact ⟨fz.2.2.2.1, fz.2.1, fz.2.2.2.2.1, fz.2.2.2.2.2⟩
      · exact ⟨fTO.2.2.2.1, fTO.2.1, fTO.2.2.2.2.1, fTO.2.2.2.2.2⟩
      · exact ⟨fi1.2.2.2.1, fi1.2.1, fi1.2.2.2.2.1, fi1.2.2.2.2.2⟩
      · exact ⟨fi2.2.2.2.1, fi2.2.1, fi2.2.2.2.2.1, fi2.2.2.2.2.2⟩
    · obtain ⟨o, es, ep, ho', r⟩ := hm
      exact ⟨o, es, ep, hk _ o (Ne.symm fz.2.1) (Ne.symm fTO.2.1) (Ne.symm fi1.2.1) (Ne.symm fi2.2.1) ho', r⟩
    · refine (I.hok c v' q).stay (fun e w' hc' q' => ?_) (fun e q => q) fun e ys q => q
      rcases hc' with rfl | hc'
      · have := nof e _ q
        exact hk e w' this.1 this.2.1 this.2.2.1 this.2.2.2 q'
      · have := nof e _ hc'
        exact hk e w' this.1 this.2.1 this.2.2.1 this.2.2.2 q'
  self := fun _ _ _ _ _ st h => wpAny_pyIter_zip st.1 h
/-- at turn i: a new pair of the i-th ones of two lists, or of two tuples -/
def ItzB (K : PySem.W.Frag) (kd : Bool) (a b : Addr) : It := match kd with
  | false => Itz K a b
  | true => ItzTT K a b
def iZipB (K : PySem.W.Frag) (ta : TA) : TI := fun σ H R => ta σ H fun vs H1 => ∃ a b kd, vs = [.ref a, .ref b] ∧ (∃ xs ys, My.SqK kd K H1 a xs ∧ My.SqK kd K H1 b ys) ∧ R (ItzB K kd a b) H1
section
variable {prog : Program} {w : World} {A : Around} {E : Value → Shared → Prop} {s : Shared}
theorem call_zipTT {l t : Addr} {xs us : Array Value} {Q : Value → Shared → Prop} (hl : s.heap.IsTuple l xs) (ht : s.heap.IsTuple t us)
    (q : ∀ h', IsZip h' (s.heap.objs.size + 4) (s.heap.objs.size + 2) (s.heap.objs.size + 3) .none → IsPair h' (s.heap.objs.size + 2) (.ref s.heap.objs.size) (.ref (s.heap.objs.size + 1)) → IsPair h' (s.heap.objs.size + 3) .none .none →
      h'.IsTupleIter s.heap.objs.size l 0 → h'.IsTupleIter (s.heap.objs.size + 1) t 0 → (∀ c o, s.heap.get? c = some o → h'.get? c = some o) → Q (.ref (s.heap.objs.size + 4)) { s with heap := h' }) :
    wpAny (model prog w) A (call (.type "zip") [.ref l, .ref t]) Q E s := by
  refine callType_new F.called_zip (by decide) (F.typeCall_zip_2 _ _) (F.newCall_zip_2 _ _) (fun o => F.args_object_init_3 o _ _) F.entry_zip_new (zipTT_new l t xs us) ⟨hl, ht, ?_⟩
  obtain ⟨h, eh⟩ : ∃ h, h = s.heap := ⟨_, rfl⟩
  rw [← eh] at q ⊢
  have at' : ∀ (g : Heap) (o : Obj) (n : Nat), g.objs.size = n → o.isFreed = false → (g.push o).get? n = some o := fun g o n e ho => by
    subst e
    exact Heap.get?_push_size _ ho
  have sz : ∀ (g : Heap) (o : Obj) (n : Nat), g.objs.size = n → (g.push o).objs.size = n + 1 := fun g o n e => by rw [Heap.size_push, e]
  have up : ∀ (g : Heap) (o o' : Obj) (c : Addr), g.get? c = some o → (g.push o').get? c = some o := fun g o o' c e => Heap.get?_push_of_some _ e
  have g0 : (zHT h l t).get? h.objs.size = some { cls := .type "tuple_iterator", data := .fields #[.ref l, .int 0 0] } := up _ _ _ _ (up _ _ _ _ (up _ _ _ _ (up _ _ _ _ (at' _ _ _ rfl rfl))))
  have g1 : (zHT h l t).get? (h.objs.size + 1) = some { cls := .type "tuple_iterator", data := .fields #[.ref t, .int 0 0] } := up _ _ _ _ (up _ _ _ _ (up _ _ _ _ (at' _ _ _ (sz _ _ _ rfl) rfl)))
  have g2 : IsPair (zHT h l t) (h.objs.size + 2) (.ref h.objs.size) (.ref (h.objs.size + 1)) := up _ _ _ _ (up _ _ _ _ (at' _ _ _ (sz _ _ _ (sz _ _ _ rfl)) rfl))
  have g3 : IsPair (zHT h l t) (h.objs.size + 3) .none .none := up _ _ _ _ (at' _ _ _ (sz _ _ _ (sz _ _ _ (sz _ _ _ rfl))) rfl)
  have g4 : IsZip (zHT h l t) (h.objs.size + 4) (h.objs.size + 2) (h.objs.size + 3) .none := at' _ _ _ (sz _ _ _ (sz _ _ _ (sz _ _ _ (sz _ _ _ rfl)))) rfl
  exact ⟨⟨_, g4, rfl⟩, q _ g4 g2 g3 ⟨_, g0, rfl, rfl⟩ ⟨_, g1, rfl, rfl⟩ fun c o e => up _ _ _ _ (up _ _ _ _ (up _ _ _ _ (up _ _ _ _ (up _ _ _ _ e))))⟩
end
section
variable {X : Cx}
theorem pi_zipB (K : PySem.W.Frag) {elts : List Expr} {x1 : Nat} {tpos : Pos} {e f : Expr} {ta : TA} {p pos : Pos} (hg : Gl X "zip") (hm : X.mg "zip" = none) (ha : PA X [e, f] ta) (hs : starEach [e, f] X.env = (false, eval e X.env) :: starEach [f] X.env := by rfl) (hpl : (backTo pos (starEach [f] X.env)).any (·.1) = false := by rfl) (hk : X.K = K := by rfl) :
    PI X (.Tuple elts x1 tpos) (.Call (.Name "zip" p) [e, f] [] pos) (iZipB K ta) := by
  subst hk
  intro pins s σ H R I h
  refine Call_ (ld_blt I hg hm Boot.«zip» (PyProof.Rows.callWith_type1 (thn (ha pos pins s σ H _ I h) fun us s1 ⟨vs, H1, I1, r1, q1⟩ => ?_) hs hpl))
  obtain ⟨a, b, kd, ev, ⟨xs, ys, hq, hq2⟩, q⟩ := q1
  subst ev
  obtain ⟨u, u', rfl, ru, ru'⟩ := vals2 r1
  obtain rfl : u = Value.ref a := ru
  obtain rfl : u' = Value.ref b := ru'
  have key : ∀ n x y : Nat, x < n → y < n → ZipApart (n + 4) (n + 2) (n + 3) n (n + 1) x y := fun n x y h1 h2 => by constructor <;> (intro q; have q' : (_ : Nat) = _ := q; omega)
  have hfr : ∀ c ∈ [s1.heap.objs.size + 4, s1.heap.objs.size + 2, s1.heap.objs.size + 3, s1.heap.objs.size, s1.heap.objs.size + 1], s1.heap.objs.size ≤ c := fun c hc => by
    have hc' : c = s1.heap.objs.size + 4 ∨ c = s1.heap.objs.size + 2 ∨ c = s1.heap.objs.size + 3 ∨ c = s1.heap.objs.size ∨ c = s1.heap.objs.size + 1 := by simpa using hc
    rcases hc' with e | e | e | e | e <;> rw [e] <;> first | exact Nat.le_refl _ | exact Nat.le_add_right _ _
  cases kd with
  | false =>
    obtain ⟨its, rv, pl, _⟩ := I1.list hq
    have lt1 : a < s1.heap.objs.size := let ⟨_, _, e, _⟩ := pl; Heap.lt_size e
    obtain ⟨its2, rv2, pl2, _⟩ := I1.list hq2
    have lt2 : b < s1.heap.objs.size := let ⟨_, _, e, _⟩ := pl2; Heap.lt_size e
    have D := key _ _ _ lt1 lt2
    refine call_zip_2 pl.isList pl2.isList fun h' hz hTI hTO hi1 hi2 hsz hk => ?_
    refine wpAny_pyIter_zip (s := { s1 with heap := h' }) hz ?_
    exact ⟨s1.heap.objs.size + 4, [s1.heap.objs.size + 4, s1.heap.objs.size + 2, s1.heap.objs.size + 3, s1.heap.objs.size, s1.heap.objs.size + 1], _, _, H1, rfl, I1.kept (t' := s1.toks) hk, turn_zip a b _ _ _ _ _ D, ⟨hz, hTI, ⟨_, _, hTO⟩, hi1, hi2⟩, fun c hc => I1.fpOk (hfr c hc) (I1.hok.fresh (hfr c hc)), q⟩
  | true =>
    obtain ⟨its, rv, pl, _⟩ := I1.tuple hq
    have pA : s1.heap.IsTuple a its.toArray := pl
    have lt1 : a < s1.heap.objs.size := let ⟨_, e, _⟩ := pA; Heap.lt_size e
    obtain ⟨its2, rv2, pl2, _⟩ := I1.tuple hq2
    have pT : s1.heap.IsTuple b its2.toArray := pl2
    have lt2 : b < s1.heap.objs.size := let ⟨_, e, _⟩ := pT; Heap.lt_size e
    have D := key _ _ _ lt1 lt2
    refine call_zipTT pA pT fun h' hz hTI hTO hi1 hi2 hk => ?_
    refine wpAny_pyIter_zip (s := { s1 with heap := h' }) hz ?_
    exact ⟨s1.heap.objs.size + 4, [s1.heap.objs.size + 4, s1.heap.objs.size + 2, s1.heap.objs.size + 3, s1.heap.objs.size, s1.heap.objs.size + 1], _, _, H1, rfl, I1.kept (t' := s1.toks) hk, turn_zipTT a b _ _ _ _ _ D, ⟨hz, hTI, ⟨_, _, hTO⟩, hi1, hi2⟩, fun c hc => I1.fpOk (hfr c hc) (I1.hok.fresh (hfr c hc)), q⟩
end
end L2
namespace My
open PySem L2
theorem ItzB.go {K : PySem.W.Frag} {kd : Bool} {a b : Addr} {i : Nat} {H : Hp} {xs ys : List V} {x y : V} (h1 : SqK kd K H a xs) (h2 : SqK kd K H b ys) (hx : xs[i]? = some x) (hy : ys[i]? = some y) : (ItzB K kd a b).go i H := by
  cases kd <;> exact ⟨xs, ys, x, y, h1, h2, hx, hy⟩
theorem ItzB.stop {K : PySem.W.Frag} {kd : Bool} {a b : Addr} {i : Nat} {H : Hp} {xs ys : List V} (h1 : SqK kd K H a xs) (h2 : SqK kd K H b ys) (h : xs.length ≤ i) : (ItzB K kd a b).stop i H := by
  cases kd <;> exact ⟨xs, ys, h1, h2, .inl h⟩
theorem ItzB.yld {K : PySem.W.Frag} {kd : Bool} {a b : Addr} {i : Nat} {H H' : Hp} {v : V} {xs ys : List V} (h1 : SqK kd K H a xs) (h2 : SqK kd K H b ys) (h : (ItzB K kd a b).yld i H v H') : ∃ T x y, H T = none ∧ v = .ref T ∧ H' = upd H T (.tup [x, y]) ∧ xs[i]? = some x ∧ ys[i]? = some y := by
  cases kd with
  | false =>
    obtain ⟨T, x, y, a1, a2, a3, a4, a5⟩ := h
    exact ⟨T, x, y, a1, a2, a3, a4 _ h1, a5 _ h2⟩
  | true =>
    obtain ⟨T, x, y, a1, a2, a3, a4, a5⟩ := h
    exact ⟨T, x, y, a1, a2, a3, a4 _ h1, a5 _ h2⟩
section
variable {K : PySem.W.Frag} {kd : Bool} {a b : Addr} {xs ys : List V} {g : TG} {tt : TT} {te : TE} {o : Nat} {fr : List Nat} {σ : St} {H : Hp} {Q : VK}
/-- a list out of two lists or two tuples -/
theorem lc_zipB (Pv : Nat → List V → Hp → Prop) (h0 : Pv 0 [] H) (hxy : xs.length = ys.length) (hz : xs.length < sizeLine) (hl : ∀ i zs H, i ≤ xs.length → Pv i zs H → SqK kd K H a xs ∧ SqK kd K H b ys ∧ zs.length ≤ i)
    (hs : ∀ (i : Nat) x y zs H (p : Addr), H p = none → xs[i]? = some x → ys[i]? = some y → Pv i zs H → LcTurn Pv g tt te o fr σ i (.ref p) zs (upd H p (.tup [x, y]))) (hd : ∀ zs H, Pv xs.length zs H → ∀ p, H p = none → Q (.ref p) (upd H p (.lst zs))) : LcR (ItzB K kd a b) g tt te o fr σ H Q := by
  refine ⟨fun i m zs H => m = xs.length - i ∧ i ≤ xs.length ∧ Pv i zs H, ⟨xs.length, by simp, Nat.zero_le _, h0⟩, ?_⟩
  rintro i m zs H ⟨rfl, hi, p⟩
  obtain ⟨q, q2, hy⟩ := hl i zs H hi p
  by_cases hlt : i < xs.length
  · refine .inr ⟨ItzB.go q q2 (List.getElem?_eq_getElem hlt) (List.getElem?_eq_getElem (by omega)), by omega, fun x H' hyl => ?_⟩
    obtain ⟨T, u, v, hT, ex, eH, hu, hv⟩ := ItzB.yld q q2 hyl
    subst ex eH
    exact hs i u v zs H T hT hu hv p (fun j zs H => ∃ m', m' < xs.length - i ∧ m' = xs.length - j ∧ j ≤ xs.length ∧ Pv j zs H) fun zs H p' => ⟨xs.length - (i + 1), by omega, rfl, hlt, p'⟩
  · have e : i = xs.length := by omega
    subst e
    exact .inl ⟨ItzB.stop q q2 (Nat.le_refl _), by omega, hd zs H p⟩
end
end My

/-! ## a list out of zip(list, list or tuple) -/
namespace My
open PySem L2
section
variable {K : PySem.W.Frag} {kd : Bool} {a b : Addr} {xs ys : List V} {g : TG} {tt : TT} {te : TE} {o : Nat} {fr : List Nat} {σ : St} {H : Hp} {Q : VK}
theorem lc_zipK (Pv : Nat → List V → Hp → Prop) (h0 : Pv 0 [] H) (hxy : xs.length = ys.length) (hz : xs.length < sizeLine) (hl : ∀ i zs H, i ≤ xs.length → Pv i zs H → SqL K H a xs ∧ SqK kd K H b ys ∧ zs.length ≤ i)
    (hs : ∀ (i : Nat) x y zs H (p : Addr), H p = none → xs[i]? = some x → ys[i]? = some y → Pv i zs H → LcTurn Pv g tt te o fr σ i (.ref p) zs (upd H p (.tup [x, y]))) (hd : ∀ zs H, Pv xs.length zs H → ∀ p, H p = none → Q (.ref p) (upd H p (.lst zs))) : LcR (ItzK K kd a b) g tt te o fr σ H Q := by
  refine ⟨fun i m zs H => m = xs.length - i ∧ i ≤ xs.length ∧ Pv i zs H, ⟨xs.length, by simp, Nat.zero_le _, h0⟩, ?_⟩
  rintro i m zs H ⟨rfl, hi, p⟩
  obtain ⟨q, q2, hy⟩ := hl i zs H hi p
  by_cases hlt : i < xs.length
  · refine .inr ⟨ItzK.go q q2 (List.getElem?_eq_getElem hlt) (List.getElem?_eq_getElem (by omega)), by omega, fun x H' hyl => ?_⟩
    obtain ⟨T, u, v, hT, ex, eH, hu, hv⟩ := ItzK.yld q q2 hyl
    subst ex eH
    exact hs i u v zs H T hT hu hv p (fun j zs H => ∃ m', m' < xs.length - i ∧ m' = xs.length - j ∧ j ≤ xs.length ∧ Pv j zs H) fun zs H p' => ⟨xs.length - (i + 1), by omega, rfl, hlt, p'⟩
  · have e : i = xs.length := by omega
    subst e
    exact .inl ⟨ItzK.stop q q2 (Nat.le_refl _), by omega, hd zs H p⟩
end
end My

/-! ## for i, x in enumerate(tuple), and of a list or a tuple -/
namespace L2
open PySem PySem.Spec PyProof.Rows
section
variable {prog : Program} {w : World} {A : Around} {E : Value → Shared → Prop} {s : Shared}
end
section
variable {X : Cx}
end
end L2

namespace My
open PySem L2
def top (i : Nat) : Stmt := PySem.Challenge.pw_spanrow_k18_tables_solved.main.body.getD i (.Pass ⟨0, 0, 0, 0⟩)
abbrev s_refuse_not_square : Stmt := top 5
abbrev s_row_taken_off : Stmt := top 6
abbrev s_first_with_some : Stmt := top 7
abbrev s_determinant : Stmt := top 8
abbrev s_common_divisor : Stmt := top 9
abbrev s_fraction : Stmt := top 10
abbrev s_with_column : Stmt := top 11
abbrev s_solved : Stmt := top 12
abbrev s_law_at : Stmt := top 14
abbrev s_law_mixed : Stmt := top 15
abbrev s_law_whole : Stmt := top 16
abbrev s_law_numbers : Stmt := top 17
abbrev s_law_common : Stmt := top 18
abbrev s_law_told : Stmt := top 19
abbrev s_law_good : Stmt := top 20
abbrev s_law : Stmt := top 21
structure Adr where
  a_refuse_not_square : Addr
  d_refuse_not_square : FuncData
  a_row_taken_off : Addr
  d_row_taken_off : FuncData
  a_first_with_some : Addr
  d_first_with_some : FuncData
  a_determinant : Addr
  d_determinant : FuncData
  a_common_divisor : Addr
  d_common_divisor : FuncData
  a_fraction : Addr
  d_fraction : FuncData
  a_with_column : Addr
  d_with_column : FuncData
  a_solved : Addr
  d_solved : FuncData
  a_law_at : Addr
  d_law_at : FuncData
  a_law_mixed : Addr
  d_law_mixed : FuncData
  a_law_whole : Addr
  d_law_whole : FuncData
  a_law_numbers : Addr
  d_law_numbers : FuncData
  a_law_common : Addr
  d_law_common : FuncData
  a_law_told : Addr
  d_law_told : FuncData
  a_law_good : Addr
  d_law_good : FuncData
  a_law : Addr
  d_law : FuncData
  A_WebError : Addr
  A_NotSquare : Addr
  A_Singular : Addr
structure Txt (K : PySem.W.Frag) (mg : Str → Option Value) (t : Adr) : Prop where
  f_refuse_not_square : Fun K "refuse_not_square" "refuse_not_square" s_refuse_not_square t.a_refuse_not_square t.d_refuse_not_square
  b_refuse_not_square : Binds K t.d_refuse_not_square ["table"] []
  m_refuse_not_square : mg "refuse_not_square" = some (.ref t.a_refuse_not_square)
  f_row_taken_off : Fun K "row_taken_off" "row_taken_off" s_row_taken_off t.a_row_taken_off t.d_row_taken_off
  b_row_taken_off : Binds K t.d_row_taken_off ["row", "pivot", "last"] []
  m_row_taken_off : mg "row_taken_off" = some (.ref t.a_row_taken_off)
  f_first_with_some : Fun K "first_with_some" "first_with_some" s_first_with_some t.a_first_with_some t.d_first_with_some
  b_first_with_some : Binds K t.d_first_with_some ["rows"] []
  m_first_with_some : mg "first_with_some" = some (.ref t.a_first_with_some)
  f_determinant : Fun K "determinant" "determinant" s_determinant t.a_determinant t.d_determinant
  b_determinant : Binds K t.d_determinant ["table"] []
  m_determinant : mg "determinant" = some (.ref t.a_determinant)
  f_common_divisor : Fun K "common_divisor" "common_divisor" s_common_divisor t.a_common_divisor t.d_common_divisor
  b_common_divisor : Binds K t.d_common_divisor ["one", "other"] []
  m_common_divisor : mg "common_divisor" = some (.ref t.a_common_divisor)
  f_fraction : Fun K "fraction" "fraction" s_fraction t.a_fraction t.d_fraction
  b_fraction : Binds K t.d_fraction ["top", "bottom"] []
  m_fraction : mg "fraction" = some (.ref t.a_fraction)
  f_with_column : Fun K "with_column" "with_column" s_with_column t.a_with_column t.d_with_column
  b_with_column : Binds K t.d_with_column ["table", "column", "right"] []
  m_with_column : mg "with_column" = some (.ref t.a_with_column)
  f_solved : Fun K "solved" "solved" s_solved t.a_solved t.d_solved
  b_solved : Binds K t.d_solved ["table", "right"] []
  m_solved : mg "solved" = some (.ref t.a_solved)
  f_law_at : Fun K "_law_at" "_law_at" s_law_at t.a_law_at t.d_law_at
  b_law_at : Binds K t.d_law_at ["script", "k"] []
  m_law_at : mg "_law_at" = some (.ref t.a_law_at)
  f_law_mixed : Fun K "_law_mixed" "_law_mixed" s_law_mixed t.a_law_mixed t.d_law_mixed
  b_law_mixed : Binds K t.d_law_mixed ["cell", "k"] []
  m_law_mixed : mg "_law_mixed" = some (.ref t.a_law_mixed)
  f_law_whole : Fun K "_law_whole" "_law_whole" s_law_whole t.a_law_whole t.d_law_whole
  b_law_whole : Binds K t.d_law_whole ["found"] []
  m_law_whole : mg "_law_whole" = some (.ref t.a_law_whole)
  f_law_numbers : Fun K "_law_numbers" "_law_numbers" s_law_numbers t.a_law_numbers t.d_law_numbers
  b_law_numbers : Binds K t.d_law_numbers ["script", "amount", "start"] []
  m_law_numbers : mg "_law_numbers" = some (.ref t.a_law_numbers)
  f_law_common : Fun K "_law_common" "_law_common" s_law_common t.a_law_common t.d_law_common
  b_law_common : Binds K t.d_law_common ["one", "other"] []
  m_law_common : mg "_law_common" = some (.ref t.a_law_common)
  f_law_told : Fun K "_law_told" "_law_told" s_law_told t.a_law_told t.d_law_told
  b_law_told : Binds K t.d_law_told ["table", "right"] []
  m_law_told : mg "_law_told" = some (.ref t.a_law_told)
  f_law_good : Fun K "_law_good" "_law_good" s_law_good t.a_law_good t.d_law_good
  b_law_good : Binds K t.d_law_good ["found", "table", "right"] []
  m_law_good : mg "_law_good" = some (.ref t.a_law_good)
  f_law : Fun K "law" "law" s_law t.a_law t.d_law
  b_law : Binds K t.d_law ["script"] []
  m_law : mg "law" = some (.ref t.a_law)
  c_WebError : mg "WebError" = some (.ref t.A_WebError)
  c_NotSquare : mg "NotSquare" = some (.ref t.A_NotSquare)
  c_Singular : mg "Singular" = some (.ref t.A_Singular)
  x_NotSquare : XCls K (t.A_NotSquare)
  x_Singular : XCls K (t.A_Singular)
  ki_NotSquare_ValueError : PySem.W.kitOne K (.ref (t.A_NotSquare)) (.type "ValueError") = some true
  ki_NotSquare_Singular : PySem.W.kitOne K (.ref (t.A_NotSquare)) (.ref (t.A_Singular)) = some false
  em_NotSquare : PySem.W.exmOne K (.ref (t.A_NotSquare)) (.ref (t.A_WebError)) = some true
  ki_Singular_ValueError : PySem.W.kitOne K (.ref (t.A_Singular)) (.type "ValueError") = some true
  ki_Singular_NotSquare : PySem.W.kitOne K (.ref (t.A_Singular)) (.ref (t.A_NotSquare)) = some false
  em_Singular : PySem.W.exmOne K (.ref (t.A_Singular)) (.ref (t.A_WebError)) = some true
  n_ValueError : mg "ValueError" = none
  n_abs : mg "abs" = none
  n_bool : mg "bool" = none
  n_enumerate : mg "enumerate" = none
  n_int : mg "int" = none
  n_isinstance : mg "isinstance" = none
  n_len : mg "len" = none
  n_list : mg "list" = none
  n_range : mg "range" = none
  n_sum : mg "sum" = none
  n_tuple : mg "tuple" = none
  n_zip : mg "zip" = none
end My
namespace My
open PySem L2 PyProof.Rows
set_option maxHeartbeats 4000000
def sp_refuse_not_square (K : PySem.W.Frag) (N : Addr) : Sp := fun vs H Q E => ∃ (a : Addr) (kd : Bool) (xs : List V) (L : List (List Int)), vs = [.ref a] ∧ SqK kd K H a xs ∧ Bears (RowV K H) xs L ∧
  ((∀ l ∈ L, l.length = L.length) → Q .non H) ∧ (¬ (∀ l ∈ L, l.length = L.length) → E (.ref N) none H)
section
variable {P : Program} {w : World} {K : PySem.W.Frag} {mg : Str → Option Value} {base : Heap} {t : Adr}
theorem sc_refuse_not_square : FnScope ["table", "row"] ["table"] (defScope s_refuse_not_square) := ⟨rfl, rfl, rfl, by decide +kernel, rfl, by decide +kernel, by decide +kernel⟩
theorem ok_refuse_not_square (T : Txt K mg t) : FnOk P w K mg base (CXW P w) 1 t.a_refuse_not_square t.d_refuse_not_square ["table"] (sp_refuse_not_square K t.A_NotSquare) := by
  refine T.f_refuse_not_square.okX sc_refuse_not_square (fun vs H Q E h => ?_) (fun cdv A outer s H vs Q E hr h => ?_)
  · obtain ⟨a, kd, xs, L, rfl, _⟩ := h
    rfl
  · obtain ⟨a, kd, xs, L, rfl, hS, hB, q, qe⟩ := h
    refine ⟨_, (pss_one (ps_for PassesOwn.leaving rfl (pi_seqK K (pv 0)) (pg_name (i := 1) sc_refuse_not_square.nd rfl (Or.inl rfl))
      (pss_one (ps_if (pt_cmpR op_ne (pe_callB (call_lenK K) (by rfl) T.n_len Boot.«len» (pa_cons (pv 1) pa_nil)) (pe_callB (call_lenK K) (by rfl) T.n_len Boot.«len» (pa_cons (pv 0) pa_nil)) (nomark _))
      (pss_one (ps_raise T.x_NotSquare T.c_NotSquare (pa_cons pe_str pa_nil)))
      pss_nil)))), ?_⟩
    have hxl := hB.1
    refine ⟨_, rfl, a, rfl, for_seq (K := K) (k := kd) (a := a) (xs := xs) (fun i σ H2 => ∃ v1, σ = [some (.ref a), v1] ∧ H2 = H ∧ ∀ l ∈ L.take i, l.length = L.length) ⟨none, rfl, rfl, fun l h => (by cases h)⟩ (fun i σ H2 _ ⟨_, _, e, _⟩ => e ▸ hS) ?_ ?_⟩
    · rintro i v σ H2 hi ⟨v1, rfl, rfl, hall⟩
      obtain ⟨l, hl, r, k, rfl, hr⟩ := hB.at hi
      refine nm ?_
      refine ⟨_, rfl, r, _, rfl, hr.or, _, rfl, a, xs, rfl, hS.or, rfl, _, rfl, ?_⟩
      rw [il_length, dec_int]
      refine itn2 (fun e => ?_) (fun e => ?_)
      · refine ⟨_, rfl, rfl, fun m hm => ?_⟩
        rw [List.take_succ, hl] at hm
        rcases List.mem_append.mp hm with h | h
        · exact hall m h
        · have hm' : m = l := by simpa using h
          rw [hm']
          omega
      · exact ⟨by show 1 ≤ sizeLine; decide, qe fun h => e (by rw [h l (List.mem_of_getElem? hl), hxl])⟩
    · rintro σ H2 ⟨v1, rfl, rfl, hall⟩
      rw [hxl, List.take_length] at hall
      exact q hall
end
end My
namespace My
open PySem L2 PyProof.Rows
set_option maxHeartbeats 4000000
/-- a row once the pivot is taken off -/
def sp_row_taken_off (K : PySem.W.Frag) : Sp := fun vs H Q _ => ∃ (r p : Addr) (x y last : Int) (l q : List Int), vs = [.ref r, .ref p, .int last] ∧ SqL K H r (IL (x :: l)) ∧ SqL K H p (IL (y :: q)) ∧ l.length = q.length ∧ l.length ≤ 1000 ∧ last ≠ 0 ∧ last.natAbs < 2 ^ 9000 ∧
  (∀ z ∈ x :: l, z.natAbs < 2 ^ 9000) ∧ (∀ z ∈ y :: q, z.natAbs < 2 ^ 9000) ∧ ∀ (c : Addr) (H' : Hp), Same H H' → H c = none → H' c = some (.lst (IL (tkn y q last (x :: l)))) → Q (.ref c) H'
section
variable {P : Program} {w : World} {K : PySem.W.Frag} {mg : Str → Option Value} {base : Heap} {t : Adr}
theorem sc_row_taken_off : FnScope ["row", "pivot", "last"] ["row", "pivot", "last"] (defScope s_row_taken_off) := ⟨rfl, rfl, rfl, by decide +kernel, rfl, by decide +kernel, by decide +kernel⟩
theorem ok_row_taken_off (T : Txt K mg t) : FnOk P w K mg base CX0 1 t.a_row_taken_off t.d_row_taken_off ["row", "pivot", "last"] (sp_row_taken_off K) := by
  refine T.f_row_taken_off.ok sc_row_taken_off (fun vs H Q E h => ?_) (fun cdv A outer s H vs Q E hr h => ?_)
  · obtain ⟨r, p, x, y, last, l, q, rfl, _⟩ := h
    rfl
  · obtain ⟨r, p, x, y, last, l, q', rfl, hR, hP, hlq, hl, l0, l1, hx, hy, q⟩ := h
    refine ⟨_, (pss_one (ps_ret (pe_lc rfl (sc0 := defScope s_row_taken_off) (N0 := ["row", "pivot", "last"]) (N' := ["own", "other", "pivot", "row", "last"]) (o := 2) (fr := [1, 0, 2]) ⟨rfl, by decide +kernel, by decide +kernel, by decide +kernel, rfl, by decide +kernel⟩ (pi_zip K rfl T.n_zip (pa_cons (pe_slice (sl_listK K) (pv 0) (po_some pe_int) po_none) (pa_cons (pe_slice (sl_listK K) (pv 1) (po_some pe_int) po_none) pa_nil))) (own_tup (own_cons (by decide) (own_cons (by decide) own_nil))) (fun _ _ _ _ => (pg_tupK (n := 2) K rfl (pgs_cons (pg_name (i := 0) (show List.Nodup (["own", "other", "pivot", "row", "last"] : List Str) by decide +kernel) rfl (Or.inl rfl)) (pgs_cons (pg_name (i := 1) (show List.Nodup (["own", "other", "pivot", "row", "last"] : List Str) by decide +kernel) rfl (Or.inl rfl)) pgs_nil)))) (fun _ _ _ _ => pts_nil) (fun _ _ _ _ => (pe_op op_fdivL (pe_op op_sub (pe_op op_mulL (pe_ix (ix_listK K) (pv 2) pe_int (fun _ _ => rfl)) (pv 0)) (pe_op op_mulL (pe_ix (ix_listK K) (pv 3) pe_int (fun _ _ => rfl)) (pv 1))) (pv 4)))))), ?_⟩
    refine ⟨_, rfl, _, rfl, r, _, rfl, hR, fun p1 hp1 => ?_⟩
    rw [cut_tail]
    have s1 := same_at (o := .lst (IL l)) hp1
    refine ⟨_, rfl, _, rfl, p, _, rfl, s1.seq hP, fun p2 hp2 => ?_⟩
    rw [cut_tail]
    have s2 := same_at (o := .lst (IL q')) hp2
    have s12 := s1.trans s2
    have h1 := s2 _ _ (upd_same (H := H) (a := p1) (o := .lst (IL l)))
    have h2 : (upd (upd H p1 (.lst (IL l))) p2 (.lst (IL q'))) p2 = some (.lst (IL q')) := upd_same
    generalize upd (upd H p1 (.lst (IL l))) p2 (.lst (IL q')) = H2 at *
    refine ⟨p1, p2, rfl, ⟨_, _, SqL.of h1, SqL.of h2⟩, lc_zip (K := K) (a := p1) (b := p2) (xs := IL l) (ys := IL q') (fun i zs H3 => Same H2 H3 ∧ i ≤ l.length ∧ zs = IL ((tkn y q' last (x :: l)).take i)) ⟨Same.refl _, Nat.zero_le _, rfl⟩ (by rw [il_length, il_length]; exact hlq) (small60' (by rw [il_length]; omega))
      (fun i zs H3 hi ⟨e, hi2, ez⟩ => ⟨SqL.of (e _ _ h1), SqL.of (e _ _ h2), by rw [ez, il_length, List.length_take]; omega⟩) ?_ ?_⟩
    · rintro i u v zs H3 pt hpt hu hv ⟨s3, hil, rfl⟩ S hSS
      obtain ⟨own, rfl, ho⟩ := il_get hu
      obtain ⟨oth, rfl, ht⟩ := il_get hv
      have hil' := (List.getElem?_eq_some_iff.mp ho).1
      have s4 := same_at (o := .tup [.int own, .int oth]) hpt
      refine ⟨pt, _, rfl, SqT.of upd_same, rfl, _, _, rfl, _, _, rfl, rfl, ?_⟩
      have s34 := s12.trans (s3.trans s4)
      have a1 := hy y List.mem_cons_self
      have a2 := hx own (List.mem_cons_of_mem _ (List.mem_of_getElem? ho))
      have a3 := hx x List.mem_cons_self
      have a4 := hy oth (List.mem_cons_of_mem _ (List.mem_of_getElem? ht))
      refine ⟨_, rfl, p, _, 0, .int y, rfl, rfl, s34.seq hP, atI_of (n := 0) rfl rfl, _, rfl, _, _, rfl, rfl, ⟨a1, a2⟩, _, rfl, r, _, 0, .int x, rfl, rfl, s34.seq hR, atI_of (n := 0) rfl rfl, _, rfl, _, _, rfl, rfl, ⟨a3, a4⟩, _, _, rfl, rfl, _, rfl, _, _, rfl, rfl, ⟨l0, l1⟩, ?_⟩
      refine hSS _ _ ⟨s3.trans s4, hil', ?_⟩
      have e : (tkn y q' last (x :: l))[i]? = some ((y * own - x * oth).fdiv last) := by
        show (List.zipWith _ l q')[i]? = _
        rw [List.getElem?_zipWith, ho, ht]
        rfl
      rw [List.take_succ, e]
      exact (il_snoc _ _).symm
    · rintro zs H3 ⟨s3, _, rfl⟩ c hc
      rw [il_length, List.take_of_length_le (by rw [tkn_len (by rw [List.length_cons, hlq])]; omega)]
      exact q c _ (s12.trans (s3.trans (same_at hc))) ((s12.trans s3).free hc) upd_same
end
end My
namespace My
open PySem L2 PyProof.Rows
set_option maxHeartbeats 4000000
/-- the first row that does not begin with nought -/
def sp_first_with_some (K : PySem.W.Frag) : Sp := fun vs H Q _ => ∃ (a : Addr) (ys : List V) (R : List (List Int)), vs = [.ref a] ∧ SqL K H a ys ∧ Bears (ListV H) ys R ∧ (∀ l ∈ R, 0 < l.length) ∧
  (∀ H' : Hp, Same H H' → (∀ i, i < R.length → fnL R i 0 = 0) → Q .non H') ∧ (∀ (t : Nat) (H' : Hp), Same H H' → t < R.length → fnL R t 0 ≠ 0 → Q (.int t) H')
section
variable {P : Program} {w : World} {K : PySem.W.Frag} {mg : Str → Option Value} {base : Heap} {t : Adr}
theorem sc_first_with_some : FnScope ["rows", "at", "row"] ["rows"] (defScope s_first_with_some) := ⟨rfl, rfl, rfl, by decide +kernel, rfl, by decide +kernel, by decide +kernel⟩
theorem ok_first_with_some (T : Txt K mg t) : FnOk P w K mg base CX0 1 t.a_first_with_some t.d_first_with_some ["rows"] (sp_first_with_some K) := by
  refine T.f_first_with_some.ok sc_first_with_some (fun vs H Q E h => ?_) (fun cdv A outer s H vs Q E hr h => ?_)
  · obtain ⟨a, ys, R, rfl, _⟩ := h
    rfl
  · obtain ⟨a, ys, R, rfl, hS, hB, hp, q0, q1⟩ := h
    refine ⟨_, (pss_cons (ps_for PassesOwn.never rfl (pi_enumK K rfl T.n_enumerate (pa_cons (pv 0) pa_nil)) (pg_tupK (n := 2) K rfl (pgs_cons (pg_name (i := 1) sc_first_with_some.nd rfl (Or.inl rfl)) (pgs_cons (pg_name (i := 2) sc_first_with_some.nd rfl (Or.inl rfl)) pgs_nil)))
      (pss_one (ps_if (pt_cmpR op_ne (pe_ix (ix_listK K) (pv 2) pe_int (fun _ _ => rfl)) pe_int (nomark _))
      (pss_one (ps_ret (pv 1)))
      pss_nil)))
      (pss_one (ps_ret pe_non))), ?_⟩
    have hyl := hB.1
    refine ⟨_, rfl, a, rfl, ⟨_, hS⟩, for_enum (K := K) (a := a) (xs := ys) (fun i σ H2 => ∃ v1 v2, σ = [some (.ref a), v1, v2] ∧ Same H H2 ∧ ∀ j, j < i → fnL R j 0 = 0) ⟨none, none, rfl, Same.refl _, fun j h => absurd h (Nat.not_lt_zero _)⟩ (fun i σ H2 _ ⟨_, _, _, e, _⟩ => e.seq hS) ?_ ?_⟩
    · rintro i v σ H2 pt hpt hi ⟨v1, v2, rfl, s2, hz⟩
      obtain ⟨l, hl, r, rfl, hr⟩ := hB.at hi
      have hlp := hp l (List.mem_of_getElem? hl)
      obtain ⟨x, l', rfl⟩ : ∃ x l', l = x :: l' := by
        cases l with
        | nil => exact absurd hlp (Nat.lt_irrefl 0)
        | cons x l' => exact ⟨x, l', rfl⟩
      have e0 : fnL R i 0 = x := fnL_at hl rfl
      have s3 := s2.trans (same_at (o := .tup [.int i, .ref r]) hpt)
      refine ⟨pt, _, rfl, SqT.of upd_same, rfl, _, _, rfl, _, _, rfl, rfl, ?_⟩
      generalize upd H2 pt (.tup [.int i, .ref r]) = H3 at *
      refine ⟨_, rfl, r, _, 0, .int x, rfl, rfl, SqL.of (s3 _ _ hr), atI_of (n := 0) rfl rfl, rfl, _, rfl, ?_⟩
      rw [dec_int]
      refine itn2 (fun e => ?_) (fun e => ?_)
      · refine ⟨_, _, rfl, s3, fun j hj => ?_⟩
        by_cases c : j = i
        · rw [c, e0, e]
        · exact hz j (by omega)
      · exact ⟨_, rfl, q1 i H3 s3 (by have := (List.getElem?_eq_some_iff.mp hl).1; exact this) (by rw [e0]; exact e)⟩
    · rintro σ H2 ⟨v1, v2, rfl, s2, hz⟩
      exact q0 H2 s2 fun i hi => hz i (by omega)
end
end My
namespace My
open PySem L2 PyProof.Rows
set_option maxHeartbeats 4000000
def sp_determinant (K : PySem.W.Frag) (N : Addr) : Sp := fun vs H Q E => ∃ (a : Addr) (kd : Bool) (xs : List V) (L : List (List Int)), vs = [.ref a] ∧ SqK kd K H a xs ∧ Bears (RowV K H) xs L ∧ L.length ≤ 16 ∧ (∀ i j, i < L.length → j < L.length → (fnL L i j).natAbs ≤ 2 ^ 400) ∧
  ((∀ l ∈ L, l.length = L.length) → ∀ H' : Hp, Same H H' → Q (.int (det L.length (fnL L))) H') ∧ (¬ (∀ l ∈ L, l.length = L.length) → ∀ H' : Hp, Same H H' → E (.ref N) none H')
theorem contS5 {s rest : TS} {D : Ends} {σ : L2.St} {H : Hp} (P : L2.St → Hp → Prop) (h1 : ∀ σ' H', P σ' H' → rest D σ' H') (h2 : ∀ K : L2.St → Hp → Prop, (∀ σ' H', P σ' H' → K σ' H') → s { D with nx := K } σ H) : tSeq s rest D σ H := h2 _ h1
section
variable {P : Program} {w : World} {K : PySem.W.Frag} {mg : Str → Option Value} {base : Heap} {t : Adr}
theorem sc_determinant : FnScope ["table", "rows", "sign", "last", "at", "pivot"] ["table"] (defScope s_determinant) := ⟨rfl, rfl, rfl, by decide +kernel, rfl, by decide +kernel, by decide +kernel⟩
theorem ok_determinant (T : Txt K mg t) : FnOk P w K mg base (CXW P w) 2 t.a_determinant t.d_determinant ["table"] (sp_determinant K t.A_NotSquare) := by
  refine T.f_determinant.okX sc_determinant (fun vs H Q E h => ?_) (fun cdv A outer s H vs Q E hr h => ?_)
  · obtain ⟨a, kd, xs, L, rfl, _⟩ := h
    rfl
  · obtain ⟨a, kd, xs, L, rfl, hS, hB, hL16, hA0, q, qe⟩ := h
    refine ⟨_, (pss_cons (ps_expr (pe_call (ok_refuse_not_square T) (hr.mono (by decide)) rfl T.m_refuse_not_square T.f_refuse_not_square.kp T.b_refuse_not_square .nil pxs (pa_cons (pv 0) pa_nil)))
      (pss_cons (ps_lc (i := 1) rfl sc_determinant.nd rfl rfl (sc0 := defScope s_determinant) (N0 := ["table", "rows", "sign", "last", "at", "pivot"]) (N' := ["row"]) (o := 1) (fr := []) ⟨rfl, by decide +kernel, by decide +kernel, by decide +kernel, rfl, by decide +kernel⟩ (pi_seqK K (pv 0)) (own_name (by decide)) (fun _ _ _ _ => (pg_name (i := 0) (show List.Nodup (["row"] : List Str) by decide +kernel) rfl (Or.inl rfl))) (fun _ _ _ _ => pts_nil) (fun _ _ _ _ => (pe_callTy (call_listK K) (by rfl) T.n_list Boot.«list» (pa_cons (pv 0) pa_nil))))
      (pss_cons (ps_set (i := 2) sc_determinant.nd rfl (Or.inl rfl) pe_int)
      (pss_cons (ps_set (i := 3) sc_determinant.nd rfl (Or.inr rfl) pe_int)
      (pss_cons (ps_while PassesOwn.leaving (pt_cmpR op_gt (pe_callB (call_lenK K) (by rfl) T.n_len Boot.«len» (pa_cons (pv 1) pa_nil)) pe_int (nomark _))
      (pss_cons (ps_set (i := 4) sc_determinant.nd rfl (Or.inl rfl) (pe_call (ok_first_with_some T) (hr.mono (by decide)) rfl T.m_first_with_some T.f_first_with_some.kp T.b_first_with_some .nil pass0 (pa_cons (pv 1) pa_nil)))
      (pss_cons (ps_if (pt_cmpR op_isN (pv 4) pe_non (nomark _))
      (pss_one (ps_ret pe_int))
      pss_nil)
      (pss_cons (ps_if (pt_cmpR op_eq (pe_op op_mod (pv 4) pe_int) pe_int (nomark _))
      (pss_one (ps_set (i := 2) sc_determinant.nd rfl (Or.inl rfl) (pe_un un_neg (pv 2))))
      pss_nil)
      (pss_cons (ps_set (i := 5) sc_determinant.nd rfl (Or.inr rfl) (pe_bmK K PySem.F.plainAttrs_list PySem.F.slot_list_pop PySem.F.type_list_pop mt_popAt (pv 1) (pa_cons (pv 4) pa_nil)))
      (pss_cons (ps_lc (i := 1) rfl sc_determinant.nd rfl rfl (sc0 := defScope s_determinant) (N0 := ["table", "rows", "sign", "last", "at", "pivot"]) (N' := ["row", "pivot", "last"]) (o := 1) (fr := [5, 3]) ⟨rfl, by decide +kernel, by decide +kernel, by decide +kernel, rfl, by decide +kernel⟩ (pi_listK K (pv 1)) (own_name (by decide)) (fun _ _ _ _ => (pg_name (i := 0) (show List.Nodup (["row", "pivot", "last"] : List Str) by decide +kernel) rfl (Or.inl rfl))) (fun _ _ _ _ => pts_nil) (fun _ _ _ _ => (pe_call (ok_row_taken_off T) (hr.mono (by decide)) rfl T.m_row_taken_off T.f_row_taken_off.kp T.b_row_taken_off .nil pass0 (pa_cons (pv 0) (pa_cons (pv 1) (pa_cons (pv 2) pa_nil))))))
      (pss_one (ps_set (i := 3) sc_determinant.nd rfl (Or.inr rfl) (pe_ix (ix_listK K) (pv 5) pe_int (fun _ _ => rfl))))))))))
      (pss_one (ps_ret (pe_op op_mulL (pv 2) (pv 3))))))))), ?_⟩
    have hxl := hB.1
    refine ⟨_, rfl, a, kd, xs, L, rfl, hS, hB, fun hsq => ?_, fun h => qe h H (Same.refl H)⟩
    have q := q hsq
    obtain ⟨n, hn⟩ : ∃ n, n = L.length := ⟨_, rfl⟩
    rw [← hn] at q hsq hA0 hL16
    -- rows
    refine ⟨_, rfl, a, rfl, lc_seq (K := K) (k := kd) (a := a) (xs := xs) (fun i zs H2 => Same H H2 ∧ i ≤ xs.length ∧ Bears (ListV H2) zs (L.take i)) ⟨Same.refl _, Nat.zero_le _, ⟨rfl, fun i l e => by simp at e⟩⟩ (small60' (by omega)) (fun i zs H2 hi ⟨e, hi2, ez⟩ => ⟨hS.same e, by rw [ez.1, List.length_take]; omega⟩) ?_ ?_⟩
    · rintro i v zs H2 hi ⟨s2, hil, hZ⟩ S hSS
      obtain ⟨l, hl, r, k, rfl, hr⟩ := hB.at hi
      have hil' := (List.getElem?_eq_some_iff.mp hi).1
      refine nm ?_
      refine ⟨_, rfl, r, _, rfl, (hr.same s2).or, fun c hc => hSS _ _ ⟨s2.trans (same_at hc), hil', ?_⟩⟩
      rw [List.take_succ, hl]
      refine (hZ.imp fun _ _ ⟨r', e, h⟩ => ⟨r', e, same_at hc _ _ h⟩).snoc ⟨c, rfl, upd_same⟩
    rintro zs H2 ⟨s2, _, hZ⟩ rA hrA
    rw [hxl, List.take_length] at hZ
    have s3 := s2.trans (same_at (o := .lst zs) hrA)
    -- while
    refine ⟨fun m σ H4 => ∃ (A : Mx) (k : Nat) (rA : Addr) (ys : List V) (R : List (List Int)) (sgn last : Int) (v4 v5 : Option V), σ = [some (.ref a), some (.ref rA), some (.int sgn), some (.int last), v4, v5] ∧ Same H H4 ∧ H rA = none ∧ H4 rA = some (.lst ys) ∧ Bears (LiV rA H4) ys R ∧ R.length = m ∧ (∀ l ∈ R, l.length = m) ∧ k + m = n ∧ Bar A k m (fnL R) last ∧ det n (fnL L) = sgn * det n A ∧ (∀ i j, i < n → j < n → (A i j).natAbs ≤ 2 ^ 400) ∧ (m = 0 → last = det n A) ∧ (sgn = 1 ∨ sgn = -1) ∧ last.natAbs < 2 ^ 9000, ⟨n, fnL L, 0, rA, zs, L, 1, 1, none, none, rfl, s3, s2.free hrA, upd_same, ?_, hn.symm, hsq, by omega, bar_start _ _, by omega, hA0, fun e => by rw [e]; rfl, .inl rfl, Nat.one_lt_two_pow (by decide)⟩, ?_⟩
    · exact hZ.imp fun v l ⟨r, e, h⟩ => ⟨r, e, same_at hrA _ _ h, ne_of_none h hrA⟩
    rintro m σ H4 ⟨A, k, rA, ys, R, sgn, last, v4, v5, rfl, s4, hr0, hr4, hR, hRm, hRl, hkm, hBar, hdet, hAb, hfin, hsg, hlb⟩
    have hyl := hR.1
    refine ⟨_, rfl, rA, ys, rfl, .inl (SqL.of hr4), _, _, rfl, rfl, _, rfl, ?_⟩
    refine itd2 (fun hpos => ?_) (fun hpos => ?_)
    · obtain ⟨M, rfl⟩ : ∃ M, m = M + 1 := ⟨m - 1, by omega⟩
      refine ⟨_, fun σ' H' h => ⟨M, Nat.lt_succ_self M, h⟩, ?_⟩
      have hsm : ∀ l ∈ R, ∀ z ∈ l, z.natAbs < 2 ^ 9000 := fun l hl z hz => by
        obtain ⟨i, hi⟩ := List.getElem?_of_mem hl
        obtain ⟨j, hj⟩ := List.getElem?_of_mem hz
        have h1 := (List.getElem?_eq_some_iff.mp hi).1
        have h2 := (List.getElem?_eq_some_iff.mp hj).1
        have h3 := hRl l hl
        have := bar_small hBar hkm hL16 hAb (i := i) (j := j) (by omega) (by omega)
        rw [fnL_at hi hj] at this
        exact this
      refine ⟨_, rfl, rA, ys, R, rfl, SqL.of hr4, hR.imp fun _ _ h => h.list, fun l hl => by rw [hRl l hl]; omega, fun H5 s5 h0 => ?_, fun t H5 s5 ht hne => ?_⟩
      · refine ⟨_, rfl, rfl, _, rfl, ?_⟩
        refine itd (c := V.non = V.non) rfl ?_
        have z : det n A = 0 := by
          have := bar_none hBar fun i hi => h0 i (by omega)
          rw [show k + M + 1 = n by omega] at this
          exact this
        rw [hdet, z, Int.mul_zero] at q
        exact q H5 (s4.trans s5)
      refine ⟨_, rfl, rfl, _, rfl, ?_⟩
      refine itdn (c := V.int (t : Int) = V.non) (fun z => nomatch z) ?_
      refine nm ?_
      dsimp only
      refine contS5 (fun σ H6 => ∃ sgn' : Int, H6 = H5 ∧ σ = [some (.ref a), some (.ref rA), some (.int sgn'), some (.int last), some (.int t), v5] ∧ sgn' = sgn * sg t) ?_ ?_
      · rintro σ H6 ⟨sgn', rfl, rfl, hsgn⟩
        have hr6 := s5 _ _ hr4
        have hR6 := hR.imp fun _ _ h => h.same s5
        obtain ⟨l, hl⟩ : ∃ l, R[t]? = some l := ⟨_, List.getElem?_eq_getElem ht⟩
        have hll := hRl l (List.mem_of_getElem? hl)
        obtain ⟨y, p', rfl⟩ : ∃ y p', l = y :: p' := by
          cases l with
          | nil => cases hll
          | cons y p' => exact ⟨y, p', rfl⟩
        have hpl : p'.length = M := by rw [List.length_cons] at hll; omega
        obtain ⟨v, hv, pA, rfl, hpA, hpn⟩ := hR6.2 t _ hl
        have hy0 : y ≠ 0 := by rw [fnL_at hl rfl] at hne; exact hne
        -- pivot
        refine ⟨_, rfl, .inl ⟨rfl, _, SqL.of hr6⟩, _, rfl, rA, ys, (t : Int), t, .ref pA, rfl, rfl, hr6, by omega, by omega, by rw [seq_ix (by omega) (by omega), Int.toNat_natCast], hv, ?_⟩
        have hpA7 : (upd H6 rA (.lst (ys.eraseIdx t))) pA = some (.lst (IL (y :: p'))) := by rw [upd_ne hpn]; exact hpA
        have s7 : Same H (upd H6 rA (.lst (ys.eraseIdx t))) := same_upd hr0 (s4.trans s5)
        have hR7 : Bears (LiV rA (upd H6 rA (.lst (ys.eraseIdx t)))) (ys.eraseIdx t) (R.eraseIdx t) := (hR6.erase t).imp fun _ _ h => h.mut
        have hr7 : (upd H6 rA (.lst (ys.eraseIdx t))) rA = some (.lst (ys.eraseIdx t)) := upd_same
        generalize upd H6 rA (.lst (ys.eraseIdx t)) = H7 at *
        have eRl : (R.eraseIdx t).length = M := by rw [List.length_eraseIdx, if_pos ht]; omega
        have hRl7 : ∀ l ∈ R.eraseIdx t, l.length = M + 1 := fun l h => hRl l (List.mem_of_mem_eraseIdx h)
        have hy7 := hR7.1
        -- rows
        refine ⟨_, rfl, rA, rfl, ⟨_, SqL.of hr7⟩, lc_list (K := K) (a := rA) (xs := ys.eraseIdx t) (fun i zs H8 => Same H7 H8 ∧ i ≤ (ys.eraseIdx t).length ∧ Bears (ListV H8) zs (((R.eraseIdx t).take i).map (tkn y p' last))) ⟨Same.refl _, Nat.zero_le _, ⟨rfl, fun i l e => by simp at e⟩⟩ (small60' (by omega)) (fun i zs H8 hi ⟨e, hi2, ez⟩ => ⟨SqL.of (e _ _ hr7), by rw [ez.1, List.length_map, List.length_take]; omega⟩) ?_ ?_⟩
        · rintro i v zs H8 hi ⟨s8, hil, hZ8⟩ S hSS
          obtain ⟨l, hli, r, rfl, hr, _⟩ := hR7.at hi
          have hil' := (List.getElem?_eq_some_iff.mp hi).1
          have hl2 := hRl7 l (List.mem_of_getElem? hli)
          obtain ⟨x, l', rfl⟩ : ∃ x l', l = x :: l' := by
            cases l with
            | nil => cases hl2
            | cons x l' => exact ⟨x, l', rfl⟩
          have hl' : l'.length = M := by rw [List.length_cons] at hl2; omega
          refine nm ?_
          refine ⟨_, rfl, _, rfl, _, rfl, r, pA, x, y, last, l', p', rfl, SqL.of (s8 _ _ hr), SqL.of (s8 _ _ hpA7), by omega, by omega, hBar.1, hlb, hsm _ (List.mem_of_mem_eraseIdx (List.mem_of_getElem? hli)), hsm _ (List.mem_of_getElem? hl), fun c H9 s9 hc0 hc => hSS _ _ ⟨s8.trans s9, hil', ?_⟩⟩
          rw [List.take_succ, hli, List.map_append]
          exact (hZ8.imp fun _ _ ⟨r', e, h⟩ => ⟨r', e, s9 _ _ h⟩).snoc ⟨c, rfl, hc⟩
        rintro zs H8 ⟨s8, _, hZ8⟩ cA hcA
        rw [hy7, List.take_length] at hZ8
        have s9 := same_at (o := .lst zs) hcA
        -- last
        refine ⟨_, rfl, pA, _, 0, .int y, rfl, rfl, SqL.of (s9 _ _ (s8 _ _ hpA7)), atI_of (n := 0) rfl rfl, ?_⟩
        have hb1 : Bar (fun i => A (rotN k t i)) k (M + 1) (fnL ((y :: p') :: R.eraseIdx t)) last := by
          rw [rot_fnL hl]
          exact bar_rot hBar (by omega)
        have hb2 : Bar (fun i => A (rotN k t i)) (k + 1) M (fnL ((R.eraseIdx t).map (tkn y p' last))) y := bar_step hb1 hy0 fun i j hi hj => tkn_fnL hpl eRl hRl7 hi hj
        have hdr := det_rot (n := n) (k := k) (t := t) (A := A) (by omega)
        refine ⟨fun i => A (rotN k t i), k + 1, cA, zs, (R.eraseIdx t).map (tkn y p' last), sgn', y, _, _, rfl, s7.trans (s8.trans s9), (s7.trans s8).free hcA, upd_same, ?_, by rw [List.length_map]; exact eRl, fun l h => ?_, by omega, hb2, ?_, fun i j hi hj => hAb _ _ ?_ hj, fun e0 => ?_, ?_, hsm _ (List.mem_of_getElem? hl) y List.mem_cons_self⟩
        · exact hZ8.imp fun v l ⟨r, e, h⟩ => ⟨r, e, s9 _ _ h, ne_of_none h hcA⟩
        · obtain ⟨l0, h0, rfl⟩ := List.mem_map.mp h
          rw [tkn_len (by rw [hRl7 l0 h0, hpl]), hpl]
        · rw [hdr, hdet, hsgn, Int.mul_assoc, ← Int.mul_assoc (sg t), sg_sq, Int.one_mul]
        · unfold rotN
          split
          · omega
          · split
            · omega
            · split <;> omega
        · subst e0
          have := bar_end hb1
          rw [show k + 1 = n by omega] at this
          exact this
        · rw [hsgn]
          have hst : sg t = 1 ∨ sg t = -1 := by
            unfold sg
            split
            · exact .inl rfl
            · exact .inr rfl
          rcases hsg with e | e <;> rcases hst with f | f <;> rw [e, f]
          · exact .inl rfl
          · exact .inr rfl
          · exact .inr rfl
          · exact .inl rfl
      · intro Kn hK
        refine ⟨_, rfl, _, _, rfl, rfl, (by show (0 : Int) < 2; decide), rfl, _, rfl, ?_⟩
        rw [dec_int]
        refine itd2 (fun h1 => ?_) (fun h1 => ?_)
        · refine ⟨_, rfl, _, rfl, hK _ _ ⟨-sgn, rfl, rfl, ?_⟩⟩
          have e : sg t = -1 := by unfold sg; rw [if_neg (by omega)]
          rw [e]
          omega
        · refine hK _ _ ⟨sgn, rfl, rfl, ?_⟩
          have e : sg t = 1 := by unfold sg; rw [if_pos (by omega)]
          rw [e]
          omega
    · have hm0 : m = 0 := by omega
      refine ⟨_, rfl, _, rfl, _, _, rfl, rfl, ⟨?_, hlb⟩, ?_⟩
      · rcases hsg with e | e <;> rw [e] <;> exact Nat.one_lt_two_pow (by decide)
      · rw [hfin hm0] at *
        rw [hdet] at q
        exact q H4 s4
end
end My
namespace My
open PySem L2 PyProof.Rows
set_option maxHeartbeats 4000000
/-- the greatest common divisor -/
def sp_common_divisor : Sp := fun vs H Q _ => ∃ (x y : Int), vs = [.int x, .int y] ∧ Q (.int (Int.gcd x y)) H
theorem abs_nat (z : Int) : (if z < 0 then -z else z) = (z.natAbs : Int) := by split <;> omega
theorem gcd_step (a b : Nat) : Nat.gcd b (a % b) = Nat.gcd a b := by rw [Nat.gcd_comm b, ← Nat.gcd_rec, Nat.gcd_comm]
section
variable {P : Program} {w : World} {K : PySem.W.Frag} {mg : Str → Option Value} {base : Heap} {t : Adr}
theorem sc_common_divisor : FnScope ["one", "other", "rest"] ["one", "other"] (defScope s_common_divisor) := ⟨rfl, rfl, rfl, by decide +kernel, rfl, by decide +kernel, by decide +kernel⟩
theorem ok_common_divisor (T : Txt K mg t) : FnOk P w K mg base CX0 1 t.a_common_divisor t.d_common_divisor ["one", "other"] sp_common_divisor := by
  refine T.f_common_divisor.ok sc_common_divisor (fun vs H Q E h => ?_) (fun cdv A outer s H vs Q E hr h => ?_)
  · obtain ⟨x, y, rfl, _⟩ := h
    rfl
  · obtain ⟨x, y, rfl, q⟩ := h
    refine ⟨_, (pss_cons (ps_set (i := 0) sc_common_divisor.nd rfl (Or.inl rfl) (pe_callB call_absI (by rfl) T.n_abs Boot.«abs» (pa_cons (pv 0) pa_nil)))
      (pss_cons (ps_set (i := 1) sc_common_divisor.nd rfl (Or.inl rfl) (pe_callB call_absI (by rfl) T.n_abs Boot.«abs» (pa_cons (pv 1) pa_nil)))
      (pss_cons (ps_while PassesOwn.never (pt_cmpR op_ne (pv 1) pe_int (nomark _))
      (pss_cons (ps_set (i := 2) sc_common_divisor.nd rfl (Or.inl rfl) (pe_op op_mod (pv 0) (pv 1)))
      (pss_cons (ps_set (i := 0) sc_common_divisor.nd rfl (Or.inl rfl) (pv 1))
      (pss_one (ps_set (i := 1) sc_common_divisor.nd rfl (Or.inl rfl) (pv 2))))))
      (pss_one (ps_ret (pv 0)))))), ?_⟩
    refine ⟨_, rfl, x, rfl, ?_⟩
    rw [abs_nat]
    refine nm ?_
    dsimp only
    refine ⟨_, rfl, y, rfl, ?_⟩
    rw [abs_nat]
    refine nm ?_
    dsimp only
    refine ⟨fun m σ H2 => H2 = H ∧ ∃ (a b : Nat) (v3 : Option V), σ = [some (.int a), some (.int b), v3] ∧ b = m ∧ Nat.gcd a b = Int.gcd x y, ⟨y.natAbs, rfl, x.natAbs, y.natAbs, none, rfl, rfl, rfl⟩, ?_⟩
    rintro m σ H2 ⟨rfl, a, b, v3, rfl, rfl, hg⟩
    refine ⟨_, rfl, rfl, _, rfl, ?_⟩
    rw [dec_int]
    refine itn2 (fun hb => ?_) (fun hb => ?_)
    · have b0 : b = 0 := by omega
      subst b0
      rw [Nat.gcd_zero_right] at hg
      refine ⟨_, rfl, ?_⟩
      rw [hg]
      exact q
    · have bp : 0 < b := by omega
      refine ⟨_, fun σ' H' h => h, ?_⟩
      refine ⟨_, rfl, _, rfl, _, _, rfl, rfl, (by omega : (0 : Int) < (b : Int)), ?_⟩
      refine ⟨_, rfl, ?_⟩
      refine ⟨_, rfl, ?_⟩
      exact ⟨a % b, Nat.mod_lt _ bp, rfl, b, a % b, _, rfl, rfl, by rw [gcd_step]; exact hg⟩
end
end My
namespace My
open PySem L2 PyProof.Rows
set_option maxHeartbeats 4000000
/-- a fraction in least terms -/
def sp_fraction : Sp := fun vs H Q _ => ∃ (x y : Int), vs = [.int x, .int y] ∧ y ≠ 0 ∧ x.natAbs < 2 ^ 9000 ∧ y.natAbs < 2 ^ 9000 ∧ ∀ p q : Int, LowF x y p q → ∀ r, H r = none → Q (.ref r) (upd H r (.tup [.int p, .int q]))
section
variable {P : Program} {w : World} {K : PySem.W.Frag} {mg : Str → Option Value} {base : Heap} {t : Adr}
theorem sc_fraction : FnScope ["top", "bottom", "divisor"] ["top", "bottom"] (defScope s_fraction) := ⟨rfl, rfl, rfl, by decide +kernel, rfl, by decide +kernel, by decide +kernel⟩
theorem ok_fraction (T : Txt K mg t) : FnOk P w K mg base CX0 2 t.a_fraction t.d_fraction ["top", "bottom"] sp_fraction := by
  refine T.f_fraction.ok sc_fraction (fun vs H Q E h => ?_) (fun cdv A outer s H vs Q E hr h => ?_)
  · obtain ⟨x, y, rfl, _⟩ := h
    rfl
  · obtain ⟨x, y, rfl, hy, bx, by', q⟩ := h
    refine ⟨_, (pss_cons (ps_set (i := 2) sc_fraction.nd rfl (Or.inl rfl) (pe_call (ok_common_divisor T) (hr.mono (by decide)) rfl T.m_common_divisor T.f_common_divisor.kp T.b_common_divisor .nil pass0 (pa_cons (pv 0) (pa_cons (pv 1) pa_nil))))
      (pss_cons (ps_if (pt_cmpR op_lt (pv 1) pe_int (nomark _))
      (pss_one (ps_set (i := 2) sc_fraction.nd rfl (Or.inl rfl) (pe_un un_neg (pv 2))))
      pss_nil)
      (pss_one (ps_ret (pe_tup (pa_cons (pe_op op_fdivL (pv 0) (pv 2)) (pa_cons (pe_op op_fdivL (pv 1) (pv 2)) pa_nil))))))), ?_⟩
    have gb : Int.gcd x y < 2 ^ 9000 := Nat.lt_of_le_of_lt (Nat.gcd_le_right _ (by omega)) by'
    have low := fun d hd => low_div (x := x) (y := y) (d := d) hy hd
    have fin : ∀ d : Int, d = (if y < 0 then -(Int.gcd x y : Int) else (Int.gcd x y : Int)) → CDivL x d ∧ CDivL y d := fun d hd => by
      have h0 := (low d hd).1
      have h1 : d.natAbs < 2 ^ 9000 := by
        rw [hd]
        split
        · rw [Int.natAbs_neg, Int.natAbs_natCast]; exact gb
        · rw [Int.natAbs_natCast]; exact gb
      exact ⟨⟨h0, h1⟩, ⟨h0, h1⟩⟩
    refine ⟨_, rfl, _, rfl, x, y, rfl, ?_⟩
    refine nm ?_
    dsimp only
    refine contS (fun σ H2 => ∃ d : Int, d = (if y < 0 then -(Int.gcd x y : Int) else (Int.gcd x y : Int)) ∧ σ = [some (.int x), some (.int y), some (.int d)] ∧ H2 = H) ?_ ?_
    rotate_left
    · intro Kn hK
      refine ⟨_, rfl, _, _, rfl, rfl, _, rfl, ?_⟩
      refine itd2 (fun h => ?_) (fun h => ?_)
      · refine ⟨_, rfl, _, rfl, ?_⟩
        exact hK _ _ ⟨_, (if_pos h).symm, rfl, rfl⟩
      · exact hK _ _ ⟨_, (if_neg h).symm, rfl, rfl⟩
    rintro σ H2 ⟨d, hd, rfl, rfl⟩
    obtain ⟨f1, f2⟩ := fin d hd
    refine ⟨_, rfl, _, rfl, _, _, rfl, rfl, f1, _, rfl, _, rfl, _, _, rfl, rfl, f2, (by show 2 ≤ sizeLine; decide), fun r hr => ?_⟩
    exact q _ _ (low d hd).2 r hr
end
end My
namespace My
open PySem L2 PyProof.Rows
set_option maxHeartbeats 4000000
/-- the table with one column put in -/
def sp_with_column (K : PySem.W.Frag) : Sp := fun vs H Q _ => ∃ (a b : Addr) (kd : Bool) (xs : List V) (L : List (List Int)) (bs : List Int) (c N : Nat), vs = [.ref a, .int c, .ref b] ∧ SqK kd K H a xs ∧ Bears (RowV K H) xs L ∧ SqK kd K H b (IL bs) ∧ L.length = N ∧ bs.length = N ∧ (∀ l ∈ L, l.length = N) ∧ c < N ∧ N ≤ 1000 ∧
  ∀ (r : Addr) (zs : List V) (H' : Hp), Same H H' → H' r = some (.lst zs) → Bears (ListV H') zs (wcL L c bs) → Q (.ref r) H'
/-- a piece of a list or of a tuple -/
theorem sl_any {K : PySem.W.Frag} {H : Hp} {r : Addr} {k : Bool} {xs : List V} {lo hi : Option Int} {Q : VK} (h : SqK k K H r xs) (q : ∀ (v : Addr) (kk : Bool) (H' : Hp), Same H H' → SqK kk K H' v (cutV xs lo hi) → Q (.ref v) H') : rSlL K (.ref r) lo hi H Q ∨ rSlU K (.ref r) lo hi H Q := by
  cases k with
  | false => exact .inl ⟨r, xs, rfl, h, fun p hp => q p false _ (same_at hp) (SqL.of upd_same)⟩
  | true => exact .inr ⟨r, xs, rfl, h, fun e => q r true H (Same.refl _) (by rw [cut_whole e.1 e.2]; exact h), fun _ p hp => q p true _ (same_at hp) (SqT.of upd_same)⟩
theorem or_sq {K : PySem.W.Frag} {H : Hp} {r : Addr} {k : Bool} {xs : List V} (h : SqK k K H r xs) : SqL K H r xs ∨ SqT K H r xs := by
  cases k with
  | false => exact .inl h
  | true => exact .inr h
section
variable {P : Program} {w : World} {K : PySem.W.Frag} {mg : Str → Option Value} {base : Heap} {t : Adr}
theorem sc_with_column : FnScope ["table", "column", "right"] ["table", "column", "right"] (defScope s_with_column) := ⟨rfl, rfl, rfl, by decide +kernel, rfl, by decide +kernel, by decide +kernel⟩
theorem ok_with_column (T : Txt K mg t) : FnOk P w K mg base CX0 1 t.a_with_column t.d_with_column ["table", "column", "right"] (sp_with_column K) := by
  refine T.f_with_column.ok sc_with_column (fun vs H Q E h => ?_) (fun cdv A outer s H vs Q E hr h => ?_)
  · obtain ⟨a, b, kd, xs, L, bs, c, N, rfl, _⟩ := h
    rfl
  · obtain ⟨a, b, kd, xs, L, bs, c, N, rfl, hA, hX, hB, hLN, hbN, hrow, hc, hN, q⟩ := h
    refine ⟨_, (pss_one (ps_ret (pe_lc rfl (sc0 := defScope s_with_column) (N0 := ["table", "column", "right"]) (N' := ["row", "number", "column"]) (o := 2) (fr := [1]) ⟨rfl, by decide +kernel, by decide +kernel, by decide +kernel, rfl, by decide +kernel⟩ (pi_zipB K rfl T.n_zip (pa_cons (pv 0) (pa_cons (pv 2) pa_nil))) (own_tup (own_cons (by decide) (own_cons (by decide) own_nil))) (fun _ _ _ _ => (pg_tupK (n := 2) K rfl (pgs_cons (pg_name (i := 0) (show List.Nodup (["row", "number", "column"] : List Str) by decide +kernel) rfl (Or.inl rfl)) (pgs_cons (pg_name (i := 1) (show List.Nodup (["row", "number", "column"] : List Str) by decide +kernel) rfl (Or.inl rfl)) pgs_nil)))) (fun _ _ _ _ => pts_nil) (fun _ _ _ _ => (pe_op (op_catK K) (pe_op (op_catK K) (pe_callTy (call_listK K) (by rfl) T.n_list Boot.«list» (pa_cons (pe_slice (SlR.or (sl_listK K) (sl_tupU K)) (pv 0) po_none (po_some (pv 2))) pa_nil)) (pe_lst (pa_cons (pv 1) pa_nil))) (pe_callTy (call_listK K) (by rfl) T.n_list Boot.«list» (pa_cons (pe_slice (SlR.or (sl_listK K) (sl_tupU K)) (pv 0) (po_some (pe_op op_add (pv 2) pe_int)) po_none) pa_nil))))))), ?_⟩
    have one : 1 ≤ sizeLine := by decide
    have hxl := hX.1
    have wl : (wcL L c bs).length = N := (wcL_len (by omega)).trans hLN
    refine ⟨_, rfl, _, rfl, a, b, kd, rfl, ⟨_, _, hA, hB⟩, lc_zipB (K := K) (kd := kd) (a := a) (b := b) (xs := xs) (ys := IL bs) (fun i zs H3 => Same H H3 ∧ i ≤ N ∧ Bears (ListV H3) zs ((wcL L c bs).take i)) ⟨Same.refl _, Nat.zero_le _, ⟨rfl, fun i l e => by simp at e⟩⟩ (by rw [il_length]; omega) (small60' (by omega))
      (fun i zs H3 hi ⟨e, hi2, ez⟩ => ⟨hA.same e, hB.same e, by rw [ez.1, List.length_take]; omega⟩) ?_ ?_⟩
    · rintro i u v zs H3 pt hpt hu hv ⟨s3, hil, hZ⟩ S hSS
      obtain ⟨l, hl, lr, rk, rfl, hlr⟩ := hX.at hu
      obtain ⟨x, rfl, hx⟩ := il_get hv
      have hil' := (List.getElem?_eq_some_iff.mp hx).1
      have ll := hrow l (List.mem_of_getElem? hl)
      have s4 := same_at (o := .tup [.ref lr, .int x]) hpt
      refine ⟨pt, _, rfl, SqT.of upd_same, rfl, _, _, rfl, _, _, rfl, rfl, ?_⟩
      have s34 := s3.trans s4
      have hZ4 : Bears (ListV (upd H3 pt (.tup [.ref lr, .int x]))) zs ((wcL L c bs).take i) := hZ.imp fun _ _ ⟨r', e, h⟩ => ⟨r', e, s4 _ _ h⟩
      generalize upd H3 pt (.tup [.ref lr, .int x]) = H4 at *
      have hlr4 := hlr.same s34
      -- list(row[:column])
      refine ⟨_, rfl, _, rfl, _, rfl, sl_any hlr4 fun p1 kk1 H5 u1 k1 => ?_⟩
      rw [cut_upto (by omega), Int.toNat_natCast] at k1
      refine ⟨p1, _, rfl, or_sq k1, fun p2 hp2 => ?_⟩
      have u2 := same_at (o := .lst ((IL l).take c)) hp2
      have k2 := upd_same (H := H5) (a := p2) (o := .lst ((IL l).take c))
      generalize upd H5 p2 (.lst ((IL l).take c)) = H6 at *
      refine ⟨_, rfl, one, fun p3 hp3 => ?_⟩
      have u3 := same_at (o := .lst [.int x]) hp3
      have k3 := upd_same (H := H6) (a := p3) (o := .lst [.int x])
      generalize upd H6 p3 (.lst [.int x]) = H7 at *
      refine ⟨p2, p3, _, _, rfl, rfl, SqL.of (u3 _ _ k2), SqL.of k3, small60 (by rw [List.length_take, il_length]; show _ + 1 ≤ _; omega), fun p4 hp4 => ?_⟩
      have u4 := same_at (o := .lst ((IL l).take c ++ [.int x])) hp4
      have k4 := upd_same (H := H7) (a := p4) (o := .lst ((IL l).take c ++ [.int x]))
      generalize upd H7 p4 (.lst ((IL l).take c ++ [.int x])) = H8 at *
      have t48 := u1.trans (u2.trans (u3.trans u4))
      -- list(row[column + 1:])
      refine ⟨_, rfl, _, rfl, _, _, rfl, rfl, _, rfl, sl_any (hlr4.same t48) fun p5 kk5 H9 u5 k5 => ?_⟩
      rw [cut_from (by omega) (by rw [il_length]; omega), show ((c : Int) + 1).toNat = c + 1 by omega] at k5
      refine ⟨p5, _, rfl, or_sq k5, fun p6 hp6 => ?_⟩
      have u6 := same_at (o := .lst ((IL l).drop (c + 1))) hp6
      have k6 := upd_same (H := H9) (a := p6) (o := .lst ((IL l).drop (c + 1)))
      generalize upd H9 p6 (.lst ((IL l).drop (c + 1))) = H10 at *
      refine ⟨p4, p6, _, _, rfl, rfl, SqL.of (u6 _ _ (u5 _ _ k4)), SqL.of k6, small60 (by rw [List.length_append, List.length_take, List.length_drop, il_length]; show _ + 1 + _ ≤ _; omega), fun p7 hp7 => ?_⟩
      have u7 := same_at (o := .lst ((IL l).take c ++ [.int x] ++ (IL l).drop (c + 1))) hp7
      have t410 := t48.trans (u5.trans (u6.trans u7))
      have el : (IL l).take c ++ [.int x] ++ (IL l).drop (c + 1) = IL (l.take c ++ x :: l.drop (c + 1)) := by
        show (l.map V.int).take c ++ [.int x] ++ (l.map V.int).drop (c + 1) = (l.take c ++ x :: l.drop (c + 1)).map V.int
        rw [← List.map_take, ← List.map_drop, List.append_assoc, List.map_append, List.map_cons]
        rfl
      refine hSS _ _ ⟨s34.trans t410, by omega, ?_⟩
      have ew : (wcL L c bs)[i]? = some (l.take c ++ x :: l.drop (c + 1)) := by
        unfold wcL
        rw [List.getElem?_zipWith, hl, hx]
      rw [List.take_succ, ew]
      refine (hZ4.imp fun _ _ ⟨r', e, h⟩ => ⟨r', e, t410 _ _ h⟩).snoc ⟨p7, rfl, ?_⟩
      rw [upd_same, el]
    · rintro zs H3 ⟨s3, _, hZ⟩ r hr
      rw [hxl, List.take_of_length_le (by omega)] at hZ
      have u := same_at (o := .lst zs) hr
      exact q r zs _ (s3.trans u) upd_same (hZ.imp fun _ _ ⟨r', e, h⟩ => ⟨r', e, u _ _ h⟩)
end
end My
namespace My
open PySem L2 PyProof.Rows
set_option maxHeartbeats 4000000
/-- the fractions that solve a table -/
def sp_solved (K : PySem.W.Frag) (N S : Addr) : Sp := fun vs H Q E => ∃ (a b : Addr) (kd : Bool) (xs : List V) (L : List (List Int)) (bs : List Int), vs = [.ref a, .ref b] ∧ SqK kd K H a xs ∧ Bears (RowV K H) xs L ∧ SqK kd K H b (IL bs) ∧ L.length ≤ 14 ∧ (∀ i j, i < L.length → j < L.length → (fnL L i j).natAbs ≤ 2 ^ 400) ∧ (∀ x ∈ bs, x.natAbs ≤ 2 ^ 400) ∧
  (bs.length = L.length → (∀ l ∈ L, l.length = L.length) → det L.length (fnL L) ≠ 0 → ∀ (r : Addr) (zs : List V) (fs : List (Int × Int)) (H' : Hp), Same H H' → H' r = some (.tup zs) → PairsV H' zs fs → fs.length = L.length → (∀ (j : Nat) (f : Int × Int), fs[j]? = some f → LowF (det L.length (putc (fnL L) j fun i => bs.getD i 0)) (det L.length (fnL L)) f.1 f.2) → Q (.ref r) H') ∧
  (¬ (bs.length = L.length ∧ ∀ l ∈ L, l.length = L.length) → ∀ H' : Hp, Same H H' → E (.ref N) none H') ∧ (bs.length = L.length → (∀ l ∈ L, l.length = L.length) → det L.length (fnL L) = 0 → ∀ H' : Hp, Same H H' → E (.ref S) none H')
section
variable {P : Program} {w : World} {K : PySem.W.Frag} {mg : Str → Option Value} {base : Heap} {t : Adr}
theorem sc_solved : FnScope ["table", "right", "whole", "tops"] ["table", "right"] (defScope s_solved) := ⟨rfl, rfl, rfl, by decide +kernel, rfl, by decide +kernel, by decide +kernel⟩
theorem ok_solved (T : Txt K mg t) : FnOk P w K mg base (CXW P w) 3 t.a_solved t.d_solved ["table", "right"] (sp_solved K t.A_NotSquare t.A_Singular) := by
  refine T.f_solved.okX sc_solved (fun vs H Q E h => ?_) (fun cdv A outer s H vs Q E hr h => ?_)
  · obtain ⟨a, b, kd, xs, L, bs, rfl, _⟩ := h
    rfl
  · obtain ⟨a, b, kd, xs, L, bs, rfl, hA, hX, hB, hL14, hLb, hbb, q, qn, qs⟩ := h
    refine ⟨_, (pss_cons (ps_if (pt_cmpR op_ne (pe_callB (call_lenK K) (by rfl) T.n_len Boot.«len» (pa_cons (pv 1) pa_nil)) (pe_callB (call_lenK K) (by rfl) T.n_len Boot.«len» (pa_cons (pv 0) pa_nil)) (nomark _))
      (pss_one (ps_raise T.x_NotSquare T.c_NotSquare (pa_cons pe_str pa_nil)))
      pss_nil)
      (pss_cons (ps_set (i := 2) sc_solved.nd rfl (Or.inr rfl) (pe_call (ok_determinant T) (hr.mono (by decide)) rfl T.m_determinant T.f_determinant.kp T.b_determinant .nil pxs (pa_cons (pv 0) pa_nil)))
      (pss_cons (ps_if (pt_cmpR op_eq (pv 2) pe_int (nomark _))
      (pss_one (ps_raise T.x_Singular T.c_Singular (pa_cons pe_str pa_nil)))
      pss_nil)
      (pss_cons (ps_lc (i := 3) rfl sc_solved.nd rfl rfl (sc0 := defScope s_solved) (N0 := ["table", "right", "whole", "tops"]) (N' := ["column", "table", "right"]) (o := 1) (fr := [0, 1]) ⟨rfl, by decide +kernel, by decide +kernel, by decide +kernel, rfl, by decide +kernel⟩ (pi_range1 rfl T.n_range (pa_cons (pe_callB (call_lenK K) (by rfl) T.n_len Boot.«len» (pa_cons (pv 0) pa_nil)) pa_nil)) (own_name (by decide)) (fun _ _ _ _ => (pg_name (i := 0) (show List.Nodup (["column", "table", "right"] : List Str) by decide +kernel) rfl (Or.inl rfl))) (fun _ _ _ _ => pts_nil) (fun _ _ _ _ => (pe_call (ok_determinant T) (hr.mono (by decide)) rfl T.m_determinant T.f_determinant.kp T.b_determinant .nil passN (pa_cons (pe_call (ok_with_column T) (hr.mono (by decide)) rfl T.m_with_column T.f_with_column.kp T.b_with_column .nil pass0 (pa_cons (pv 1) (pa_cons (pv 0) (pa_cons (pv 2) pa_nil)))) pa_nil))))
      (pss_one (ps_ret (pe_callTy (call_tupleK K) (by rfl) T.n_tuple Boot.«tuple» (pa_cons (pe_lc rfl (sc0 := defScope s_solved) (N0 := ["table", "right", "whole", "tops"]) (N' := ["top", "whole"]) (o := 1) (fr := [2]) ⟨rfl, by decide +kernel, by decide +kernel, by decide +kernel, rfl, by decide +kernel⟩ (pi_listK K (pv 3)) (own_name (by decide)) (fun _ _ _ _ => (pg_name (i := 0) (show List.Nodup (["top", "whole"] : List Str) by decide +kernel) rfl (Or.inl rfl))) (fun _ _ _ _ => pts_nil) (fun _ _ _ _ => (pe_call (ok_fraction T) (hr.mono (by decide)) rfl T.m_fraction T.f_fraction.kp T.b_fraction .nil pass0 (pa_cons (pv 0) (pa_cons (pv 1) pa_nil))))) pa_nil)))))))), ?_⟩
    obtain ⟨N, hN⟩ : ∃ N, N = L.length := ⟨_, rfl⟩
    rw [← hN] at hL14 hLb q qn qs
    have one : 1 ≤ sizeLine := by decide
    have hxl := hX.1
    have small : ∀ A : Mx, (∀ i j, i < N → j < N → (A i j).natAbs ≤ 2 ^ 400) → (det N A).natAbs < 2 ^ 9000 := fun A hA => by
      refine Nat.lt_of_le_of_lt (Nat.le_trans (det_abs hA) (bnd_le (b := 400) (by omega))) ?_
      exact Nat.pow_lt_pow_right (by decide) (by omega)
    have hpb : ∀ c, c < N → ∀ i j, i < N → j < N → (putc (fnL L) c (fun i => bs.getD i 0) i j).natAbs ≤ 2 ^ 400 := fun c hc i j hi hj => by
      unfold putc
      split
      · show (bs.getD i 0).natAbs ≤ _
        rw [List.getD_eq_getElem?_getD]
        cases hz : bs[i]? with
        | none => exact Nat.zero_le _
        | some y => exact hbb y (List.mem_of_getElem? hz)
      · exact hLb i j hi hj
    refine ⟨_, rfl, b, _, rfl, hB.or, _, rfl, a, xs, rfl, hA.or, rfl, _, rfl, ?_⟩
    rw [dec_int, il_length]
    refine itn2 (fun hbl' => ?_) (fun hbl' => ?_)
    rotate_left
    · exact ⟨one, qn (fun h => hbl' (by omega)) H (Same.refl _)⟩
    have hbl : bs.length = N := by omega
    -- whole
    refine ⟨_, rfl, a, kd, xs, L, rfl, hA, hX, by omega, fun i j hi hj => hLb i j (by omega) (by omega), fun hrow' H1 s1 => ?_, fun h H1 s1 => qn (fun z => h (by rw [← hN]; exact z.2)) H1 s1⟩
    have hrow : ∀ l ∈ L, l.length = N := by rw [hN]; exact hrow'
    rw [← hN]
    refine nm ?_
    dsimp only
    refine ⟨_, rfl, rfl, _, rfl, ?_⟩
    rw [dec_int]
    refine itd2 (fun hz => ⟨one, qs hbl hrow hz H1 s1⟩) (fun hdet => ?_)
    have q := q hbl hrow hdet
    -- tops
    obtain ⟨tp, htp⟩ : ∃ tp : Nat → Int, tp = fun j => det N (putc (fnL L) j fun i => bs.getD i 0) := ⟨_, rfl⟩
    refine ⟨_, rfl, a, xs, rfl, (hA.same s1).or, _, rfl, by omega, by omega, lc_range (lo := 0) (n := (xs.length : Int).toNat) (fun i zs H2 => Same H1 H2 ∧ zs = IL ((List.range i).map tp)) ⟨Same.refl _, rfl⟩ (small60' (by omega)) (fun i zs H2 _ ⟨_, e⟩ => by rw [e, il_length, List.length_map, List.length_range]; exact Nat.le_refl _) ?_ ?_⟩
    · rintro i zs H2 hi ⟨s2, rfl⟩ SS hSS
      have hi2 : i < N := by omega
      have s12 := s1.trans s2
      refine nm ?_
      refine ⟨_, rfl, _, rfl, _, rfl, a, b, kd, xs, L, bs, i, N, (by rw [Int.zero_add]; rfl), hA.same s12, hX.imp (fun _ _ h => h.same s12), hB.same s12, hN.symm, hbl, hrow, hi2, by omega, fun r ws H3 s3 hr hW => ?_⟩
      have wl : (wcL L i bs).length = N := (wcL_len (by omega)).trans hN.symm
      refine ⟨r, false, ws, wcL L i bs, rfl, SqL.of hr, hW.imp (fun _ _ ⟨r', e, h⟩ => ⟨r', false, e, SqL.of h⟩), by omega, fun i' j' h1 h2 => ?_, fun _ H4 s4 => ?_, fun h => absurd (fun l hl => by rw [wl]; exact wcL_rows hrow hi2 l hl) h⟩
      · rw [wl] at h1 h2
        rw [wcL_fn hN.symm hbl hrow hi2 h1 h2]
        exact hpb i hi2 i' j' h1 h2
      · refine hSS _ _ ⟨s2.trans (s3.trans s4), ?_⟩
        rw [List.range_succ, List.map_append, wl, det_congr fun i' j' h1 h2 => wcL_fn hN.symm hbl hrow hi2 h1 h2]
        show _ = IL (_ ++ [tp i])
        rw [htp]
        exact (il_snoc ..).symm
    rintro zs H2 ⟨s2, rfl⟩ tA htA
    rw [show (xs.length : Int).toNat = N by omega]
    have u3 := same_at (o := .lst (IL ((List.range N).map tp))) htA
    have ht3 := upd_same (H := H2) (a := tA) (o := .lst (IL ((List.range N).map tp)))
    have s13 := s1.trans (s2.trans u3)
    generalize upd H2 tA (.lst (IL ((List.range N).map tp))) = H3 at *
    refine nm ?_
    dsimp only
    -- the fractions
    refine ⟨_, rfl, tA, rfl, ⟨_, SqL.of ht3⟩, lc_list (K := K) (a := tA) (xs := IL ((List.range N).map tp)) (fun i ws H4 => Same H3 H4 ∧ ∃ fs : List (Int × Int), PairsV H4 ws fs ∧ fs.length = i ∧ i ≤ N ∧ ∀ (j : Nat) (f : Int × Int), fs[j]? = some f → LowF (tp j) (det N (fnL L)) f.1 f.2) ⟨Same.refl _, [], PairsV.nil, rfl, Nat.zero_le _, fun j f h => (by simp at h)⟩ (small60' (by rw [il_length, List.length_map, List.length_range]; omega)) (fun i ws H4 hi ⟨e, fs, h1, h2, _⟩ => ⟨SqL.of (e _ _ ht3), by rw [h1.1, h2]; exact Nat.le_refl _⟩) ?_ ?_⟩
    · rintro i v ws H4 hi ⟨s4, fs, hF, hfl, hiN, hlow⟩ SS hSS
      obtain ⟨y, rfl, hy⟩ := il_get hi
      have hiN' : i < N := by have := (List.getElem?_eq_some_iff.mp hy).1; rw [List.length_map, List.length_range] at this; exact this
      have ey : tp i = y := by rw [List.getElem?_map, List.getElem?_range hiN'] at hy; exact Option.some.inj hy
      refine nm ?_
      refine ⟨_, rfl, _, rfl, y, _, rfl, hdet, by rw [← ey, htp]; exact small _ (hpb i hiN'), small _ hLb, fun p q' hl r hr => ?_⟩
      have u := same_at (o := .tup [.int p, .int q']) hr
      refine hSS _ _ ⟨s4.trans u, fs ++ [(p, q')], (hF.same u).snoc ⟨r, rfl, upd_same⟩, by rw [List.length_append, hfl]; rfl, hiN', fun j f hj => ?_⟩
      by_cases c : j < fs.length
      · rw [List.getElem?_append_left c] at hj
        exact hlow j f hj
      · have hj2 := (List.getElem?_eq_some_iff.mp hj).1
        rw [List.length_append] at hj2
        have ej : j = i := by have : [(p, q')].length = 1 := rfl; omega
        rw [List.getElem?_append_right (by omega), ej, hfl, Nat.sub_self] at hj
        cases hj
        rw [ej, ey]
        exact hl
    rintro ws H4 ⟨s4, fs, hF, hfl, _, hlow⟩ cA hcA
    rw [il_length, List.length_map, List.length_range] at hfl
    have u5 := same_at (o := .lst ws) hcA
    refine ⟨cA, _, rfl, .inl ⟨SqL.of upd_same, fun r hr => ?_⟩⟩
    have u6 := same_at (o := .tup ws) hr
    rw [htp] at hlow
    exact q r ws fs _ (s13.trans (s4.trans (u5.trans u6))) upd_same ((hF.same u5).same u6) hfl hlow
end
end My
namespace My
open PySem L2 PyProof.Rows
set_option maxHeartbeats 4000000
/-- a cell of the script -/
def sp_law_at (K : PySem.W.Frag) : Sp := fun vs H Q _ => ∃ (a : Addr) (ns : List Int) (k : Int), vs = [.ref a, .int k] ∧ SqL K H a (IL ns) ∧ 0 ≤ k ∧ Q (.int (ns.getD k.toNat 0)) H
section
variable {P : Program} {w : World} {K : PySem.W.Frag} {mg : Str → Option Value} {base : Heap} {t : Adr}
theorem sc_law_at : FnScope ["script", "k"] ["script", "k"] (defScope s_law_at) := ⟨rfl, rfl, rfl, by decide +kernel, rfl, by decide +kernel, by decide +kernel⟩
theorem ok_law_at (T : Txt K mg t) : FnOk P w K mg base CX0 1 t.a_law_at t.d_law_at ["script", "k"] (sp_law_at K) := by
  refine T.f_law_at.ok sc_law_at (fun vs H Q E h => ?_) (fun cdv A outer s H vs Q E hr h => ?_)
  · obtain ⟨a, ns, k, rfl, _⟩ := h
    rfl
  · obtain ⟨a, ns, k, rfl, hS, hk, q⟩ := h
    refine ⟨_, (pss_cons (ps_if (pt_cmpR op_lt (pv 1) (pe_callB (call_lenK K) (by rfl) T.n_len Boot.«len» (pa_cons (pv 0) pa_nil)) (nomark _))
      (pss_one (ps_ret (pe_ix (ix_listK K) (pv 0) (pv 1) (fun _ _ => rfl))))
      pss_nil)
      (pss_one (ps_ret pe_int))), ?_⟩
    refine ⟨_, rfl, _, rfl, a, _, rfl, .inl hS, _, _, rfl, rfl, _, rfl, ?_⟩
    refine ite2 (fun hc => ?_) (fun hc => ?_)
    · have hc := of_decide_eq_true hc
      rw [il_length] at hc
      obtain ⟨z, hz⟩ : ∃ z, ns[k.toNat]? = some z := ⟨_, List.getElem?_eq_getElem (by omega)⟩
      exact ⟨_, rfl, _, rfl, a, _, k, .int z, rfl, rfl, hS, atI_of (n := k.toNat) (by omega) (by rw [List.getElem?_map, hz]; rfl), (by rw [getD_of hz] at q; exact q)⟩
    · have hc : ¬ k < ((IL ns).length : Int) := fun z => hc (decide_eq_true z)
      rw [il_length] at hc
      rw [List.getD_eq_getElem?_getD, List.getElem?_eq_none (by omega)] at q
      exact q
end
end My
namespace My
open PySem L2 PyProof.Rows
set_option maxHeartbeats 4000000
/-- a number stirred out of two -/
def sp_law_mixed : Sp := fun vs H Q _ => ∃ (c k : Int), vs = [.int c, .int k] ∧ 0 ≤ k ∧ k < 1000000000 ∧ ∀ r : Int, 0 ≤ r → Q (.int r) H
section
variable {P : Program} {w : World} {K : PySem.W.Frag} {mg : Str → Option Value} {base : Heap} {t : Adr}
theorem sc_law_mixed : FnScope ["cell", "k", "big"] ["cell", "k"] (defScope s_law_mixed) := ⟨rfl, rfl, rfl, by decide +kernel, rfl, by decide +kernel, by decide +kernel⟩
theorem ok_law_mixed (T : Txt K mg t) : FnOk P w K mg base CX0 1 t.a_law_mixed t.d_law_mixed ["cell", "k"] sp_law_mixed := by
  refine T.f_law_mixed.ok sc_law_mixed (fun vs H Q E h => ?_) (fun cdv A outer s H vs Q E hr h => ?_)
  · obtain ⟨c, k, rfl, _⟩ := h
    rfl
  · obtain ⟨c, k, rfl, k0, k1, q⟩ := h
    refine ⟨_, (pss_cons (ps_set (i := 2) sc_law_mixed.nd rfl (Or.inl rfl) (pe_op op_mulC (pe_op op_add (pe_op op_mod (pv 0) (pe_op op_pow pe_int pe_int)) pe_int) (pe_op op_add pe_int (pe_op op_mulC (pe_op op_mulC pe_int (pv 1)) (pv 1)))))
      (pss_cons (ps_set (i := 2) sc_law_mixed.nd rfl (Or.inl rfl) (pe_op op_add (pv 2) (pe_op op_mulC pe_int (pv 1))))
      (pss_one (ps_ret (pe_op op_mod (pe_op op_mulC (pv 2) (pv 2)) (pe_op op_add (pe_op op_pow pe_int pe_int) pe_int)))))), ?_⟩
    have a0 : 0 ≤ c % 10 ^ (60 : Int).toNat := Int.emod_nonneg _ (by decide)
    have a1 : c % 10 ^ (60 : Int).toNat < 10 ^ 60 := Int.emod_lt_of_pos _ (by decide)
    have b := prod_lt (M := 10 ^ 20) (N := 10 ^ 20) (a := 2 * k) (b := k) (by omega) (by omega) k0 (by omega)
    have d := prod_lt (M := 10 ^ 70) (N := 10 ^ 70) (a := c % 10 ^ (60 : Int).toNat + 3) (b := 16180339887498948482045868343656381177203 + 2 * k * k) (by omega) (by omega) (by omega) (by omega)
    refine ⟨_, rfl, _, _, rfl, rfl, ⟨by decide, by decide, by decide⟩, _, _, rfl, rfl, (by show (0 : Int) < 10 ^ 60; decide), _, _, rfl, rfl, _, rfl, _, _, rfl, rfl, ⟨⟨by decide, by decide⟩, by omega, by omega⟩, _, rfl, _, _, rfl, rfl, ⟨⟨by omega, by omega⟩, by omega, by omega⟩, _, _, rfl, rfl, _, _, rfl, rfl, ⟨⟨by omega, by omega⟩, by omega, by omega⟩, ?_⟩
    refine ⟨_, rfl, _, rfl, _, _, rfl, rfl, ⟨⟨by decide, by decide⟩, by omega, by omega⟩, _, _, rfl, rfl, ?_⟩
    refine ⟨_, rfl, _, rfl, _, _, rfl, rfl, ⟨⟨by omega, by omega⟩, by omega, by omega⟩, _, _, rfl, rfl, ⟨by decide, by decide, by decide⟩, _, _, rfl, rfl, _, _, rfl, rfl, (by show (0 : Int) < 10 ^ 60 + 33; decide), ?_⟩
    exact q _ (Int.emod_nonneg _ (by decide))
end
end My
namespace My
open PySem L2 PyProof.Rows
set_option maxHeartbeats 4000000
/-- an int, and no bool -/
def sp_law_whole (K : PySem.W.Frag) : Sp := fun vs H Q _ => ∃ z : Int, vs = [.int z] ∧ Q (.bl true) H
section
variable {P : Program} {w : World} {K : PySem.W.Frag} {mg : Str → Option Value} {base : Heap} {t : Adr}
theorem sc_law_whole : FnScope ["found"] ["found"] (defScope s_law_whole) := ⟨rfl, rfl, rfl, by decide +kernel, rfl, by decide +kernel, by decide +kernel⟩
theorem ok_law_whole (T : Txt K mg t) : FnOk P w K mg base CX0 1 t.a_law_whole t.d_law_whole ["found"] (sp_law_whole K) := by
  refine T.f_law_whole.ok sc_law_whole (fun vs H Q E h => ?_) (fun cdv A outer s H vs Q E hr h => ?_)
  · obtain ⟨z, rfl, _⟩ := h
    rfl
  · obtain ⟨z, rfl, q⟩ := h
    refine ⟨_, (pss_one (ps_ret (pe_and (pe_callB (call_isiK K (T := "int")) (by rfl) T.n_isinstance Boot.«isinstance» (pa_cons (pv 0) (pa_cons (pe_bltn (v := V.ty "int") rfl T.n_int Boot.«int» rfl) pa_nil))) (pe_one (pe_not (pe_callB (call_isiK K (T := "bool")) (by rfl) T.n_isinstance Boot.«isinstance» (pa_cons (pv 0) (pa_cons (pe_bltn (v := V.ty "bool") rfl T.n_bool Boot.«bool» rfl) pa_nil)))))))), ?_⟩
    refine ⟨_, rfl, _, _, _, rfl, TyOf.int _, kit_same, _, rfl, ?_⟩
    refine iteT ?_
    exact ⟨_, rfl, _, _, _, rfl, TyOf.int _, kit_int_bool, _, rfl, q⟩
end
end My
namespace My
open PySem L2 PyProof.Rows
set_option maxHeartbeats 4000000
/-- so many numbers, none too great -/
def sp_law_numbers (K : PySem.W.Frag) : Sp := fun vs H Q _ => ∃ (a : Addr) (ns : List Int) (c st : Int), vs = [.ref a, .int c, .int st] ∧ SqL K H a (IL ns) ∧ ns.length ≤ 63 ∧ 0 ≤ c ∧ c ≤ 100 ∧ 0 ≤ st ∧ st ≤ 100 ∧
  ∀ (r : Addr) (zs : List Int) (H' : Hp), Same H H' → H r = none → H' r = some (.lst (IL zs)) → (zs.length : Int) = c → (∀ z ∈ zs, z.natAbs ≤ 10 ^ 30) → Q (.ref r) H'
theorem ixN_18 {xs : List V} {i : Int} (h0 : 0 ≤ i) (h1 : i < (xs.length : Int)) : ixN xs.length i = some i.toNat := by
  unfold ixN
  rw [if_pos h0, if_pos (by omega)]
section
variable {P : Program} {w : World} {K : PySem.W.Frag} {mg : Str → Option Value} {base : Heap} {t : Adr}
theorem sc_law_numbers : FnScope ["script", "amount", "start", "rest", "told", "k", "cell", "at", "m"] ["script", "amount", "start"] (defScope s_law_numbers) := ⟨rfl, rfl, rfl, by decide +kernel, rfl, by decide +kernel, by decide +kernel⟩
theorem ok_law_numbers (T : Txt K mg t) : FnOk P w K mg base CX0 2 t.a_law_numbers t.d_law_numbers ["script", "amount", "start"] (sp_law_numbers K) := by
  refine T.f_law_numbers.ok sc_law_numbers (fun vs H Q E h => ?_) (fun cdv A outer s H vs Q E hr h => ?_)
  · obtain ⟨a, ns, c, st, rfl, _⟩ := h
    rfl
  · obtain ⟨a, ns, c, st, rfl, hA, hn63, c0, c1, t0, t1, q⟩ := h
    refine ⟨_, (pss_cons (ps_set (i := 3) sc_law_numbers.nd rfl (Or.inl rfl) (pe_op op_mod (pe_call (ok_law_at T) (hr.mono (by decide)) rfl T.m_law_at T.f_law_at.kp T.b_law_at .nil pass0 (pa_cons (pv 0) (pa_cons (pv 2) pa_nil))) (pe_op op_pow pe_int pe_int)))
      (pss_cons (ps_set (i := 4) sc_law_numbers.nd rfl (Or.inl rfl) (pe_lst pa_nil))
      (pss_cons (ps_for PassesOwn.never rfl (pi_range1 rfl T.n_range (pa_cons (pv 1) pa_nil)) (pg_name (i := 5) sc_law_numbers.nd rfl (Or.inl rfl))
      (pss_one (ps_if (pt_cmpR op_eq (pe_op op_mod (pe_call (ok_law_at T) (hr.mono (by decide)) rfl T.m_law_at T.f_law_at.kp T.b_law_at .nil pass0 (pa_cons (pv 0) (pa_cons pe_int pa_nil))) pe_int) pe_int (nomark _))
      (pss_cons (ps_if (pt_cmpR op_eq (pv 3) pe_int (nomark _))
      (pss_one (ps_set (i := 3) sc_law_numbers.nd rfl (Or.inl rfl) (pe_call (ok_law_mixed T) (hr.mono (by decide)) rfl T.m_law_mixed T.f_law_mixed.kp T.b_law_mixed .nil pass0 (pa_cons (pe_call (ok_law_at T) (hr.mono (by decide)) rfl T.m_law_at T.f_law_at.kp T.b_law_at .nil pass0 (pa_cons (pv 0) (pa_cons (pv 2) pa_nil))) (pa_cons (pv 5) pa_nil)))))
      pss_nil)
      (pss_cons (ps_expr (pe_bmK K PySem.F.plainAttrs_list PySem.F.slot_list_append PySem.F.type_list_append mt_append (pv 4) (pa_cons (pe_op op_sub (pe_op op_mod (pv 3) pe_int) pe_int) pa_nil)))
      (pss_one (ps_set (i := 3) sc_law_numbers.nd rfl (Or.inl rfl) (pe_op op_fdiv (pv 3) pe_int)))))
      (pss_one (ps_expr (pe_bmK K PySem.F.plainAttrs_list PySem.F.slot_list_append PySem.F.type_list_append mt_append (pv 4) (pa_cons (pe_call (ok_law_mixed T) (hr.mono (by decide)) rfl T.m_law_mixed T.f_law_mixed.kp T.b_law_mixed .nil pass0 (pa_cons (pe_op op_add (pv 5) (pe_op op_mul pe_int (pv 2))) (pa_cons pe_int pa_nil))) pa_nil)))))))
      (pss_cons (ps_if (pt_cmpR op_eq (pe_op op_mod (pe_call (ok_law_at T) (hr.mono (by decide)) rfl T.m_law_at T.f_law_at.kp T.b_law_at .nil pass0 (pa_cons (pv 0) (pa_cons pe_int pa_nil))) pe_int) pe_int (nomark _))
      (pss_one (ps_ret (pv 4)))
      pss_nil)
      (pss_cons (ps_for PassesOwn.never rfl (pi_enumK K rfl T.n_enumerate (pa_cons (pe_slice (sl_listK K) (pv 0) (po_some pe_int) po_none) pa_nil)) (pg_tupK (n := 2) K rfl (pgs_cons (pg_name (i := 5) sc_law_numbers.nd rfl (Or.inl rfl)) (pgs_cons (pg_name (i := 6) sc_law_numbers.nd rfl (Or.inl rfl)) pgs_nil)))
      (pss_one (ps_if (pt_cmpR op_gt (pv 1) pe_int (nomark _))
      (pss_cons (ps_set (i := 7) sc_law_numbers.nd rfl (Or.inl rfl) (pe_op op_mod (pv 5) (pv 1)))
      (pss_one (ps_asg (pe_call (ok_law_mixed T) (hr.mono (by decide)) rfl T.m_law_mixed T.f_law_mixed.kp T.b_law_mixed .nil pass0 (pa_cons (pe_op op_add (pe_ix (ix_listK K) (pv 4) (pv 7) (fun _ _ => rfl)) (pe_op op_mod (pv 6) (pe_op op_pow pe_int pe_int))) (pa_cons (pe_op op_mod (pv 5) pe_int) pa_nil))) (pg_sub (pv 4) (pv 7) set_list))))
      pss_nil)))
      (pss_cons (ps_for PassesOwn.never rfl (pi_enumK K rfl T.n_enumerate (pa_cons (pe_callTy (call_listK K) (by rfl) T.n_list Boot.«list» (pa_cons (pv 4) pa_nil)) pa_nil)) (pg_tupK (n := 2) K rfl (pgs_cons (pg_name (i := 5) sc_law_numbers.nd rfl (Or.inl rfl)) (pgs_cons (pg_name (i := 8) sc_law_numbers.nd rfl (Or.inl rfl)) pgs_nil)))
      (pss_cons (ps_asg (pe_op op_sub (pe_op op_mod (pe_op op_fdiv (pv 8) pe_int) pe_int) pe_int) (pg_sub (pv 4) (pv 5) set_list))
      (pss_one (ps_if (pt_cmpR op_eq (pe_op op_mod (pv 8) pe_int) pe_int (nomark _))
      (pss_one (ps_asg (pe_op op_sub (pe_op op_mod (pe_op op_fdiv (pv 8) pe_int) (pe_op op_pow pe_int pe_int)) (pe_op op_mul pe_int (pe_op op_pow pe_int pe_int))) (pg_sub (pv 4) (pv 5) set_list)))
      pss_nil))))
      (pss_one (ps_ret (pv 4))))))))), ?_⟩
    obtain ⟨par, hpar⟩ : ∃ par : Int, ns.getD 1 0 % 2 = par := ⟨_, rfl⟩
    refine ⟨_, rfl, _, rfl, a, ns, st, rfl, hA, t0, _, _, rfl, rfl, ⟨by decide, by decide, by decide⟩, _, _, rfl, rfl, (by show (0 : Int) < 10 ^ 60; decide), ?_⟩
    refine nm ?_
    dsimp only
    generalize ns.getD st.toNat 0 % 10 ^ (60 : Int).toNat = rs0 at *
    refine ⟨Nat.zero_le _, fun td htd => ?_⟩
    have u1 := same_at (o := .lst []) htd
    have k1 := upd_same (H := H) (a := td) (o := .lst [])
    generalize upd H td (.lst []) = H1 at *
    refine nm ?_
    dsimp only
    have one1 : ((1 : Int).toNat) = 1 := rfl
    -- the first round
    refine ⟨_, rfl, c, rfl, by omega, by omega, ?_⟩
    refine for_range (lo := 0) (n := c.toNat) (fun i σ H2 => ∃ (rs : Int) (v5 v6 v7 v8 : Option V) (zs : List Int), σ = [some (.ref a), some (.int c), some (.int st), some (.int rs), some (.ref td), v5, v6, v7, v8] ∧ Same H H2 ∧ H2 td = some (.lst (IL zs)) ∧ zs.length = i ∧ (par = 0 → ∀ z ∈ zs, z.natAbs ≤ 10 ^ 30)) ⟨rs0, none, none, none, none, [], rfl, u1, k1, rfl, fun _ z hz => by cases hz⟩ ?_ ?_
    · rintro i σ H2 hi ⟨rs, v5, v6, v7, v8, zs, rfl, s2, k2, hz, hzb⟩
      refine nm ?_
      dsimp only
      refine ⟨_, rfl, a, ns, 1, rfl, s2.seq hA, by decide, _, _, rfl, rfl, (by show (0 : Int) < 2; decide), rfl, _, rfl, ?_⟩
      rw [dec_int, one1, hpar]
      refine itd2 (fun hp => ?_) (fun hp => ?_)
      · refine contS (fun σ H3 => ∃ rs' : Int, H3 = H2 ∧ σ = [some (.ref a), some (.int c), some (.int st), some (.int rs'), some (.ref td), some (.int (0 + (i : Int))), v6, v7, v8]) ?_ ?_
        rotate_left
        · intro Kn hK
          refine ⟨_, rfl, rfl, _, rfl, ?_⟩
          rw [dec_int]
          refine itd2 (fun _ => ?_) (fun _ => hK _ _ ⟨_, rfl, rfl⟩)
          exact ⟨_, rfl, _, rfl, a, ns, st, rfl, s2.seq hA, t0, _, rfl, _, _, rfl, by omega, by omega, fun r3 _ => hK _ _ ⟨r3, rfl, rfl⟩⟩
        rintro σ H3 ⟨rs', rfl, rfl⟩
        have b0 : 0 ≤ rs' % 7 := Int.emod_nonneg _ (by decide)
        have b1 : rs' % 7 < 7 := Int.emod_lt_of_pos _ (by decide)
        refine ⟨_, rfl, .inl ⟨rfl, _, SqL.of k2⟩, _, rfl, _, _, rfl, rfl, (by show (0 : Int) < 7; decide), _, _, rfl, rfl, td, _, _, rfl, rfl, k2, small60' (by rw [il_length]; omega), ?_⟩
        refine ⟨_, rfl, _, _, rfl, rfl, ⟨by decide, by decide⟩, ?_⟩
        refine nm ?_
        refine ⟨_, _, _, _, _, zs ++ [rs' % 7 - 3], rfl, same_upd htd s2, by rw [upd_same, il_snoc], by rw [List.length_append, hz]; rfl, fun hp z hzz => ?_⟩
        rcases List.mem_append.mp hzz with e | e
        · exact hzb hp z e
        · rw [List.mem_singleton.mp e]
          have : (10 : Nat) ≤ 10 ^ 30 := by decide
          omega
      · refine ⟨_, rfl, .inl ⟨rfl, _, SqL.of k2⟩, _, rfl, _, rfl, ?_⟩
        refine ⟨_, _, rfl, rfl, .inl ⟨by decide, by decide⟩, _, _, rfl, rfl, _, 40, rfl, by decide, by decide, fun r3 _ => ?_⟩
        refine ⟨td, _, _, rfl, rfl, k2, small60' (by rw [il_length]; omega), ?_⟩
        exact ⟨_, _, _, _, _, zs ++ [r3], rfl, same_upd htd s2, by rw [upd_same, il_snoc], by rw [List.length_append, hz]; rfl, fun hp' => absurd hp' hp⟩
    rintro σ H2 ⟨rs, v5, v6, v7, v8, zs, rfl, s2, k2, hz, hzb⟩
    -- told as it is
    refine ⟨_, rfl, a, ns, 1, rfl, s2.seq hA, by decide, _, _, rfl, rfl, (by show (0 : Int) < 2; decide), rfl, _, rfl, ?_⟩
    rw [dec_int, one1, hpar]
    refine itd2 (fun hp => ⟨_, rfl, q td zs H2 s2 htd k2 (by omega) (hzb hp)⟩) (fun hp => ?_)
    show (_ : Prop)
    -- stirred
    refine ⟨_, rfl, _, rfl, a, _, rfl, s2.seq hA, fun p1 hp1 => ?_⟩
    rw [cutI_eq]
    generalize cutI ns (some 3) none = cs at *
    have u3 := same_at (o := .lst (IL cs)) hp1
    have pt : p1 ≠ td := Ne.symm (ne_of_none k2 hp1)
    refine ⟨p1, rfl, ⟨_, SqL.of upd_same⟩, for_enum (K := K) (a := p1) (xs := IL cs) (fun i σ H3 => ∃ (v5 v6 v7 v8 : Option V) (zs : List Int), σ = [some (.ref a), some (.int c), some (.int st), some (.int rs), some (.ref td), v5, v6, v7, v8] ∧ Same H H3 ∧ H3 td = some (.lst (IL zs)) ∧ zs.length = c.toNat ∧ H3 p1 = some (.lst (IL cs))) ⟨v5, v6, v7, v8, zs, rfl, s2.trans u3, u3 _ _ k2, hz, upd_same⟩ (fun i σ H3 _ ⟨_, _, _, _, _, _, _, _, _, e⟩ => SqL.of e) ?_ ?_⟩
    · rintro i v σ H3 pt2 hpt hi ⟨w5, w6, w7, w8, zs, rfl, s3, k3, hz3, hp3⟩
      obtain ⟨x, rfl, hx⟩ := il_get hi
      have u4 := same_at (o := .tup [.int i, .int x]) hpt
      refine ⟨pt2, _, rfl, SqT.of upd_same, rfl, _, _, rfl, _, _, rfl, rfl, ?_⟩
      have k4 := u4 _ _ k3
      have hp4 := u4 _ _ hp3
      have s4 := s3.trans u4
      generalize upd H3 pt2 (.tup [.int i, .int x]) = H4 at *
      refine ⟨_, rfl, _, _, rfl, rfl, _, rfl, ?_⟩
      refine itd2 (fun hc => ?_) (fun _ => ⟨_, _, _, _, zs, rfl, s4, k4, hz3, hp4⟩)
      have b0 := Int.emod_nonneg (i : Int) (show c ≠ 0 by omega)
      have b1 := Int.emod_lt_of_pos (i : Int) hc
      refine ⟨_, rfl, _, rfl, _, _, rfl, rfl, hc, ?_⟩
      refine nm ?_
      dsimp only
      generalize (i : Int) % c = at_ at *
      obtain ⟨y, hy⟩ : ∃ y, zs[at_.toNat]? = some y := ⟨_, List.getElem?_eq_getElem (by omega)⟩
      refine ⟨_, rfl, _, rfl, td, _, at_, .int y, rfl, rfl, SqL.of k4, atI_of (n := at_.toNat) (by omega) (il_at hy), _, rfl, _, _, rfl, rfl, ⟨by decide, by decide, by decide⟩, _, _, rfl, rfl, (by show (0 : Int) < 10 ^ 60; decide), _, _, rfl, rfl, _, rfl, _, _, rfl, rfl, (by show (0 : Int) < 37; decide), _, _, rfl, Int.emod_nonneg _ (by decide), Int.lt_trans (Int.emod_lt_of_pos _ (by decide)) (by decide), fun m m0 => ?_⟩
      refine ⟨_, rfl, _, rfl, td, _, _, at_.toNat, rfl, rfl, k4, ixN_18 b0 (by rw [il_length]; omega), ?_⟩
      exact ⟨_, _, _, _, zs.set at_.toNat m, rfl, same_upd htd s4, by rw [upd_same, il_set], by rw [List.length_set]; exact hz3, by rw [upd_ne pt]; exact hp4⟩
    rintro σ H3 ⟨w5, w6, w7, w8, ws, rfl, s3, k3, hw3, _⟩
    -- made small
    refine ⟨_, rfl, td, _, rfl, .inl (SqL.of k3), fun p2 hp2 => ?_⟩
    have u5 := same_at (o := .lst (IL ws)) hp2
    have pt2 : p2 ≠ td := Ne.symm (ne_of_none k3 hp2)
    refine ⟨p2, rfl, ⟨_, SqL.of upd_same⟩, for_enum (K := K) (a := p2) (xs := IL ws) (fun i σ H4 => ∃ (v5 v6 v7 v8 : Option V) (zs : List Int), σ = [some (.ref a), some (.int c), some (.int st), some (.int rs), some (.ref td), v5, v6, v7, v8] ∧ Same H H4 ∧ H4 td = some (.lst (IL zs)) ∧ zs.length = c.toNat ∧ H4 p2 = some (.lst (IL ws)) ∧ ∀ (j : Nat) (z : Int), j < i → zs[j]? = some z → z.natAbs ≤ 10 ^ 30) ⟨w5, w6, w7, w8, ws, rfl, s3.trans u5, u5 _ _ k3, hw3, upd_same, fun j z h => by omega⟩ (fun i σ H4 _ ⟨_, _, _, _, _, _, _, _, _, e, _⟩ => SqL.of e) ?_ ?_⟩
    · rintro i v σ H4 pt3 hpt hi ⟨x5, x6, x7, x8, zs, rfl, s4, k4, hz4, hp4, hb4⟩
      obtain ⟨m, rfl, hm⟩ := il_get hi
      have hi2 := (List.getElem?_eq_some_iff.mp hm).1
      have u6 := same_at (o := .tup [.int i, .int m]) hpt
      refine ⟨pt3, _, rfl, SqT.of upd_same, rfl, _, _, rfl, _, _, rfl, rfl, ?_⟩
      have k6 := u6 _ _ k4
      have hp6 := u6 _ _ hp4
      have s6 := s4.trans u6
      generalize upd H4 pt3 (.tup [.int i, .int m]) = H6 at *
      have d0 : 0 ≤ m / 8 % 13 := Int.emod_nonneg _ (by decide)
      have d1 : m / 8 % 13 < 13 := Int.emod_lt_of_pos _ (by decide)
      have put : ∀ (y : Int) (zs' : List Int), zs'.length = c.toNat → (∀ (j : Nat) (z : Int), j < i → zs'[j]? = some z → z.natAbs ≤ 10 ^ 30) → y.natAbs ≤ 10 ^ 30 → ∀ (j : Nat) (z : Int), j < i + 1 → (zs'.set i y)[j]? = some z → z.natAbs ≤ 10 ^ 30 := fun y zs' hl hb hy j z hj hz => by
        by_cases cj : i = j
        · subst cj
          rw [List.getElem?_set_self (by omega)] at hz
          obtain rfl := Option.some.inj hz
          exact hy
        · rw [List.getElem?_set_ne cj] at hz
          exact hb j z (by omega) hz
      have ten : (10 : Nat) ≤ 10 ^ 30 := by decide
      refine ⟨_, rfl, _, _, rfl, rfl, ⟨by decide, by decide⟩, _, _, rfl, rfl, (by show (0 : Int) < 13; decide), _, _, rfl, rfl, _, rfl, _, rfl, td, _, _, i, rfl, rfl, k6, ixN_18 (by omega) (by rw [il_length]; omega), ?_⟩
      have y1 : (m / 8 % 13 - 6).natAbs ≤ 10 ^ 30 := by omega
      have hb7 := put (m / 8 % 13 - 6) zs hz4 hb4 y1
      have k7 : (upd H6 td (.lst ((IL zs).set i (.int (m / 8 % 13 - 6))))) td = some (.lst (IL (zs.set i (m / 8 % 13 - 6)))) := by rw [upd_same, il_set]
      have s7 : Same H (upd H6 td (.lst ((IL zs).set i (.int (m / 8 % 13 - 6))))) := same_upd htd s6
      have hp7 : (upd H6 td (.lst ((IL zs).set i (.int (m / 8 % 13 - 6))))) p2 = some (.lst (IL ws)) := by rw [upd_ne pt2]; exact hp6
      have hz7 : (zs.set i (m / 8 % 13 - 6)).length = c.toNat := by rw [List.length_set]; exact hz4
      show (_ : Prop)
      generalize upd H6 td (.lst ((IL zs).set i (.int (m / 8 % 13 - 6)))) = H7 at *
      generalize hzs : zs.set i (m / 8 % 13 - 6) = zs7 at *
      refine ⟨_, rfl, _, _, rfl, rfl, (by show (0 : Int) < 6; decide), rfl, _, rfl, ?_⟩
      rw [dec_int]
      refine itd2 (fun _ => ?_) (fun _ => ⟨_, _, _, _, zs7, rfl, s7, k7, hz7, hp7, hb7⟩)
      have f0 : 0 ≤ m / 8 % 10 ^ (30 : Int).toNat := Int.emod_nonneg _ (by decide)
      have f1 : m / 8 % 10 ^ (30 : Int).toNat < 10 ^ (30 : Int).toNat := Int.emod_lt_of_pos _ (by decide)
      have e30 : (10 : Int) ^ (30 : Int).toNat = 1000000000000000000000000000000 := by decide
      have e29 : (5 : Int) * 10 ^ (29 : Int).toNat = 500000000000000000000000000000 := by decide
      have n30 : (10 : Nat) ^ 30 = 1000000000000000000000000000000 := by decide
      have y2 : (m / 8 % 10 ^ (30 : Int).toNat - 5 * 10 ^ (29 : Int).toNat).natAbs ≤ 10 ^ 30 := by
        rw [e30] at f0 f1
        rw [e29, e30, n30]
        omega
      refine ⟨_, rfl, _, _, rfl, rfl, ⟨by decide, by decide⟩, _, _, rfl, rfl, ⟨by decide, by decide, by decide⟩, _, _, rfl, rfl, (by show (0 : Int) < 10 ^ (30 : Int).toNat; decide), _, _, rfl, rfl, ⟨by decide, by decide, by decide⟩, _, _, rfl, rfl, .inl ⟨by decide, by decide⟩, _, _, rfl, rfl, _, rfl, _, rfl, td, _, _, i, rfl, rfl, k7, ixN_18 (by omega) (by rw [il_length]; omega), ?_⟩
      have hb8 := put _ zs7 hz7 (fun j z hj hz => hb7 j z (by omega) hz) y2
      exact ⟨_, _, _, _, _, rfl, same_upd htd s7, by rw [upd_same, il_set], by rw [List.length_set]; exact hz7, by rw [upd_ne pt2]; exact hp7, hb8⟩
    rintro σ H4 ⟨x5, x6, x7, x8, zs, rfl, s4, k4, hz4, _, hb4⟩
    refine ⟨_, rfl, q td zs H4 s4 htd k4 (by omega) fun z hzz => ?_⟩
    obtain ⟨j, hj⟩ := List.getElem?_of_mem hzz
    have := (List.getElem?_eq_some_iff.mp hj).1
    exact hb4 j z (by rw [il_length]; omega) hj
end
end My
namespace My
open PySem L2 PyProof.Rows
set_option maxHeartbeats 4000000
/-- the greatest common divisor -/
def sp_law_common : Sp := fun vs H Q _ => ∃ (x y : Int), vs = [.int x, .int y] ∧ 0 < y ∧ Q (.int (Int.gcd x y)) H
theorem gcd_step18 (a b : Nat) : Nat.gcd b (a % b) = Nat.gcd a b := by rw [Nat.gcd_comm b, ← Nat.gcd_rec, Nat.gcd_comm]
section
variable {P : Program} {w : World} {K : PySem.W.Frag} {mg : Str → Option Value} {base : Heap} {t : Adr}
theorem sc_law_common : FnScope ["one", "other", "rest"] ["one", "other"] (defScope s_law_common) := ⟨rfl, rfl, rfl, by decide +kernel, rfl, by decide +kernel, by decide +kernel⟩
theorem ok_law_common (T : Txt K mg t) : FnOk P w K mg base CX0 1 t.a_law_common t.d_law_common ["one", "other"] sp_law_common := by
  refine T.f_law_common.ok sc_law_common (fun vs H Q E h => ?_) (fun cdv A outer s H vs Q E hr h => ?_)
  · obtain ⟨x, y, rfl, _⟩ := h
    rfl
  · obtain ⟨x, y, rfl, hy, q⟩ := h
    refine ⟨_, (pss_cons (ps_set (i := 0) sc_law_common.nd rfl (Or.inl rfl) (pe_callB call_absI (by rfl) T.n_abs Boot.«abs» (pa_cons (pv 0) pa_nil)))
      (pss_cons (ps_while PassesOwn.never (pt_cmpR op_gt (pv 1) pe_int (nomark _))
      (pss_cons (ps_set (i := 2) sc_law_common.nd rfl (Or.inl rfl) (pe_op op_mod (pv 0) (pv 1)))
      (pss_cons (ps_set (i := 0) sc_law_common.nd rfl (Or.inl rfl) (pv 1))
      (pss_one (ps_set (i := 1) sc_law_common.nd rfl (Or.inl rfl) (pv 2))))))
      (pss_one (ps_ret (pv 0))))), ?_⟩
    refine ⟨_, rfl, x, rfl, ?_⟩
    have ea : (if x < 0 then -x else x) = (x.natAbs : Int) := by split <;> omega
    refine nm ?_
    dsimp only
    rw [ea]
    refine ⟨fun m σ H2 => H2 = H ∧ ∃ (a b : Nat) (v2 : Option V), σ = [some (.int a), some (.int b), v2] ∧ b = m ∧ Nat.gcd a b = Int.gcd x y, ⟨y.natAbs, rfl, x.natAbs, y.natAbs, none, (by rw [show ((y.natAbs : Nat) : Int) = y by omega]; rfl), rfl, rfl⟩, ?_⟩
    rintro m σ H2 ⟨rfl, a, b, v2, rfl, rfl, hg⟩
    refine ⟨_, rfl, _, _, rfl, rfl, _, rfl, ?_⟩
    refine itd2 (fun hb => ?_) (fun hb => ?_)
    · have bp : 0 < b := by omega
      refine ⟨_, fun σ' H' h => h, ?_⟩
      refine ⟨_, rfl, _, rfl, _, _, rfl, rfl, by omega, ?_⟩
      refine nm ?_
      dsimp only
      refine ⟨_, rfl, ?_⟩
      refine nm ?_
      dsimp only
      refine ⟨_, rfl, ?_⟩
      refine nm ?_
      dsimp only
      exact ⟨a % b, Nat.mod_lt _ bp, rfl, b, a % b, some (.int ((a : Int) % (b : Int))), by rw [Int.natCast_emod]; rfl, rfl, (gcd_step18 a b).trans hg⟩
    · have b0 : b = 0 := by omega
      subst b0
      rw [Nat.gcd_zero_right] at hg
      refine ⟨_, rfl, ?_⟩
      rw [hg]
      exact q
end
end My
namespace My
open PySem L2 PyProof.Rows
set_option maxHeartbeats 4000000
/-- what is told of a table and a list: the word, and the fractions -/
def SvV (L : List (List Int)) (bs : List Int) (H : Hp) (w : Str) (v : V) : Prop :=
  (¬ (bs.length = L.length ∧ ∀ l ∈ L, l.length = L.length) ∧ w = "square" ∧ v = .non) ∨ ((bs.length = L.length ∧ ∀ l ∈ L, l.length = L.length) ∧ det L.length (fnL L) = 0 ∧ w = "singular" ∧ v = .non) ∨
  ((bs.length = L.length ∧ ∀ l ∈ L, l.length = L.length) ∧ det L.length (fnL L) ≠ 0 ∧ w = "told" ∧ ∃ (r : Addr) (zs : List V) (fs : List (Int × Int)), v = .ref r ∧ H r = some (.tup zs) ∧ PairsV H zs fs ∧ fs.length = L.length ∧ ∀ (j : Nat) (f : Int × Int), fs[j]? = some f → LowF (det L.length (putc (fnL L) j fun i => bs.getD i 0)) (det L.length (fnL L)) f.1 f.2)
def TvV (L : List (List Int)) (bs : List Int) (H : Hp) (ks : List Bool) (v : V) : Prop :=
  (¬ (bs.length = L.length ∧ ∀ l ∈ L, l.length = L.length) ∧ ks = [true, true, false] ∧ v = .non) ∨ ((bs.length = L.length ∧ ∀ l ∈ L, l.length = L.length) ∧ det L.length (fnL L) = 0 ∧ ks = [true, false, true] ∧ v = .non) ∨
  ((bs.length = L.length ∧ ∀ l ∈ L, l.length = L.length) ∧ det L.length (fnL L) ≠ 0 ∧ ks = [] ∧ ∃ (r : Addr) (zs : List V) (fs : List (Int × Int)), v = .ref r ∧ H r = some (.tup zs) ∧ PairsV H zs fs ∧ fs.length = L.length ∧ ∀ (j : Nat) (f : Int × Int), fs[j]? = some f → LowF (det L.length (putc (fnL L) j fun i => bs.getD i 0)) (det L.length (fnL L)) f.1 f.2)
def sp_law_told (K : PySem.W.Frag) : Sp := fun vs H Q _ => ∃ (a b : Addr) (kd : Bool) (xs : List V) (L : List (List Int)) (bs : List Int), vs = [.ref a, .ref b] ∧ SqK kd K H a xs ∧ Bears (RowV K H) xs L ∧ SqK kd K H b (IL bs) ∧ L.length ≤ 14 ∧ (∀ i j, i < L.length → j < L.length → (fnL L i j).natAbs ≤ 2 ^ 400) ∧ (∀ x ∈ bs, x.natAbs ≤ 2 ^ 400) ∧
  ∀ (t : Addr) (w : Str) (v : V) (H' : Hp), Same H H' → H' t = some (.tup [.str w, v]) → SvV L bs H' w v → Q (.ref t) H'
section
variable {P : Program} {w : World} {K : PySem.W.Frag} {mg : Str → Option Value} {base : Heap} {t : Adr}
theorem sc_law_told : FnScope ["table", "right", "found", "kinds", "e", "k", "word"] ["table", "right"] (defScope s_law_told) := ⟨rfl, rfl, rfl, by decide +kernel, rfl, by decide +kernel, by decide +kernel⟩
theorem ok_law_told (T : Txt K mg t) : FnOk P w K mg base CX0 5 t.a_law_told t.d_law_told ["table", "right"] (sp_law_told K) := by
  refine T.f_law_told.ok sc_law_told (fun vs H Q E h => ?_) (fun cdv A outer s H vs Q E hr h => ?_)
  · obtain ⟨a, b, kd, xs, L, bs, rfl, _⟩ := h
    rfl
  · obtain ⟨a, b, kd, xs, L, bs, rfl, hA, hX, hB, hL14, hLb, hbb, q⟩ := h
    refine ⟨_, (pss_cons (ps_set (i := 2) sc_law_told.nd rfl (Or.inl rfl) pe_non)
      (pss_cons (ps_set (i := 3) sc_law_told.nd rfl (Or.inl rfl) (pe_lst pa_nil))
      (pss_cons (ps_try (i := 4) rfl rfl rfl sc_law_told.nd rfl rfl T.c_WebError rfl (fun R _ => (pss_one (ps_set (i := 2) sc_law_told.nd rfl (Or.inl rfl) (pe_callX (ok_solved T) (hr.mono (by decide)) rfl T.m_solved T.f_solved.kp T.b_solved .nil pxT (pa_cons (pv 0) (pa_cons (pv 1) pa_nil)))))) (fun e C oe _ hoe => (pss_one (ps_set (i := 3) sc_law_told.nd rfl (Or.inl rfl) (pe_lst (pa_cons (pe_callB (call_isiX K (List.mem_append_right _ (List.mem_singleton.mpr rfl)) hoe) (by rfl) T.n_isinstance Boot.«isinstance» (pa_cons (pv 4) (pa_cons (pe_bltn (v := V.ty "ValueError") rfl T.n_ValueError Boot.«ValueError» rfl) pa_nil))) (pa_cons (pe_callB (call_isiX K (List.mem_append_right _ (List.mem_singleton.mpr rfl)) hoe) (by rfl) T.n_isinstance Boot.«isinstance» (pa_cons (pv 4) (pa_cons (pe_glob (v := V.ref t.A_NotSquare) rfl T.c_NotSquare rfl) pa_nil))) (pa_cons (pe_callB (call_isiX K (List.mem_append_right _ (List.mem_singleton.mpr rfl)) hoe) (by rfl) T.n_isinstance Boot.«isinstance» (pa_cons (pv 4) (pa_cons (pe_glob (v := V.ref t.A_Singular) rfl T.c_Singular rfl) pa_nil))) pa_nil))))))))
      (pss_cons (ps_for PassesOwn.never rfl (pi_enumK K rfl T.n_enumerate (pa_cons (pe_lst (pa_cons pe_str (pa_cons pe_str pa_nil))) pa_nil)) (pg_tupK (n := 2) K rfl (pgs_cons (pg_name (i := 5) sc_law_told.nd rfl (Or.inl rfl)) (pgs_cons (pg_name (i := 6) sc_law_told.nd rfl (Or.inl rfl)) pgs_nil)))
      (pss_one (ps_if (pt_cmpR (op_eqDK K (hu8 hr)) (pv 3) (pe_lst (pa_cons pe_bl (pa_cons (pe_cmpR op_eq (pv 5) pe_int (nomark _)) (pa_cons (pe_cmpR op_eq (pv 5) pe_int (nomark _)) pa_nil)))) (nomark _))
      (pss_one (ps_ret (pe_tup (pa_cons (pv 6) (pa_cons pe_non pa_nil)))))
      pss_nil)))
      (pss_one (ps_ret (pe_tup (pa_cons (pe_ix (ix_listK K) (pe_lst (pa_cons pe_str (pa_cons pe_str pa_nil))) (pe_callTy call_int1 (by rfl) T.n_int Boot.«int» (pa_cons (pe_cmpR op_gt (pe_callB (call_lenK K) (by rfl) T.n_len Boot.«len» (pa_cons (pv 3) pa_nil)) pe_int (nomark _)) pa_nil)) (fun _ _ => rfl)) (pa_cons (pv 2) pa_nil))))))))), ?_⟩
    refine asgC ?_
    refine ⟨Nat.zero_le _, fun kl hkl => ?_⟩
    have s0 := same_at (o := .lst []) hkl
    have hk0 := upd_same (H := H) (a := kl) (o := .lst [])
    refine nm ?_
    dsimp only
    generalize upd H kl (.lst []) = H0 at *
    refine contS (fun σ H2 => ∃ (v : V) (kl : Addr) (ks : List Bool), σ = [some (.ref a), some (.ref b), some v, some (.ref kl), none, none, none] ∧ Same H H2 ∧ H2 kl = some (.lst (ks.map V.bl)) ∧ TvV L bs H2 ks v) ?_ ?_
    rotate_left
    · intro Kn hK
      refine tryX (fun σ' C H' => σ' = [some (.ref a), some (.ref b), some .non, some (.ref kl), none, none, none] ∧ Same H H' ∧ ∃ b1 b2 : Bool, XCls K C ∧ PySem.W.kitOne K (.ref C) (.type "ValueError") = some true ∧ PySem.W.kitOne K (.ref C) (.ref t.A_NotSquare) = some b1 ∧ PySem.W.kitOne K (.ref C) (.ref t.A_Singular) = some b2 ∧ PySem.W.exmOne K (.ref C) (.ref t.A_WebError) = some true ∧ ∀ H2, TvV L bs H2 [true, b1, b2] .non) ?_ ?_
      · rintro σ' C H' ⟨rfl, s1, b1, b2, hx, hk1, hk2, hk3, hem, hres⟩
        refine ⟨hem, fun e he => ?_⟩
        refine ⟨_, rfl, _, _, _, rfl, fun z h => h, hx, hk1, _, rfl, _, _, _, rfl, fun z h => h, hx, hk2, _, rfl, _, _, _, rfl, fun z h => h, hx, hk3, (by show 3 ≤ sizeLine; decide), fun kk hkk => ?_⟩
        have s2 := same_at (o := .lst ([true, b1, b2].map V.bl)) hkk
        exact hK _ _ ⟨.non, kk, [true, b1, b2], rfl, s1.trans s2, upd_same, hres _⟩
      · intro R hR
        refine ⟨_, rfl, _, rfl, a, b, kd, xs, L, bs, rfl, hA.same s0, hX.imp (fun _ _ h => h.same s0), hB.same s0, hL14, hLb, hbb, fun h1 h2 h3 r zs fs H1 s1 hr1 hF hfl hlow => ?_, fun hno H1 s1 => ?_, fun h1 h2 h3 H1 s1 => ?_⟩
        · exact hK _ _ ⟨.ref r, kl, [], rfl, s0.trans s1, s1 _ _ hk0, .inr (.inr ⟨⟨h1, h2⟩, h3, rfl, r, zs, fs, rfl, hr1, hF, hfl, hlow⟩)⟩
        · exact hR _ _ _ ⟨rfl, s0.trans s1, true, false, T.x_NotSquare, T.ki_NotSquare_ValueError, kit_same, T.ki_NotSquare_Singular, T.em_NotSquare, fun _ => .inl ⟨hno, rfl, rfl⟩⟩
        · exact hR _ _ _ ⟨rfl, s0.trans s1, false, true, T.x_Singular, T.ki_Singular_ValueError, T.ki_Singular_NotSquare, kit_same, T.em_Singular, fun _ => .inr (.inl ⟨⟨h1, h2⟩, h3, rfl, rfl⟩)⟩
    rintro σ H2 ⟨v, kl, ks, rfl, s2, hk2, hT2⟩
    have two : 2 ≤ sizeLine := by decide
    refine ⟨two, fun wl hwl => ?_⟩
    have u3 := same_at (o := .lst [.str "square", .str "singular"]) hwl
    have k3 : (upd H2 wl (.lst [.str "square", .str "singular"])) wl = some (.lst [.str "square", .str "singular"]) := upd_same
    refine ⟨wl, rfl, ⟨_, SqL.of k3⟩, for_enum (K := K) (a := wl) (xs := [.str "square", .str "singular"]) (fun i σ H4 => ∃ v5 v6 : Option V, σ = [some (.ref a), some (.ref b), some v, some (.ref kl), none, v5, v6] ∧ Same H2 H4 ∧ H4 wl = some (.lst [.str "square", .str "singular"]) ∧ (1 ≤ i → ks ≠ [true, true, false]) ∧ (2 ≤ i → ks ≠ [true, false, true])) ⟨none, none, rfl, u3, k3, fun h => by omega, fun h => by omega⟩ (fun i σ H4 _ ⟨_, _, _, _, e, _⟩ => SqL.of e) ?_ ?_⟩
    · rintro i y σ H4 pt hpt hi ⟨v5, v6, rfl, s4, k4, n1, n2⟩
      have u5 := same_at (o := .tup [.int i, y]) hpt
      refine ⟨pt, _, rfl, SqT.of upd_same, rfl, _, _, rfl, _, _, rfl, rfl, ?_⟩
      have k5 := u5 _ _ k4
      have s5 := s4.trans u5
      generalize upd H4 pt (.tup [.int i, y]) = H5 at *
      have ii : i = 0 ∨ i = 1 := by have := (List.getElem?_eq_some_iff.mp hi).1; have : i < 2 := this; omega
      refine ⟨_, rfl, _, rfl, rfl, _, rfl, rfl, (by show 3 ≤ sizeLine; decide), fun e1 he1 => ?_⟩
      rw [dec_int, dec_int]
      have u6 := same_at (o := .lst ([true, decide ((i : Int) = 0), decide ((i : Int) = 1)].map V.bl)) he1
      refine ⟨1, _, kl, e1, rfl, rfl, by decide, eqd_bools (bs := ks) (cs := [true, decide ((i : Int) = 0), decide ((i : Int) = 1)]) (SqL.of (u6 _ _ (s5 _ _ hk2))) (SqL.of upd_same), _, rfl, ?_⟩
      have s6 := s5.trans u6
      have s06 := s2.trans s6
      refine itd2 (fun he => ?_) (fun he => ?_)
      · refine ⟨_, rfl, two, fun r hr => ?_⟩
        have u7 := same_at (o := .tup [y, .non]) hr
        rcases ii with rfl | rfl
        · obtain rfl : .str "square" = y := Option.some.inj hi
          have hks : ks = [true, true, false] := he
          refine q r "square" .non _ (s06.trans u7) upd_same ?_
          rcases hT2 with ⟨a1, a2, a3⟩ | ⟨a1, a2, a3, _⟩ | ⟨a1, a2, a3, _⟩
          · exact .inl ⟨a1, rfl, rfl⟩
          · rw [hks] at a3; cases a3
          · rw [hks] at a3; cases a3
        · obtain rfl : .str "singular" = y := Option.some.inj hi
          have hks : ks = [true, false, true] := he
          refine q r "singular" .non _ (s06.trans u7) upd_same ?_
          rcases hT2 with ⟨a1, a2, a3⟩ | ⟨a1, a2, a3, _⟩ | ⟨a1, a2, a3, _⟩
          · rw [hks] at a2; cases a2
          · exact .inr (.inl ⟨a1, a2, rfl, rfl⟩)
          · rw [hks] at a3; cases a3
      · refine ⟨_, _, rfl, s6, u6 _ _ k5, fun _ => ?_, fun h2 => ?_⟩
        · rcases ii with rfl | rfl
          · exact he
          · exact n1 (by omega)
        · rcases ii with rfl | rfl
          · omega
          · exact he
    rintro σ H4 ⟨v5, v6, rfl, s4, k4, n1, n2⟩
    have n1 := n1 (by show 1 ≤ 2; omega)
    have n2 := n2 (by show 2 ≤ 2; omega)
    obtain ⟨g1, g2, g3, r, zs, fs, rfl, hr2, hF2, hfl, hlow⟩ : (bs.length = L.length ∧ ∀ l ∈ L, l.length = L.length) ∧ det L.length (fnL L) ≠ 0 ∧ ks = [] ∧ ∃ (r : Addr) (zs : List V) (fs : List (Int × Int)), v = .ref r ∧ H2 r = some (.tup zs) ∧ PairsV H2 zs fs ∧ fs.length = L.length ∧ ∀ (j : Nat) (f : Int × Int), fs[j]? = some f → LowF (det L.length (putc (fnL L) j fun i => bs.getD i 0)) (det L.length (fnL L)) f.1 f.2 := by
      rcases hT2 with ⟨_, a2, _⟩ | ⟨_, _, a3, _⟩ | h
      · exact absurd a2 n1
      · exact absurd a3 n2
      · exact h
    subst g3
    refine ⟨two, fun wA hwA => ?_⟩
    have u5 := same_at (o := .lst [.str "told", .str "other"]) hwA
    refine ⟨_, rfl, kl, _, rfl, .inl (SqL.of (u5 _ _ (s4 _ _ hk2))), _, _, rfl, rfl, .inr ⟨_, rfl, ?_⟩⟩
    refine ⟨wA, _, 0, .str "told", rfl, rfl, SqL.of upd_same, rfl, _, rfl, two, fun tA htA => ?_⟩
    have u6 := same_at (o := .tup [.str "told", .ref r]) htA
    have s26 := s4.trans (u5.trans u6)
    exact q tA "told" (.ref r) _ (s2.trans s26) upd_same (.inr (.inr ⟨g1, g2, rfl, r, zs, fs, rfl, s26 _ _ hr2, hF2.same s26, hfl, hlow⟩))
end
end My
namespace My
open PySem L2 PyProof.Rows
set_option maxHeartbeats 4000000
/-- whether the fractions solve the table -/
def sp_law_good (K : PySem.W.Frag) : Sp := fun vs H Q _ => ∃ (r a b : Addr) (zs xs : List V) (fs : List (Int × Int)) (L : List (List Int)) (bs : List Int), vs = [.ref r, .ref a, .ref b] ∧ H r = some (.tup zs) ∧ PairsV H zs fs ∧ SqL K H a xs ∧ Bears (ListV H) xs L ∧ SqL K H b (IL bs) ∧ L.length ≤ 6 ∧ fs.length = L.length ∧ bs.length = L.length ∧ (∀ l ∈ L, l.length = L.length) ∧ (∀ i j, i < L.length → j < L.length → (fnL L i j).natAbs ≤ 2 ^ 110) ∧ (∀ x ∈ bs, x.natAbs ≤ 2 ^ 110) ∧ det L.length (fnL L) ≠ 0 ∧ (∀ (j : Nat) (f : Int × Int), fs[j]? = some f → LowF (det L.length (putc (fnL L) j fun i => bs.getD i 0)) (det L.length (fnL L)) f.1 f.2) ∧
  ∀ H' : Hp, Same H H' → Q (.bl true) H'
theorem good_row {n p : Nat} {A : Mx} {b f1 f2 q : Nat → Int} {B : Int} (hp : p < n) (hD : det n A ≠ 0) (hl : ∀ j, j < n → f1 j * det n A = det n (putc A j b) * f2 j) (hq : ∀ j, j < n → q j * f2 j = B) : sm n (fun j => A p j * f1 j * q j) = b p * B := by
  refine Int.eq_of_mul_eq_mul_left hD ?_
  have e : det n A * sm n (fun j => A p j * f1 j * q j) = B * sm n (fun j => A p j * det n (putc A j b)) := by
    rw [← sm_mul, ← sm_mul]
    refine sm_congr fun j hj => ?_
    have h1 := hl j hj
    have h2 := hq j hj
    grind
  rw [e, cramer hp]
  grind
theorem nxI18 {D : Ends} {σ : L2.St} {H : Hp} (h : D.nx σ H) : tNext D σ H := h
/-- the product of the first bottoms -/
def btm (fs : List (Int × Int)) : Nat → Int
  | 0 => 1
  | k + 1 => btm fs k * (fs.getD k (0, 1)).2
theorem btm_dvd {fs : List (Int × Int)} {k : Nat} : ∀ {m : Nat}, k < m → (fs.getD k (0, 1)).2 ∣ btm fs m
  | 0, h => by omega
  | m + 1, h => by
    show _ ∣ btm fs m * (fs.getD m (0, 1)).2
    by_cases c : k = m
    · rw [c]; exact Int.dvd_mul_left ..
    · exact Int.dvd_trans (btm_dvd (m := m) (by omega)) (Int.dvd_mul_right ..)
theorem btm_bnd {fs : List (Int × Int)} {B : Nat} (h : ∀ f ∈ fs, 0 < f.2 ∧ f.2.natAbs ≤ 2 ^ B) : ∀ m, m ≤ fs.length → 0 < btm fs m ∧ (btm fs m).natAbs ≤ 2 ^ (B * m)
  | 0, _ => ⟨by show (0 : Int) < 1; decide, by show (1 : Int).natAbs ≤ 2 ^ (B * 0); rw [Nat.mul_zero]; decide⟩
  | m + 1, hm => by
    obtain ⟨a1, a2⟩ := btm_bnd h m (by omega)
    obtain ⟨f, hf⟩ : ∃ f, fs[m]? = some f := ⟨_, List.getElem?_eq_getElem (by omega)⟩
    obtain ⟨b1, b2⟩ := h f (List.mem_of_getElem? hf)
    show 0 < btm fs m * (fs.getD m (0, 1)).2 ∧ (btm fs m * (fs.getD m (0, 1)).2).natAbs ≤ 2 ^ (B * (m + 1))
    rw [getD_of hf]
    refine ⟨Int.mul_pos a1 b1, ?_⟩
    rw [Int.natAbs_mul, Nat.mul_succ, Nat.pow_add]
    exact Nat.mul_le_mul a2 b2
theorem sum_sm18 (f : Nat → Int) : ∀ n, ((List.range n).map f).sum = sm n f
  | 0 => rfl
  | n + 1 => by
    rw [List.range_succ, List.map_append]
    show ((List.range n).map f ++ [f n]).sum = sm n f + f n
    rw [sum_snocI, sum_sm18 f n]
theorem fdiv_ex {a b : Int} (h : b ∣ a) (hb : 0 < b) : a.fdiv b * b = a ∧ (a.fdiv b).natAbs ≤ a.natAbs := by
  obtain ⟨k, rfl⟩ := h
  rw [Int.mul_fdiv_cancel_left _ (by omega)]
  refine ⟨Int.mul_comm .., ?_⟩
  rw [Int.natAbs_mul]
  exact Nat.le_mul_of_pos_left _ (by omega)
theorem low_bndN {x y p q : Int} (hy : y ≠ 0) (h : LowF x y p q) : q.natAbs ≤ y.natAbs ∧ p.natAbs ≤ x.natAbs := by
  have q0 := h.1
  rcases Int.lt_or_gt_of_ne hy with c | c
  · have h' : LowF (-x) (-y) p q := ⟨h.1, h.2.1, by rw [Int.mul_neg, h.2.2, Int.neg_mul]⟩
    obtain ⟨a, b⟩ := low_bnd (by omega) h'
    rw [Int.natAbs_neg] at b
    exact ⟨by omega, b⟩
  · obtain ⟨a, b⟩ := low_bnd c h
    exact ⟨by omega, b⟩
section
variable {P : Program} {w : World} {K : PySem.W.Frag} {mg : Str → Option Value} {base : Heap} {t : Adr}
theorem sc_law_good : FnScope ["found", "table", "right", "bottom", "part", "row", "number", "total"] ["found", "table", "right"] (defScope s_law_good) := ⟨rfl, rfl, rfl, by decide +kernel, rfl, by decide +kernel, by decide +kernel⟩
theorem ok_law_good (T : Txt K mg t) : FnOk P w K mg base CX0 3 t.a_law_good t.d_law_good ["found", "table", "right"] (sp_law_good K) := by
  refine T.f_law_good.ok sc_law_good (fun vs H Q E h => ?_) (fun cdv A outer s H vs Q E hr h => ?_)
  · obtain ⟨r, a, b, zs, xs, fs, L, bs, rfl, _⟩ := h
    rfl
  · obtain ⟨r, a, b, zs, xs, fs, L, bs, rfl, hrz, hF, hA, hX, hB, hL6, hfl, hbl, hrow, hLb, hbb, hdet, hlow, q⟩ := h
    refine ⟨_, (pss_cons (ps_if (PW.pt (pw_or (pt_not (pt_val (pe_callB (call_isiK K (T := "tuple")) (by rfl) T.n_isinstance Boot.«isinstance» (pa_cons (pv 0) (pa_cons (pe_bltn (v := V.ty "tuple") rfl T.n_tuple Boot.«tuple» rfl) pa_nil))))) (pw_or1 (pt_cmpR op_ne (pe_callB (call_lenK K) (by rfl) T.n_len Boot.«len» (pa_cons (pv 0) pa_nil)) (pe_callB (call_lenK K) (by rfl) T.n_len Boot.«len» (pa_cons (pv 1) pa_nil)) (nomark _)))))
      (pss_one (ps_ret pe_bl))
      pss_nil)
      (pss_cons (ps_set (i := 3) sc_law_good.nd rfl (Or.inr rfl) pe_int)
      (pss_cons (ps_for PassesOwn.never rfl (pi_tupK K (pv 0)) (pg_name (i := 4) sc_law_good.nd rfl (Or.inl rfl))
      (pss_cons (ps_if (PW.pt (pw_or (pt_not (pt_val (pe_callB (call_isiK K (T := "tuple")) (by rfl) T.n_isinstance Boot.«isinstance» (pa_cons (pv 4) (pa_cons (pe_bltn (v := V.ty "tuple") rfl T.n_tuple Boot.«tuple» rfl) pa_nil))))) (pw_or (pt_cmpR op_ne (pe_callB (call_lenK K) (by rfl) T.n_len Boot.«len» (pa_cons (pv 4) pa_nil)) pe_int (nomark _)) (pw_or (pt_not (pt_val (pe_call (ok_law_whole T) (hr.mono (by decide)) rfl T.m_law_whole T.f_law_whole.kp T.b_law_whole .nil pass0 (pa_cons (pe_ix (ix_tupK K) (pv 4) pe_int (fun _ _ => rfl)) pa_nil)))) (pw_or1 (pt_not (pt_val (pe_call (ok_law_whole T) (hr.mono (by decide)) rfl T.m_law_whole T.f_law_whole.kp T.b_law_whole .nil pass0 (pa_cons (pe_ix (ix_tupK K) (pv 4) pe_int (fun _ _ => rfl)) pa_nil)))))))))
      (pss_one (ps_ret pe_bl))
      pss_nil)
      (pss_cons (ps_if (PW.pt (pw_or (pt_cmpR op_lt (pe_ix (ix_tupK K) (pv 4) pe_int (fun _ _ => rfl)) pe_int (nomark _)) (pw_or1 (pt_cmpR op_ne (pe_call (ok_law_common T) (hr.mono (by decide)) rfl T.m_law_common T.f_law_common.kp T.b_law_common .nil pass0 (pa_cons (pe_ix (ix_tupK K) (pv 4) pe_int (fun _ _ => rfl)) (pa_cons (pe_ix (ix_tupK K) (pv 4) pe_int (fun _ _ => rfl)) pa_nil))) pe_int (nomark _)))))
      (pss_one (ps_ret pe_bl))
      pss_nil)
      (pss_one (ps_set (i := 3) sc_law_good.nd rfl (Or.inr rfl) (pe_op op_mulL (pv 3) (pe_ix (ix_tupK K) (pv 4) pe_int (fun _ _ => rfl))))))))
      (pss_cons (ps_for PassesOwn.never rfl (pi_zipK K rfl T.n_zip (pa_cons (pv 1) (pa_cons (pv 2) pa_nil))) (pg_tupK (n := 2) K rfl (pgs_cons (pg_name (i := 5) sc_law_good.nd rfl (Or.inl rfl)) (pgs_cons (pg_name (i := 6) sc_law_good.nd rfl (Or.inl rfl)) pgs_nil)))
      (pss_cons (ps_set (i := 7) sc_law_good.nd rfl (Or.inl rfl) (pe_callB (call_sumK K rfl) (by rfl) T.n_sum Boot.«sum» (pa_cons (pe_lc rfl (sc0 := defScope s_law_good) (N0 := ["found", "table", "right", "bottom", "part", "row", "number", "total"]) (N' := ["times", "part", "bottom"]) (o := 2) (fr := [3]) ⟨rfl, by decide +kernel, by decide +kernel, by decide +kernel, rfl, by decide +kernel⟩ (pi_zipK K rfl T.n_zip (pa_cons (pv 5) (pa_cons (pv 0) pa_nil))) (own_tup (own_cons (by decide) (own_cons (by decide) own_nil))) (fun _ _ _ _ => (pg_tupK (n := 2) K rfl (pgs_cons (pg_name (i := 0) (show List.Nodup (["times", "part", "bottom"] : List Str) by decide +kernel) rfl (Or.inl rfl)) (pgs_cons (pg_name (i := 1) (show List.Nodup (["times", "part", "bottom"] : List Str) by decide +kernel) rfl (Or.inl rfl)) pgs_nil)))) (fun _ _ _ _ => pts_nil) (fun _ _ _ _ => (pe_op op_mulL (pe_op op_mulL (pv 0) (pe_ix (ix_tupK K) (pv 1) pe_int (fun _ _ => rfl))) (pe_op op_fdivL (pv 2) (pe_ix (ix_tupK K) (pv 1) pe_int (fun _ _ => rfl)))))) pa_nil)))
      (pss_one (ps_if (pt_cmpR op_ne (pv 7) (pe_op op_mulL (pv 6) (pv 3)) (nomark _))
      (pss_one (ps_ret pe_bl))
      pss_nil))))
      (pss_one (ps_ret pe_bl)))))), ?_⟩
    obtain ⟨N, hN⟩ : ∃ N, N = L.length := ⟨_, rfl⟩
    rw [← hN] at hL6 hfl hbl hrow hLb hdet hlow
    have hxl := hX.1
    have hzl := hF.1
    -- bounds
    have dB : ∀ A : Mx, (∀ i j, i < N → j < N → (A i j).natAbs ≤ 2 ^ 110) → (det N A).natAbs ≤ 2 ^ 1000 := fun A hA => Nat.le_trans (det_abs hA) (Nat.le_trans (bnd_le (b := 110) (by omega)) (Nat.pow_le_pow_right (by decide) (by omega)))
    have fB : ∀ f ∈ fs, (0 < f.2 ∧ f.2.natAbs ≤ 2 ^ 1000) ∧ f.1.natAbs ≤ 2 ^ 1000 ∧ Int.gcd f.1 f.2 = 1 := fun f hf => by
      obtain ⟨j, hj⟩ := List.getElem?_of_mem hf
      have hjN : j < N := by have := (List.getElem?_eq_some_iff.mp hj).1; omega
      have l := hlow j f hj
      obtain ⟨b1, b2⟩ := low_bndN hdet l
      refine ⟨⟨l.1, Nat.le_trans b1 (dB _ hLb)⟩, Nat.le_trans b2 (dB _ fun i k hi hk => ?_), l.2.1⟩
      unfold putc
      split
      · show (bs.getD i 0).natAbs ≤ _
        rw [List.getD_eq_getElem?_getD]
        cases hz : bs[i]? with
        | none => exact Nat.zero_le _
        | some y => exact hbb y (List.mem_of_getElem? hz)
      · exact hLb i k hi hk
    refine ⟨_, rfl, _, _, _, rfl, TyOf.tup hrz, kit_same, _, rfl, ?_⟩
    refine iteF ?_
    refine ⟨_, rfl, r, zs, rfl, .inr (SqT.of hrz), _, rfl, a, xs, rfl, .inl hA, rfl, _, rfl, ?_⟩
    rw [dec_int]
    refine itn (c := (zs.length : Int) = (xs.length : Int)) (by omega) ?_
    refine asgC ?_
    have bB := btm_bnd (B := 1000) fun f hf => (fB f hf).1
    have lt9 : ∀ (z : Int) (e : Nat), z.natAbs ≤ 2 ^ e → e < 9000 → z.natAbs < 2 ^ 9000 := fun z e hz he => Nat.lt_of_le_of_lt hz (Nat.pow_lt_pow_right (by decide) he)
    have i0 : ∀ a b : Int, atI ([.int a, .int b] : List V) 0 = some (.int a) := fun _ _ => rfl
    have i1 : ∀ a b : Int, atI ([.int a, .int b] : List V) 1 = some (.int b) := fun _ _ => rfl
    -- the fractions
    refine ⟨_, rfl, r, rfl, ⟨_, SqT.of hrz⟩, for_tup (K := K) (a := r) (xs := zs) (fun i σ H2 => ∃ v4 : Option V, σ = [some (.ref r), some (.ref a), some (.ref b), some (.int (btm fs i)), v4, none, none, none] ∧ Same H H2 ∧ i ≤ fs.length) ⟨none, rfl, Same.refl _, Nat.zero_le _⟩ (fun i σ H2 _ ⟨_, _, e, _⟩ => SqT.of (e _ _ hrz)) ?_ ?_⟩
    · rintro i v σ H2 hi ⟨v4, rfl, s2, hil⟩
      obtain ⟨f, hf, tt, rfl, htt⟩ := hF.at hi
      have hil' := (List.getElem?_eq_some_iff.mp hf).1
      obtain ⟨⟨f0, f2⟩, f1, fg⟩ := fB f (List.mem_of_getElem? hf)
      have ht2 := s2 _ _ htt
      refine nm ?_
      dsimp only
      refine ⟨_, rfl, _, _, _, rfl, TyOf.tup ht2, kit_same, _, rfl, ?_⟩
      refine iteF ?_
      refine ⟨_, rfl, tt, _, rfl, .inr (SqT.of ht2), rfl, _, rfl, ?_⟩
      refine itn (c := True) trivial ?_
      refine ⟨_, rfl, tt, _, 0, .int f.1, rfl, rfl, SqT.of ht2, i0 _ _, f.1, rfl, _, rfl, ?_⟩
      refine iteF ?_
      refine ⟨_, rfl, tt, _, 1, .int f.2, rfl, rfl, SqT.of ht2, i1 _ _, f.2, rfl, _, rfl, ?_⟩
      refine iteF ?_
      show (_ : Prop)
      refine nxI18 ?_
      dsimp only
      refine ⟨_, rfl, tt, _, 1, .int f.2, rfl, rfl, SqT.of ht2, i1 _ _, _, _, rfl, rfl, _, rfl, ?_⟩
      refine itd2 (fun h => absurd h (by omega)) (fun _ => ?_)
      refine ⟨_, rfl, tt, _, 0, .int f.1, rfl, rfl, SqT.of ht2, i0 _ _, _, rfl, tt, _, 1, .int f.2, rfl, rfl, SqT.of ht2, i1 _ _, f.1, f.2, rfl, f0, rfl, _, rfl, ?_⟩
      rw [dec_int, fg]
      refine itn (c := ((1 : Nat) : Int) = 1) rfl ?_
      show (_ : Prop)
      refine nxI18 ?_
      dsimp only
      obtain ⟨bb0, bb1⟩ := bB i hil
      refine ⟨_, rfl, _, rfl, tt, _, 1, .int f.2, rfl, rfl, SqT.of ht2, i1 _ _, _, _, rfl, rfl, ⟨lt9 _ _ bb1 (by omega), lt9 _ _ f2 (by decide)⟩, ?_⟩
      refine nm ?_
      dsimp only
      have eb : btm fs (i + 1) = btm fs i * f.2 := by show btm fs i * (fs.getD i (0, 1)).2 = _; rw [getD_of hf]
      exact ⟨some (.ref tt), by rw [eb]; rfl, s2, hil'⟩
    rintro σ H2 ⟨v4, rfl, s2, _⟩
    rw [hzl, hfl]
    obtain ⟨bb0, bb1⟩ := bB N (by omega)
    -- the rows
    have hA2 := s2.seq hA
    refine ⟨_, rfl, _, rfl, a, b, false, rfl, ⟨_, _, hA2, s2.seq hB⟩, for_zipK (K := K) (kd := false) (a := a) (b := b) (xs := xs) (ys := IL bs) (by rw [il_length]; omega) (fun i σ H3 => ∃ v4 v5 v6 v7 : Option V, σ = [some (.ref r), some (.ref a), some (.ref b), some (.int (btm fs N)), v4, v5, v6, v7] ∧ Same H H3) ⟨v4, none, none, none, rfl, s2⟩ (fun i σ H3 _ ⟨_, _, _, _, _, e⟩ => ⟨e.seq hA, e.seq hB⟩) ?_ (fun σ H3 ⟨_, _, _, _, e, s3⟩ => ?_)⟩
    · rintro p u w σ H3 pt hpt hu hw ⟨w4, w5, w6, w7, rfl, s3⟩
      obtain ⟨l, hl, lr, rfl, hlr⟩ := hX.at hu
      obtain ⟨y, rfl, hy⟩ := il_get hw
      have hpN : p < N := by have := (List.getElem?_eq_some_iff.mp hy).1; omega
      have ll := hrow l (List.mem_of_getElem? hl)
      have u4 := same_at (o := .tup [.ref lr, .int y]) hpt
      refine ⟨pt, _, rfl, SqT.of upd_same, rfl, _, _, rfl, _, _, rfl, rfl, ?_⟩
      have s4 := s3.trans u4
      generalize upd H3 pt (.tup [.ref lr, .int y]) = H4 at *
      have hlr4 := s4 _ _ hlr
      have ey : bs.getD p 0 = y := getD_of hy
      -- the sum
      obtain ⟨tm, htm⟩ : ∃ tm : Nat → Int, tm = fun j => fnL L p j * (fs.getD j (0, 1)).1 * (btm fs N).fdiv (fs.getD j (0, 1)).2 := ⟨_, rfl⟩
      refine ⟨_, rfl, _, rfl, lr, r, true, rfl, ⟨_, _, SqL.of hlr4, SqT.of (s4 _ _ hrz)⟩, lc_zipK (K := K) (kd := true) (a := lr) (b := r) (xs := IL l) (ys := zs) (fun j ws H5 => Same H4 H5 ∧ ws = IL ((List.range j).map tm)) ⟨Same.refl _, rfl⟩ (by rw [il_length]; omega) (small60' (by rw [il_length]; omega)) (fun j ws H5 _ ⟨e, ez⟩ => ⟨SqL.of (e _ _ hlr4), SqT.of ((s4.trans e) _ _ hrz), by rw [ez, il_length, List.length_map, List.length_range]; exact Nat.le_refl _⟩) ?_ ?_⟩
      · rintro j u2 w2 ws H5 pt2 hpt2 hu2 hw2 ⟨s5, rfl⟩ SS hSS
        obtain ⟨x, rfl, hx⟩ := il_get hu2
        obtain ⟨f, hf, tt, rfl, htt⟩ := hF.at hw2
        have hjN : j < N := by have := (List.getElem?_eq_some_iff.mp hx).1; omega
        obtain ⟨⟨f0, f2⟩, f1, fg⟩ := fB f (List.mem_of_getElem? hf)
        have u6 := same_at (o := .tup [.int x, .ref tt]) hpt2
        have ht6 := ((s4.trans s5).trans u6) _ _ htt
        refine ⟨pt2, _, rfl, SqT.of upd_same, rfl, _, _, rfl, _, _, rfl, rfl, ?_⟩
        have exx : fnL L p j = x := fnL_at hl hx
        have xB : x.natAbs ≤ 2 ^ 110 := by rw [← exx]; exact hLb p j hpN hjN
        have qB : ((btm fs N).fdiv f.2).natAbs ≤ 2 ^ (1000 * N) := by
          have d := btm_dvd (fs := fs) hjN
          rw [getD_of hf] at d
          exact Nat.le_trans (fdiv_ex d f0).2 bb1
        have mB : (x * f.1).natAbs ≤ 2 ^ 1110 := by
          rw [Int.natAbs_mul]
          refine Nat.le_trans (Nat.mul_le_mul xB f1) ?_
          rw [← Nat.pow_add]
          exact Nat.le_refl _
        refine ⟨_, rfl, _, rfl, tt, _, 0, .int f.1, rfl, rfl, SqT.of ht6, i0 _ _, _, _, rfl, rfl, ⟨lt9 _ _ xB (by decide), lt9 _ _ f1 (by decide)⟩, _, rfl, _, rfl, tt, _, 1, .int f.2, rfl, rfl, SqT.of ht6, i1 _ _, _, _, rfl, rfl, ⟨by omega, lt9 _ _ f2 (by decide)⟩, _, _, rfl, rfl, ⟨lt9 _ _ mB (by decide), lt9 _ _ qB (by omega)⟩, hSS _ _ ⟨s5.trans u6, ?_⟩⟩
        rw [List.range_succ, List.map_append]
        have et : tm j = x * f.1 * (btm fs N).fdiv f.2 := by rw [htm]; show fnL L p j * (fs.getD j (0, 1)).1 * (btm fs N).fdiv (fs.getD j (0, 1)).2 = _; rw [exx, getD_of hf]
        show _ = IL (_ ++ [tm j])
        rw [et]
        exact (il_snoc ..).symm
      rintro ws H5 ⟨s5, rfl⟩ sA hsA
      rw [il_length, ll]
      have u7 := same_at (o := .lst (IL ((List.range N).map tm))) hsA
      refine ⟨sA, _, rfl, SqL.of upd_same, ?_⟩
      have tot : ((List.range N).map tm).sum = y * btm fs N := by
        rw [sum_sm18, htm, ← ey]
        refine good_row (A := fnL L) (b := fun i => bs.getD i 0) (f1 := fun j => (fs.getD j (0, 1)).1) (f2 := fun j => (fs.getD j (0, 1)).2) (q := fun j => (btm fs N).fdiv (fs.getD j (0, 1)).2) hpN hdet (fun j hj => ?_) (fun j hj => ?_)
        · obtain ⟨f, hf⟩ : ∃ f, fs[j]? = some f := ⟨_, List.getElem?_eq_getElem (by omega)⟩
          have := (hlow j f hf).2.2
          show (fs.getD j (0, 1)).1 * _ = _ * (fs.getD j (0, 1)).2
          rw [getD_of hf]
          exact this
        · obtain ⟨f, hf⟩ : ∃ f, fs[j]? = some f := ⟨_, List.getElem?_eq_getElem (by omega)⟩
          have d := btm_dvd (fs := fs) hj
          show (btm fs N).fdiv (fs.getD j (0, 1)).2 * (fs.getD j (0, 1)).2 = _
          rw [getD_of hf] at d ⊢
          exact (fdiv_ex d (fB f (List.mem_of_getElem? hf)).1.1).1
      have yB : y.natAbs ≤ 2 ^ 110 := hbb y (List.mem_of_getElem? hy)
      refine nm ?_
      dsimp only
      rw [tot]
      refine ⟨_, rfl, _, rfl, _, rfl, _, _, rfl, rfl, ⟨lt9 _ _ yB (by decide), lt9 _ _ bb1 (by omega)⟩, rfl, _, rfl, ?_⟩
      rw [dec_int]
      refine itn rfl ?_
      exact ⟨_, _, _, _, rfl, s4.trans (s5.trans u7)⟩
    · subst e
      exact q H3 s3
end
end My
namespace My
open PySem L2 PyProof.Rows
set_option maxHeartbeats 4000000
def sp_law (K : PySem.W.Frag) : Sp := fun vs H Q _ => ∃ (a : Addr) (ns : List Int), vs = [.ref a] ∧ SqL K H a (IL ns) ∧ ns.length ≤ 63 ∧ ∀ H', Q (.bl true) H'
theorem cutI_mid {ns : List Int} {lo n : Int} (h0 : 0 ≤ lo) (hn : 0 ≤ n) (h1 : lo + n ≤ (ns.length : Int)) : (cutI ns (some lo) (some (lo + n))).length = n.toNat ∧ ∀ z ∈ cutI ns (some lo) (some (lo + n)), z ∈ ns := by
  have e1 : HT.sIx ns.length 0 (some lo) = lo.toNat := by
    show (if lo < 0 then (lo + (ns.length : Int)).toNat else min lo.toNat ns.length) = _
    rw [if_neg (by omega)]
    omega
  have e2 : HT.sIx ns.length ns.length (some (lo + n)) = (lo + n).toNat := by
    show (if lo + n < 0 then (lo + n + (ns.length : Int)).toNat else min (lo + n).toNat ns.length) = _
    rw [if_neg (by omega)]
    omega
  unfold cutI
  rw [e1, e2]
  refine ⟨by rw [List.length_take, List.length_drop]; omega, fun z hz => List.mem_of_mem_drop (List.mem_of_mem_take hz)⟩
theorem bears_set {α : Type} [DecidableEq α] {R : V → α → Prop} {xs : List V} {l : List α} {v : V} {x : α} (h : Bears R xs l) (i : Nat) (q : R v x) : Bears R (xs.set i v) (l.set i x) := by
  have hl := h.1
  refine ⟨by rw [List.length_set, List.length_set]; exact hl, fun j y e => ?_⟩
  by_cases c : i = j
  · subst c
    rw [List.getElem?_set, if_pos rfl] at e
    by_cases hlt : i < l.length
    · rw [if_pos hlt] at e
      obtain rfl := Option.some.inj e
      exact ⟨v, by rw [List.getElem?_set, if_pos rfl, if_pos (by omega)], q⟩
    · rw [if_neg hlt] at e
      cases e
  · rw [List.getElem?_set, if_neg c] at e
    obtain ⟨w, e1, r⟩ := h.2 j y e
    exact ⟨w, by rw [List.getElem?_set, if_neg c]; exact e1, r⟩
theorem rep_18 (x : V) (k : Nat) : (List.replicate k [x]).flatten = List.replicate k x := by
  induction k with
  | zero => rfl
  | succ k ih => rw [List.replicate_succ, List.flatten_cons, ih, List.replicate_succ]; rfl
theorem fnL_abs18 {L : List (List Int)} {B : Nat} (h : ∀ l ∈ L, ∀ z ∈ l, z.natAbs ≤ B) (i j : Nat) : (fnL L i j).natAbs ≤ B := by
  cases h1 : L[i]? with
  | none =>
    have e : L.getD i [] = [] := by rw [List.getD_eq_getElem?_getD, h1]; rfl
    unfold fnL
    rw [e]
    exact Nat.zero_le _
  | some l =>
    cases h2 : l[j]? with
    | none =>
      have e : L.getD i [] = l := by rw [List.getD_eq_getElem?_getD, h1]; rfl
      unfold fnL
      rw [e, List.getD_eq_getElem?_getD, h2]
      exact Nat.zero_le _
    | some x =>
      rw [fnL_at h1 h2]
      exact h l (List.mem_of_getElem? h1) x (List.mem_of_getElem? h2)
theorem eqd_18 {K : PySem.W.Frag} {H : Hp} {p q a b c d : Addr} {xs ys : List V} {L : List (List Int)} {bs : List Int} (hp : SqT K H p [.ref a, .ref b]) (hq : SqT K H q [.ref c, .ref d]) (ha : SqL K H a xs) (hc : SqL K H c ys) (h1 : Bears (ListV H) xs L) (h2 : Bears (ListV H) ys L) (hb : SqL K H b (IL bs)) (hd : SqL K H d (IL bs)) : EqD K H 3 (.ref p) (.ref q) true := by
  have k1 := eqd_llints ha hc h1 h2
  rw [decide_eq_true rfl] at k1
  have k2 : EqD K H 2 (.ref b) (.ref d) (decide (bs = bs)) := eqd_lists (n := 1) hb hd (bears_ints bs) (bears_ints bs) fun _ _ _ _ => eqd_int
  rw [decide_eq_true rfl] at k2
  have k := EqD.tups (n := 2) (e := fun _ => true) hp hq fun i x y ex ey => by
    rcases i with _ | _ | i
    · cases ex; cases ey; exact k1
    · cases ex; cases ey; exact k2
    · simp at ex
  exact k
theorem SvV.same {L : List (List Int)} {bs : List Int} {H H' : Hp} {w : Str} {v : V} (s : Same H H') (h : SvV L bs H w v) : SvV L bs H' w v := by
  rcases h with h | h | ⟨h1, h2, h3, r, zs, fs, h4, h5, h6, h7⟩
  · exact .inl h
  · exact .inr (.inl h)
  · exact .inr (.inr ⟨h1, h2, h3, r, zs, fs, h4, s _ _ h5, h6.same s, h7⟩)
/-- the table between two steps -/
def TbP (K : PySem.W.Frag) (H : Hp) (a nA tA rA : Addr) (hd : Int) (n : Nat) (bs : List Int) (B : Nat) (σ : L2.St) (H' : Hp) : Prop := ∃ (ys : List V) (L : List (List Int)), σ = [some (.ref a), some (.int hd), some (.int n), some (.ref nA), some (.ref tA), some (.ref rA), none, none, none] ∧ Same H H' ∧ H' tA = some (.lst ys) ∧ Bears (LiV tA H') ys L ∧ L.length = n ∧ (∀ l ∈ L, l.length = n) ∧ (∀ l ∈ L, ∀ z ∈ l, z.natAbs ≤ B) ∧ H' rA = some (.lst (IL bs))
section
variable {P : Program} {w : World} {K : PySem.W.Frag} {mg : Str → Option Value} {base : Heap} {t : Adr}
theorem sc_law : FnScope ["script", "head", "size", "numbers", "table", "right", "handed", "told", "longer"] ["script"] (defScope s_law) := ⟨rfl, rfl, rfl, by decide +kernel, rfl, by decide +kernel, by decide +kernel⟩
theorem ok_law (T : Txt K mg t) : FnOk P w K mg base CX0 7 t.a_law t.d_law ["script"] (sp_law K) := by
  refine T.f_law.ok sc_law (fun vs H Q E h => ?_) (fun cdv A outer s H vs Q E hr h => ?_)
  · obtain ⟨a, ns, rfl, _⟩ := h
    rfl
  · obtain ⟨a, ns, rfl, hS, hn63, k⟩ := h
    refine ⟨_, (pss_cons (ps_set (i := 1) sc_law.nd rfl (Or.inl rfl) (pe_op op_mod (pe_call (ok_law_at T) (hr.mono (by decide)) rfl T.m_law_at T.f_law_at.kp T.b_law_at .nil pass0 (pa_cons (pv 0) (pa_cons pe_int pa_nil))) (pe_op op_pow pe_int pe_int)))
      (pss_cons (ps_set (i := 2) sc_law.nd rfl (Or.inr rfl) (pe_op op_mod (pv 1) pe_int))
      (pss_cons (ps_set (i := 3) sc_law.nd rfl (Or.inr rfl) (pe_call (ok_law_numbers T) (hr.mono (by decide)) rfl T.m_law_numbers T.f_law_numbers.kp T.b_law_numbers .nil pass0 (pa_cons (pv 0) (pa_cons (pe_op op_mul (pv 2) (pv 2)) (pa_cons pe_int pa_nil)))))
      (pss_cons (ps_lc (i := 4) rfl sc_law.nd rfl rfl (sc0 := defScope s_law) (N0 := ["script", "head", "size", "numbers", "table", "right", "handed", "told", "longer"]) (N' := ["k", "numbers", "size"]) (o := 1) (fr := [3, 2]) ⟨rfl, by decide +kernel, by decide +kernel, by decide +kernel, rfl, by decide +kernel⟩ (pi_range1 rfl T.n_range (pa_cons (pv 2) pa_nil)) (own_name (by decide)) (fun _ _ _ _ => (pg_name (i := 0) (show List.Nodup (["k", "numbers", "size"] : List Str) by decide +kernel) rfl (Or.inl rfl))) (fun _ _ _ _ => pts_nil) (fun _ _ _ _ => (pe_slice (sl_listK K) (pv 1) (po_some (pe_op op_mul (pv 2) (pv 0))) (po_some (pe_op op_add (pe_op op_mul (pv 2) (pv 0)) (pv 2))))))
      (pss_cons (ps_set (i := 5) sc_law.nd rfl (Or.inl rfl) (pe_call (ok_law_numbers T) (hr.mono (by decide)) rfl T.m_law_numbers T.f_law_numbers.kp T.b_law_numbers .nil pass0 (pa_cons (pv 0) (pa_cons (pv 2) (pa_cons pe_int pa_nil)))))
      (pss_cons (ps_if (PW.pt (pw_and (pt_cmpR op_eq (pe_op op_mod (pe_op op_fdiv (pv 1) pe_int) pe_int) pe_int (nomark _)) (pw_and1 (pt_cmpR op_gt (pv 2) pe_int (nomark _)))))
      (pss_one (ps_asg (pe_lc rfl (sc0 := defScope s_law) (N0 := ["script", "head", "size", "numbers", "table", "right", "handed", "told", "longer"]) (N' := ["left", "other"]) (o := 2) (fr := []) ⟨rfl, by decide +kernel, by decide +kernel, by decide +kernel, rfl, by decide +kernel⟩ (pi_zip K rfl T.n_zip (pa_cons (pe_ix (ix_listK K) (pv 4) pe_int (fun _ _ => rfl)) (pa_cons (pe_ix (ix_listK K) (pv 4) pe_int (fun _ _ => rfl)) pa_nil))) (own_tup (own_cons (by decide) (own_cons (by decide) own_nil))) (fun _ _ _ _ => (pg_tupK (n := 2) K rfl (pgs_cons (pg_name (i := 0) (show List.Nodup (["left", "other"] : List Str) by decide +kernel) rfl (Or.inl rfl)) (pgs_cons (pg_name (i := 1) (show List.Nodup (["left", "other"] : List Str) by decide +kernel) rfl (Or.inl rfl)) pgs_nil)))) (fun _ _ _ _ => pts_nil) (fun _ _ _ _ => (pe_op op_add (pv 0) (pv 1)))) (pg_sub (pv 4) pe_int set_list)))
      pss_nil)
      (pss_cons (ps_if (PW.pt (pw_and (pt_cmpR op_eq (pe_op op_mod (pe_op op_fdiv (pv 1) pe_int) pe_int) pe_int (nomark _)) (pw_and1 (pt_cmpR op_gt (pv 2) pe_int (nomark _)))))
      (pss_one (ps_asg (pe_op op_rep (pe_lst (pa_cons pe_int pa_nil)) (pv 2)) (pg_sub (pv 4) (pe_op op_mod (pe_op op_fdiv (pv 1) pe_int) (pv 2)) set_list)))
      pss_nil)
      (pss_cons (ps_set (i := 6) sc_law.nd rfl (Or.inl rfl) (pe_tup (pa_cons (pe_lc rfl (sc0 := defScope s_law) (N0 := ["script", "head", "size", "numbers", "table", "right", "handed", "told", "longer"]) (N' := ["row"]) (o := 1) (fr := []) ⟨rfl, by decide +kernel, by decide +kernel, by decide +kernel, rfl, by decide +kernel⟩ (pi_listK K (pv 4)) (own_name (by decide)) (fun _ _ _ _ => (pg_name (i := 0) (show List.Nodup (["row"] : List Str) by decide +kernel) rfl (Or.inl rfl))) (fun _ _ _ _ => pts_nil) (fun _ _ _ _ => (pe_callTy (call_listK K) (by rfl) T.n_list Boot.«list» (pa_cons (pv 0) pa_nil)))) (pa_cons (pe_callTy (call_listK K) (by rfl) T.n_list Boot.«list» (pa_cons (pv 5) pa_nil)) pa_nil))))
      (pss_cons (ps_set (i := 7) sc_law.nd rfl (Or.inl rfl) (pe_call (ok_law_told T) (hr.mono (by decide)) rfl T.m_law_told T.f_law_told.kp T.b_law_told .nil pass0 (pa_cons (pe_ix (ix_tupK K) (pv 6) pe_int (fun _ _ => rfl)) (pa_cons (pe_ix (ix_tupK K) (pv 6) pe_int (fun _ _ => rfl)) pa_nil))))
      (pss_cons (ps_if (pt_cmpR (op_neDK K (hu8 hr)) (pv 6) (pe_tup (pa_cons (pv 4) (pa_cons (pv 5) pa_nil))) (nomark _))
      (pss_one (ps_ret pe_bl))
      pss_nil)
      (pss_cons (ps_if (pt_cmpR op_eq (pe_call (ok_determinant T) (hr.mono (by decide)) rfl T.m_determinant T.f_determinant.kp T.b_determinant .nil passN (pa_cons (pv 4) pa_nil)) pe_int (nomark _))
      (pss_one (ps_if (pt_cmpR op_ne (pe_ix (ix_tupK K) (pv 7) pe_int (fun _ _ => rfl)) pe_str (nomark _))
      (pss_one (ps_ret pe_bl))
      pss_nil))
      (pss_one (ps_if (PW.pt (pw_or (pt_cmpR op_ne (pe_ix (ix_tupK K) (pv 7) pe_int (fun _ _ => rfl)) pe_str (nomark _)) (pw_or1 (pt_not (pt_val (pe_call (ok_law_good T) (hr.mono (by decide)) rfl T.m_law_good T.f_law_good.kp T.b_law_good .nil pass0 (pa_cons (pe_ix (ix_tupK K) (pv 7) pe_int (fun _ _ => rfl)) (pa_cons (pv 4) (pa_cons (pv 5) pa_nil)))))))))
      (pss_one (ps_ret pe_bl))
      (pss_one (ps_if (pt_cmpR (op_neDK K (hu8 hr)) (pe_call (ok_solved T) (hr.mono (by decide)) rfl T.m_solved T.f_solved.kp T.b_solved .nil passN (pa_cons (pe_callTy (call_tupleK K) (by rfl) T.n_tuple Boot.«tuple» (pa_cons (pe_lc rfl (sc0 := defScope s_law) (N0 := ["script", "head", "size", "numbers", "table", "right", "handed", "told", "longer"]) (N' := ["row"]) (o := 1) (fr := []) ⟨rfl, by decide +kernel, by decide +kernel, by decide +kernel, rfl, by decide +kernel⟩ (pi_listK K (pv 4)) (own_name (by decide)) (fun _ _ _ _ => (pg_name (i := 0) (show List.Nodup (["row"] : List Str) by decide +kernel) rfl (Or.inl rfl))) (fun _ _ _ _ => pts_nil) (fun _ _ _ _ => (pe_callTy (call_tupleK K) (by rfl) T.n_tuple Boot.«tuple» (pa_cons (pv 0) pa_nil)))) pa_nil)) (pa_cons (pe_callTy (call_tupleK K) (by rfl) T.n_tuple Boot.«tuple» (pa_cons (pv 5) pa_nil)) pa_nil))) (pe_ix (ix_tupK K) (pv 7) pe_int (fun _ _ => rfl)) (nomark _))
      (pss_one (ps_ret pe_bl))
      pss_nil)))))
      (pss_cons (ps_set (i := 8) sc_law.nd rfl (Or.inl rfl) (pe_op op_cat (pe_lc rfl (sc0 := defScope s_law) (N0 := ["script", "head", "size", "numbers", "table", "right", "handed", "told", "longer"]) (N' := ["row"]) (o := 1) (fr := []) ⟨rfl, by decide +kernel, by decide +kernel, by decide +kernel, rfl, by decide +kernel⟩ (pi_listK K (pv 4)) (own_name (by decide)) (fun _ _ _ _ => (pg_name (i := 0) (show List.Nodup (["row"] : List Str) by decide +kernel) rfl (Or.inl rfl))) (fun _ _ _ _ => pts_nil) (fun _ _ _ _ => (pe_callTy (call_listK K) (by rfl) T.n_list Boot.«list» (pa_cons (pv 0) pa_nil)))) (pe_lst (pa_cons (pe_op op_rep (pe_lst (pa_cons pe_int pa_nil)) (pe_op op_add (pv 2) pe_int)) pa_nil))))
      (pss_one (ps_ret (pe_and (pe_cmpR op_eq (pe_ix (ix_tupK K) (pe_call (ok_law_told T) (hr.mono (by decide)) rfl T.m_law_told T.f_law_told.kp T.b_law_told .nil pass0 (pa_cons (pv 4) (pa_cons (pe_op op_cat (pv 5) (pe_lst (pa_cons pe_int pa_nil))) pa_nil))) pe_int (fun _ _ => rfl)) pe_str (nomark _)) (pe_one (pe_cmpR op_eq (pe_ix (ix_tupK K) (pe_call (ok_law_told T) (hr.mono (by decide)) rfl T.m_law_told T.f_law_told.kp T.b_law_told .nil pass0 (pa_cons (pv 8) (pa_cons (pe_op op_cat (pv 5) (pe_lst (pa_cons pe_int pa_nil))) pa_nil))) pe_int (fun _ _ => rfl)) pe_str (nomark _)))))))))))))))))), ?_⟩
    refine ⟨_, rfl, a, ns, 0, rfl, hS, by decide, _, _, rfl, rfl, ⟨by decide, by decide, by decide⟩, _, _, rfl, rfl, (by show (0 : Int) < 10 ^ 30; decide), ?_⟩
    refine nm ?_
    dsimp only
    generalize ns.getD (0 : Int).toNat 0 % 10 ^ (30 : Int).toNat = hd at *
    have z0 : 0 ≤ hd % 7 := Int.emod_nonneg _ (by decide)
    have z1 : hd % 7 < 7 := Int.emod_lt_of_pos _ (by decide)
    refine ⟨_, rfl, _, _, rfl, rfl, (by show (0 : Int) < 7; decide), ?_⟩
    refine nm ?_
    dsimp only
    generalize hd % 7 = sz at *
    have zz := prod_lt (M := 7) (N := 7) z0 z1 z0 z1
    refine ⟨_, rfl, _, rfl, _, rfl, _, _, rfl, rfl, .inl ⟨by omega, by omega⟩, a, ns, sz * sz, 2, rfl, hS, hn63, zz.1, by omega, by decide, by decide, fun nA zs H1 s1 hn0 hn1 zl zb => ?_⟩
    refine nm ?_
    dsimp only
    obtain ⟨n, rfl⟩ : ∃ n : Nat, sz = (n : Int) := ⟨sz.toNat, by omega⟩
    -- table
    refine ⟨_, rfl, _, rfl, by omega, by omega, lc_range (lo := 0) (n := (n : Int).toNat) (fun i ws H2 => Same H1 H2 ∧ ∃ L : List (List Int), Bears (ListV H2) ws L ∧ L.length = i ∧ (∀ l ∈ L, l.length = n) ∧ ∀ l ∈ L, ∀ z ∈ l, z.natAbs ≤ 10 ^ 30) ⟨Same.refl _, [], ⟨rfl, fun i a e => by cases e⟩, rfl, fun l h => (by cases h), fun l h => (by cases h)⟩ (small60' (by omega)) (fun i ws H2 _ ⟨_, L, e, el, _⟩ => by rw [e.1, el]; exact Nat.le_refl _) ?_ ?_⟩
    · rintro i ws H2 hi ⟨s2, L, hB, hL, hLl, hLb⟩ S hSS
      have hin : i < n := by omega
      have mul1 : (n : Int) * (i : Int) + (n : Int) ≤ (n : Int) * (n : Int) := by
        have : (n : Int) * (i : Int) + (n : Int) = (n : Int) * ((i : Int) + 1) := by rw [Int.mul_add, Int.mul_one]
        rw [this]
        exact Int.mul_le_mul_of_nonneg_left (by omega) (by omega)
      have mul0 : 0 ≤ (n : Int) * (i : Int) := Int.mul_nonneg (by omega) (by omega)
      rw [Int.zero_add]
      refine nm ?_
      refine ⟨_, rfl, _, rfl, _, rfl, _, _, rfl, rfl, .inl ⟨by omega, by omega⟩, _, rfl, _, rfl, _, rfl, _, _, rfl, rfl, .inl ⟨by omega, by omega⟩, _, rfl, _, _, rfl, rfl, _, rfl, nA, _, rfl, SqL.of (s2 _ _ hn1), fun p1 hp1 => ?_⟩
      rw [cutI_eq]
      have mid := cutI_mid (ns := zs) (lo := (n : Int) * (i : Int)) (n := (n : Int)) mul0 (by omega) (by omega)
      generalize cutI zs (some ((n : Int) * (i : Int))) (some ((n : Int) * (i : Int) + (n : Int))) = cs at *
      have u1 := same_at (o := .lst (IL cs)) hp1
      refine hSS _ _ ⟨s2.trans u1, L ++ [cs], (hB.imp fun _ _ ⟨r', e, h⟩ => ⟨r', e, u1 _ _ h⟩).snoc ⟨p1, rfl, upd_same⟩, by rw [List.length_append, List.length_singleton, hL], fun l hl => ?_, fun l hl z hz => ?_⟩
      · rcases List.mem_append.mp hl with e | e
        · exact hLl l e
        · rw [List.mem_singleton.mp e, mid.1]
          omega
      · rcases List.mem_append.mp hl with e | e
        · exact hLb l e z hz
        · rw [List.mem_singleton.mp e] at hz
          exact zb z (mid.2 z hz)
    rintro ws H2 ⟨s2, L, hB, hL, hLl, hLb⟩ tA htA
    have hLn : L.length = n := by omega
    have s3 := same_at (o := .lst ws) htA
    have htA3 : (upd H2 tA (.lst ws)) tA = some (.lst ws) := upd_same
    have hB3 : Bears (LiV tA (upd H2 tA (.lst ws))) ws L := hB.imp fun _ _ ⟨r', e, h⟩ => ⟨r', e, s3 _ _ h, ne_of_none h htA⟩
    have t3 := s1.trans (s2.trans s3)
    have hT0 : H tA = none := (s1.trans s2).free htA
    generalize upd H2 tA (.lst ws) = H3 at *
    clear hB
    refine nm ?_
    dsimp only
    -- right
    refine ⟨_, rfl, _, rfl, a, ns, (n : Int), 3, rfl, t3.seq hS, hn63, by omega, by omega, by decide, by decide, fun rA bs H4 s4 hr0 hr4 bl bb => ?_⟩
    refine nm ?_
    dsimp only
    have tr : tA ≠ rA := fun e => by rw [e] at htA3; exact absurd htA3 (by rw [show H3 rA = none from hr0]; intro z; cases z)
    have st0 : TbP K H a nA tA rA hd n bs (10 ^ 30) [some (.ref a), some (.int hd), some (.int n), some (.ref nA), some (.ref tA), some (.ref rA), none, none, none] H4 := ⟨ws, L, rfl, t3.trans s4, s4 _ _ htA3, hB3.imp fun _ _ h => h.same s4, hLn, hLl, hLb, hr4⟩
    refine contS (TbP K H a nA tA rA hd n bs (2 * 10 ^ 30)) ?_ ?_
    rotate_left
    · intro Kn hK
      refine ⟨_, rfl, _, _, rfl, rfl, ⟨by decide, by decide⟩, _, _, rfl, rfl, (by show (0 : Int) < 5; decide), rfl, _, rfl, ?_⟩
      rw [dec_int]
      have same0 : TbP K H a nA tA rA hd n bs (2 * 10 ^ 30) [some (.ref a), some (.int hd), some (.int n), some (.ref nA), some (.ref tA), some (.ref rA), none, none, none] H4 := by
        obtain ⟨ys, L, e1, e2, e3, e4, e5, e6, e7, e8⟩ := st0
        exact ⟨ys, L, e1, e2, e3, e4, e5, e6, fun l hl z hz => Nat.le_trans (e7 l hl z hz) (by decide), e8⟩
      refine itd2 (fun _ => ?_) (fun _ => iteF (hK _ _ same0))
      refine ⟨_, rfl, _, _, rfl, rfl, _, rfl, ?_⟩
      refine itd2 (fun hn2 => ?_) (fun _ => hK _ _ same0)
      have htA4 := s4 _ _ htA3
      have wl := hB3.1
      obtain ⟨l0, hl0⟩ : ∃ l, L[0]? = some l := ⟨_, List.getElem?_eq_getElem (by omega)⟩
      obtain ⟨l1, hl1⟩ : ∃ l, L[1]? = some l := ⟨_, List.getElem?_eq_getElem (by omega)⟩
      obtain ⟨x0, hx0, r0, rfl, hr0', _⟩ := hB3.2 _ _ hl0
      obtain ⟨x1, hx1, r1, rfl, hr1', _⟩ := hB3.2 _ _ hl1
      have a0 : atI ws (0 : Int) = some (.ref r0) := atI_of (n := 0) rfl hx0
      have a1 : atI ws (1 : Int) = some (.ref r1) := atI_of (n := 1) rfl hx1
      have k0 := s4 _ _ hr0'
      have k1 := s4 _ _ hr1'
      have ll0 := hLl l0 (List.mem_of_getElem? hl0)
      have ll1 := hLl l1 (List.mem_of_getElem? hl1)
      refine ⟨_, rfl, tA, ws, 0, _, rfl, rfl, SqL.of htA4, a0, _, rfl, tA, ws, 1, _, rfl, rfl, SqL.of htA4, a1, r0, r1, rfl, ⟨_, _, SqL.of k0, SqL.of k1⟩, lc_zip (K := K) (a := r0) (b := r1) (xs := IL l0) (ys := IL l1) (fun j us H5 => Same H4 H5 ∧ ∃ cs : List Int, us = IL cs ∧ cs.length = j ∧ ∀ z ∈ cs, z.natAbs ≤ 2 * 10 ^ 30) ⟨Same.refl _, [], rfl, rfl, fun z h => by cases h⟩ (by rw [il_length, il_length]; omega) (small60' (by rw [il_length]; omega)) (fun j us H5 _ ⟨e, cs, ez, el, _⟩ => ⟨SqL.of (e _ _ k0), SqL.of (e _ _ k1), by rw [ez, il_length, el]; exact Nat.le_refl _⟩) ?_ ?_⟩
      · rintro j u v us H5 pt hpt hu hv ⟨s5, cs, rfl, cl, cb⟩ S hSS
        obtain ⟨x, rfl, hx⟩ := il_get hu
        obtain ⟨y, rfl, hy⟩ := il_get hv
        have u6 := same_at (o := .tup [.int x, .int y]) hpt
        refine ⟨pt, _, rfl, SqT.of upd_same, rfl, _, _, rfl, _, _, rfl, rfl, ?_⟩
        have bx := hLb l0 (List.mem_of_getElem? hl0) x (List.mem_of_getElem? hx)
        have by' := hLb l1 (List.mem_of_getElem? hl1) y (List.mem_of_getElem? hy)
        refine ⟨_, rfl, _, rfl, _, _, rfl, rfl, hSS _ _ ⟨s5.trans u6, cs ++ [x + y], (il_snoc ..).symm, by rw [List.length_append, cl]; rfl, fun z hz => ?_⟩⟩
        rcases List.mem_append.mp hz with e | e
        · exact cb z e
        · rw [List.mem_singleton.mp e]; omega
      · rintro us H5 ⟨s5, cs, rfl, cl, cb⟩ nr hnr
        rw [il_length, ll0] at cl
        have u6 := same_at (o := .lst (IL cs)) hnr
        have htA6 := u6 _ _ (s5 _ _ htA4)
        have nrt : nr ≠ tA := Ne.symm (ne_of_none (s5 _ _ htA4) hnr)
        have s46 := s5.trans u6
        have i2 : ixN ws.length (2 : Int) = some 2 := by unfold ixN; rw [if_pos (by decide), if_pos (by omega)]; rfl
        refine ⟨_, rfl, tA, _, _, 2, rfl, rfl, htA6, i2, hK _ _ ⟨_, L.set 2 cs, rfl, same_upd hT0 ((t3.trans s4).trans s46), upd_same, ?_, by rw [List.length_set]; exact hLn, fun l hl => ?_, fun l hl z hz => ?_, by rw [upd_ne (Ne.symm tr)]; exact s46 _ _ hr4⟩⟩
        · exact bears_set (hB3.imp fun _ _ h => (h.same (s4.trans s46)).mut) 2 ⟨nr, rfl, by rw [upd_ne nrt]; exact upd_same, nrt⟩
        · rcases List.mem_or_eq_of_mem_set hl with e | e
          · exact hLl l e
          · rw [e]; exact cl
        · rcases List.mem_or_eq_of_mem_set hl with e | e
          · exact Nat.le_trans (hLb l e z hz) (by decide)
          · rw [e] at hz; exact cb z hz
    clear st0 hB3 htA3 hLn hLl hLb hr4
    rintro σ H5 st1
    refine contS (TbP K H a nA tA rA hd n bs (2 * 10 ^ 30)) ?_ ?_
    rotate_left
    · intro Kn hK
      obtain ⟨ys, L, rfl, t5, htA5, hB5, hLn, hLl, hLb, hr5⟩ := id st1
      refine ⟨_, rfl, _, _, rfl, rfl, ⟨by decide, by decide⟩, _, _, rfl, rfl, (by show (0 : Int) < 5; decide), rfl, _, rfl, ?_⟩
      rw [dec_int]
      refine itd2 (fun _ => ?_) (fun _ => iteF (hK _ _ st1))
      refine ⟨_, rfl, _, _, rfl, rfl, _, rfl, ?_⟩
      refine itd2 (fun hn0' => ?_) (fun _ => hK _ _ st1)
      refine ⟨by decide, fun q1 hq1 => ?_⟩
      have u6 := same_at (o := .lst [.int 0]) hq1
      refine ⟨_, rfl, q1, (n : Int), _, rfl, rfl, upd_same, by omega, by omega, small60 (by show 1 * (n : Int).toNat ≤ _; omega), fun nr hnr => ?_⟩
      have e0 : (List.replicate (n : Int).toNat [V.int 0]).flatten = IL (List.replicate n 0) := by
        rw [rep_18, Int.toNat_natCast]
        show _ = (List.replicate n 0).map V.int
        rw [List.map_replicate]
      rw [e0]
      have u7 := u6.trans (same_at (o := .lst (IL (List.replicate n 0))) hnr)
      have k7 := upd_same (H := upd H5 q1 (.lst [.int 0])) (a := nr) (o := .lst (IL (List.replicate n 0)))
      have htA7 := u7 _ _ htA5
      have nrt : nr ≠ tA := Ne.symm (ne_of_none (u6 _ _ htA5) hnr)
      generalize upd (upd H5 q1 (.lst [.int 0])) nr (.lst (IL (List.replicate n 0))) = H7 at *
      have yl := hB5.1
      have b0 := Int.emod_nonneg (hd / 35) (show (n : Int) ≠ 0 by omega)
      have b1 := Int.emod_lt_of_pos (hd / 35) (show 0 < (n : Int) by omega)
      have ix : ixN ys.length (hd / 35 % (n : Int)) = some (hd / 35 % (n : Int)).toNat := by unfold ixN; rw [if_pos b0, if_pos (by omega)]
      refine ⟨_, rfl, _, rfl, _, _, rfl, rfl, ⟨by decide, by decide⟩, _, rfl, _, _, rfl, rfl, by omega, tA, ys, _, _, rfl, rfl, htA7, ix, hK _ _ ⟨_, L.set (hd / 35 % (n : Int)).toNat (List.replicate n 0), rfl, same_upd hT0 (t5.trans u7), upd_same, bears_set (hB5.imp fun _ _ h => (h.same u7).mut) _ ⟨nr, rfl, by rw [upd_ne nrt]; exact k7, nrt⟩, by rw [List.length_set]; exact hLn, fun l hl => ?_, fun l hl z hz => ?_, by rw [upd_ne (Ne.symm tr)]; exact u7 _ _ hr5⟩⟩
      · rcases List.mem_or_eq_of_mem_set hl with e | e
        · exact hLl l e
        · rw [e, List.length_replicate]
      · rcases List.mem_or_eq_of_mem_set hl with e | e
        · exact hLb l e z hz
        · rw [e] at hz; rw [List.eq_of_mem_replicate hz]; exact Nat.zero_le _
    clear st1
    rintro σ H5 ⟨ys, L, rfl, t5, htA5, hB5, hLn, hLl, hLb, hr5⟩
    have yl := hB5.1
    have two : 2 ≤ sizeLine := by decide
    have hsq : ∀ l ∈ L, l.length = L.length := fun l h => by rw [hLl l h, hLn]
    -- handed
    refine ⟨_, rfl, tA, rfl, ⟨_, SqL.of htA5⟩, lc_list (K := K) (a := tA) (xs := ys) (fun i us H6 => Same H5 H6 ∧ i ≤ ys.length ∧ Bears (ListV H6) us (L.take i)) ⟨Same.refl _, Nat.zero_le _, ⟨rfl, fun i l e => by simp at e⟩⟩ (small60' (by omega)) (fun i us H6 _ ⟨e, hi, h⟩ => ⟨SqL.of (e _ _ htA5), by rw [h.1, List.length_take]; omega⟩) ?_ ?_⟩
    · rintro i v us H6 hi ⟨s6, hil, hU⟩ S hSS
      obtain ⟨l, hl, r, rfl, hr', _⟩ := hB5.at hi
      have hil' := (List.getElem?_eq_some_iff.mp hi).1
      refine nm ?_
      refine ⟨_, rfl, r, _, rfl, .inl (SqL.of (s6 _ _ hr')), fun c hc => hSS _ _ ⟨s6.trans (same_at hc), hil', ?_⟩⟩
      rw [List.take_succ, hl]
      exact (hU.imp fun _ _ ⟨r', e, h⟩ => ⟨r', e, same_at hc _ _ h⟩).snoc ⟨c, rfl, upd_same⟩
    rintro us H6 ⟨s6, _, hU⟩ hA hhA
    rw [yl, List.take_length] at hU
    have u7 := same_at (o := .lst us) hhA
    have k7 : (upd H6 hA (.lst us)) hA = some (.lst us) := upd_same
    have hU7 : Bears (ListV (upd H6 hA (.lst us))) us L := hU.imp fun _ _ ⟨r', e, h⟩ => ⟨r', e, u7 _ _ h⟩
    have s57 := s6.trans u7
    generalize upd H6 hA (.lst us) = H7 at *
    refine ⟨_, rfl, rA, _, rfl, .inl (SqL.of (s57 _ _ hr5)), fun hb hhb => ⟨two, fun hT hhT => ?_⟩⟩
    have u8 := same_at (o := .lst (IL bs)) hhb
    have u9 := same_at (o := .tup [.ref hA, .ref hb]) hhT
    have s79 := u8.trans u9
    have k9T : (upd (upd H7 hb (.lst (IL bs))) hT (.tup [.ref hA, .ref hb])) hT = some (.tup [.ref hA, .ref hb]) := upd_same
    have k9b := u9 _ _ (upd_same (H := H7) (a := hb) (o := .lst (IL bs)))
    have k9A := s79 _ _ k7
    have s59 := s57.trans s79
    have hU9 : Bears (ListV (upd (upd H7 hb (.lst (IL bs))) hT (.tup [.ref hA, .ref hb]))) us L := hU7.imp fun _ _ ⟨r', e, h⟩ => ⟨r', e, s79 _ _ h⟩
    generalize upd (upd H7 hb (.lst (IL bs))) hT (.tup [.ref hA, .ref hb]) = H9 at *
    refine nm ?_
    dsimp only
    have bsl : bs.length = n := by omega
    have nL : L.length ≤ 6 := by omega
    have l110 : (2 * 10 ^ 30 : Nat) ≤ 2 ^ 110 := by decide
    have l400 : (2 * 10 ^ 30 : Nat) ≤ 2 ^ 400 := Nat.le_trans l110 (Nat.pow_le_pow_right (by decide) (by decide))
    have hLb4 : ∀ i j, i < L.length → j < L.length → (fnL L i j).natAbs ≤ 2 ^ 400 := fun i j _ _ => Nat.le_trans (fnL_abs18 hLb i j) l400
    have hbb4 : ∀ x ∈ bs, x.natAbs ≤ 2 ^ 400 := fun x hx => Nat.le_trans (bb x hx) (Nat.le_trans (by decide) l400)
    -- told
    refine ⟨_, rfl, hT, _, 0, .ref hA, rfl, rfl, SqT.of k9T, rfl, _, rfl, hT, _, 1, .ref hb, rfl, rfl, SqT.of k9T, rfl, hA, hb, false, us, L, bs, rfl, SqL.of k9A, hU9.imp (fun _ _ ⟨r', e, h⟩ => ⟨r', false, e, SqL.of h⟩), SqL.of k9b, by omega, hLb4, hbb4, fun tt w v H10 s10 htt hsv => ?_⟩
    refine nm ?_
    dsimp only
    have s5t := s59.trans s10
    have hB10 : Bears (ListV H10) ys L := hB5.imp fun _ _ h => (h.same s5t).list
    have htA10 := s5t _ _ htA5
    have hr10 := s5t _ _ hr5
    -- handed as it was
    refine ⟨_, rfl, _, rfl, _, rfl, two, fun q1 hq1 => ?_⟩
    have u11 := same_at (o := .tup [.ref tA, .ref rA]) hq1
    have hU11 : Bears (ListV (upd H10 q1 (.tup [.ref tA, .ref rA]))) us L := hU9.imp fun _ _ ⟨r', e, h⟩ => ⟨r', e, u11 _ _ (s10 _ _ h)⟩
    have hB11 : Bears (ListV (upd H10 q1 (.tup [.ref tA, .ref rA]))) ys L := hB10.imp fun _ _ ⟨r', e, h⟩ => ⟨r', e, u11 _ _ h⟩
    refine ⟨3, _, hT, q1, rfl, rfl, by decide, eqd_18 (SqT.of (u11 _ _ (s10 _ _ k9T))) (SqT.of upd_same) (SqL.of (u11 _ _ (s10 _ _ k9A))) (SqL.of (u11 _ _ htA10)) hU11 hB11 (SqL.of (u11 _ _ (s10 _ _ k9b))) (SqL.of (u11 _ _ hr10)), _, rfl, ?_⟩
    refine iteF ?_
    have htA11 := u11 _ _ htA10
    have hr11 := u11 _ _ hr10
    have htt11 := u11 _ _ htt
    have s511 := s5t.trans u11
    have sv11 : SvV L bs (upd H10 q1 (.tup [.ref tA, .ref rA])) w v := hsv.same u11
    generalize upd H10 q1 (.tup [.ref tA, .ref rA]) = H11 at *
    show (_ : Prop)
    refine nxI18 ?_
    dsimp only
    refine contS (fun σ H' => σ = [some (.ref a), some (.int hd), some (.int n), some (.ref nA), some (.ref tA), some (.ref rA), some (.ref hT), some (.ref tt), none] ∧ Same H11 H') ?_ ?_
    rotate_left
    · intro Kn hK
      refine ⟨_, rfl, tA, false, ys, L, rfl, SqL.of htA11, hB11.imp (fun _ _ ⟨r', e, h⟩ => ⟨r', false, e, SqL.of h⟩), by omega, hLb4, fun _ H12 s12 => ?_, fun h => absurd hsq h⟩
      have s512 := s511.trans s12
      have htt12 := s12 _ _ htt11
      have htA12 := s12 _ _ htA11
      have hr12 := s12 _ _ hr11
      have hB12 : Bears (ListV H12) ys L := hB11.imp fun _ _ ⟨r', e, h⟩ => ⟨r', e, s12 _ _ h⟩
      refine ⟨rfl, _, rfl, ?_⟩
      rw [dec_int]
      have sq2 : bs.length = L.length ∧ ∀ l ∈ L, l.length = L.length := ⟨by omega, hsq⟩
      refine itd2 (fun hz => ?_) (fun hnz => ?_)
      · refine ⟨_, rfl, tt, _, 0, .str w, rfl, rfl, SqT.of htt12, rfl, rfl, _, rfl, ?_⟩
        obtain rfl : w = "singular" := by
          rcases sv11 with ⟨h1, _⟩ | ⟨_, _, h3, _⟩ | ⟨_, h2, _⟩
          · exact absurd sq2 h1
          · exact h3
          · exact absurd hz h2
        refine iteF ?_
        exact hK _ _ ⟨rfl, s12⟩
      · obtain ⟨rfl, r, zs, fs, rfl, hrr, hF, hfl, hlow⟩ : w = "told" ∧ ∃ (r : Addr) (zs : List V) (fs : List (Int × Int)), v = .ref r ∧ H12 r = some (.tup zs) ∧ PairsV H12 zs fs ∧ fs.length = L.length ∧ ∀ (j : Nat) (f : Int × Int), fs[j]? = some f → LowF (det L.length (putc (fnL L) j fun i => bs.getD i 0)) (det L.length (fnL L)) f.1 f.2 := by
          rcases sv11 with ⟨h1, _⟩ | ⟨_, h2, _⟩ | ⟨_, _, h3, r, zs, fs, h4, h5, h6, h7, h8⟩
          · exact absurd sq2 h1
          · exact absurd h2 hnz
          · exact ⟨h3, r, zs, fs, h4, s12 _ _ h5, h6.same s12, h7, h8⟩
        refine ⟨_, rfl, tt, _, 0, .str "told", rfl, rfl, SqT.of htt12, rfl, rfl, _, rfl, ?_⟩
        refine iteF ?_
        refine ⟨_, rfl, tt, _, 1, .ref r, rfl, rfl, SqT.of htt12, rfl, _, rfl, _, rfl, r, tA, rA, zs, ys, fs, L, bs, rfl, hrr, hF, SqL.of htA12, hB12, SqL.of hr12, nL, hfl, sq2.1, hsq, fun i j _ _ => Nat.le_trans (fnL_abs18 hLb i j) l110, fun x hx => Nat.le_trans (bb x hx) (by decide), hnz, hlow, fun H13 s13 => ?_⟩
        refine ⟨_, rfl, ?_⟩
        refine iteF ?_
        have hBs : Bears (ListV H13) ys L := hB12.imp fun _ _ ⟨r', e, h⟩ => ⟨r', e, s13 _ _ h⟩
        have htA13 := s13 _ _ htA12
        have hr13 := s13 _ _ hr12
        -- of tuples
        refine ⟨_, rfl, tA, rfl, ⟨_, SqL.of htA13⟩, lc_list (K := K) (a := tA) (xs := ys) (fun i us H9 => Same H13 H9 ∧ i ≤ ys.length ∧ TupsV H9 us (L.take i)) ⟨Same.refl _, Nat.zero_le _, TupsV.nil⟩ (small60' (by omega)) (fun i us H9 hi ⟨e, hi2, ez⟩ => ⟨SqL.of (e _ _ htA13), by rw [ez.1, List.length_take]; omega⟩) ?_ ?_⟩
        · rintro i v us H9 hi ⟨s9, hil, hU⟩ S hSS
          obtain ⟨l, hl, r, rfl, hr⟩ := hBs.at hi
          have hil' := (List.getElem?_eq_some_iff.mp hi).1
          refine nm ?_
          refine ⟨_, rfl, r, _, rfl, .inl ⟨SqL.of (s9 _ _ hr), fun c hc => hSS _ _ ⟨s9.trans (same_at hc), hil', ?_⟩⟩⟩
          rw [List.take_succ, hl]
          exact (hU.same (same_at hc)).snoc ⟨c, rfl, upd_same⟩
        rintro us2 H14 ⟨s14, _, hV⟩ lA hlA
        rw [yl, List.take_length] at hV
        have u15 := same_at (o := .lst us2) hlA
        refine ⟨lA, _, rfl, .inl ⟨SqL.of upd_same, fun tp htp => ?_⟩⟩
        have u16 := same_at (o := .tup us2) htp
        have s1316 := s14.trans (u15.trans u16)
        refine ⟨_, rfl, rA, _, rfl, .inl ⟨SqL.of (s1316 _ _ hr13), fun tr htr => ?_⟩⟩
        have u17 := same_at (o := .tup (IL bs)) htr
        have hV17 := hV.same (u15.trans (u16.trans u17))
        refine ⟨tp, tr, true, us2, L, bs, rfl, SqT.of (u17 _ _ upd_same), ⟨hV17.1, fun i l e => ?_⟩, SqT.of upd_same, by omega, hLb4, hbb4, fun _ _ _ r2 zs2 fs2 H18 s18 hr2 hF2 hfl2 hlow2 => ?_, fun h => absurd sq2 h, fun _ _ h => absurd h hnz⟩
        · obtain ⟨v, e1, r, e2, h⟩ := hV17.2 i l e
          exact ⟨v, e1, r, true, e2, SqT.of h⟩
        have sA := s13.trans (s1316.trans (u17.trans s18))
        refine ⟨_, rfl, tt, _, 1, .ref r, rfl, rfl, SqT.of (sA _ _ htt12), rfl, 2, _, r2, r, rfl, rfl, by decide, eqd_tpairs (SqT.of hr2) (SqT.of (sA _ _ hrr)) hF2 (hF.same sA), _, rfl, ?_⟩
        have efs : fs2 = fs := by
          refine List.ext_getElem? fun j => ?_
          by_cases hj : j < L.length
          · have e1 : fs2[j]? = some (fs2[j]'(by omega)) := List.getElem?_eq_getElem (by omega)
            have e2 : fs[j]? = some (fs[j]'(by omega)) := List.getElem?_eq_getElem (by omega)
            obtain ⟨a1, a2⟩ := low_uniq hnz (hlow2 j _ e1) (hlow j _ e2)
            rw [e1, e2]
            exact congrArg some (Prod.ext a1 a2)
          · rw [List.getElem?_eq_none (by omega), List.getElem?_eq_none (by omega)]
        refine itn efs ?_
        exact hK _ _ ⟨rfl, s12.trans sA⟩
    rintro σ H12 ⟨rfl, s12⟩
    have s512 := s511.trans s12
    have htA12 := s12 _ _ htA11
    have hr12 := s12 _ _ hr11
    have hB12 : Bears (ListV H12) ys L := hB11.imp fun _ _ ⟨r', e, h⟩ => ⟨r', e, s12 _ _ h⟩
    -- longer
    refine ⟨_, rfl, tA, rfl, ⟨_, SqL.of htA12⟩, lc_list (K := K) (a := tA) (xs := ys) (fun i us H6 => Same H12 H6 ∧ i ≤ ys.length ∧ Bears (ListV H6) us (L.take i)) ⟨Same.refl _, Nat.zero_le _, ⟨rfl, fun i l e => by simp at e⟩⟩ (small60' (by omega)) (fun i us H6 _ ⟨e, hi, h⟩ => ⟨SqL.of (e _ _ htA12), by rw [h.1, List.length_take]; omega⟩) ?_ ?_⟩
    · rintro i v us H6 hi ⟨s6, hil, hU⟩ S hSS
      obtain ⟨l, hl, r, rfl, hr'⟩ := hB12.at hi
      have hil' := (List.getElem?_eq_some_iff.mp hi).1
      refine nm ?_
      refine ⟨_, rfl, r, _, rfl, .inl (SqL.of (s6 _ _ hr')), fun c hc => hSS _ _ ⟨s6.trans (same_at hc), hil', ?_⟩⟩
      rw [List.take_succ, hl]
      exact (hU.imp fun _ _ ⟨r', e, h⟩ => ⟨r', e, same_at hc _ _ h⟩).snoc ⟨c, rfl, upd_same⟩
    rintro us3 H13 ⟨s13, _, hU13⟩ lo hlo
    rw [yl, List.take_length] at hU13
    have u14 := same_at (o := .lst us3) hlo
    have one : 1 ≤ sizeLine := by decide
    refine ⟨one, fun q2 hq2 => ?_⟩
    have u15 := same_at (o := .lst [.int 0]) hq2
    refine ⟨_, rfl, _, _, rfl, rfl, q2, (n : Int) + 2, _, rfl, rfl, upd_same, by omega, by omega, small60 (by show 1 * ((n : Int) + 2).toNat ≤ _; omega), fun nr hnr => ⟨one, fun ol hol => ?_⟩⟩
    have e0 : (List.replicate ((n : Int) + 2).toNat [V.int 0]).flatten = IL (List.replicate (n + 2) 0) := by
      rw [rep_18, show ((n : Int) + 2).toNat = n + 2 by omega]
      show _ = (List.replicate (n + 2) 0).map V.int
      rw [List.map_replicate]
    have u16 := same_at (o := .lst (List.replicate ((n : Int) + 2).toNat [V.int 0]).flatten) hnr
    have u17 := same_at (o := .lst [.ref nr]) hol
    have k17 := u17 _ _ (upd_same (H := upd (upd H13 lo (.lst us3)) q2 (.lst [.int 0])) (a := nr) (o := .lst (List.replicate ((n : Int) + 2).toNat [V.int 0]).flatten))
    have l17 := u17 _ _ (u16 _ _ (u15 _ _ (upd_same (H := H13) (a := lo) (o := .lst us3))))
    have us3l := hU13.1
    refine ⟨lo, ol, us3, [.ref nr], rfl, rfl, l17, upd_same, small60 (by show us3.length + 1 ≤ _; omega), fun la hla => ?_⟩
    have u18 := same_at (o := .lst (us3 ++ [.ref nr])) hla
    have s1318 := u14.trans (u15.trans (u16.trans (u17.trans u18)))
    have s1218 := s13.trans s1318
    have hU18 : Bears (ListV (upd (upd (upd (upd (upd H13 lo (.lst us3)) q2 (.lst [.int 0])) nr (.lst (List.replicate ((n : Int) + 2).toNat [V.int 0]).flatten)) ol (.lst [.ref nr])) la (.lst (us3 ++ [.ref nr])))) (us3 ++ [.ref nr]) (L ++ [List.replicate (n + 2) 0]) :=
      (hU13.imp fun _ _ ⟨r', e, h⟩ => ⟨r', e, s1318 _ _ h⟩).snoc ⟨nr, rfl, by rw [← e0]; exact u18 _ _ k17⟩
    have k18 : (upd (upd (upd (upd (upd H13 lo (.lst us3)) q2 (.lst [.int 0])) nr (.lst (List.replicate ((n : Int) + 2).toNat [V.int 0]).flatten)) ol (.lst [.ref nr])) la (.lst (us3 ++ [.ref nr]))) la = some (.lst (us3 ++ [.ref nr])) := upd_same
    generalize upd (upd (upd (upd (upd H13 lo (.lst us3)) q2 (.lst [.int 0])) nr (.lst (List.replicate ((n : Int) + 2).toNat [V.int 0]).flatten)) ol (.lst [.ref nr])) la (.lst (us3 ++ [.ref nr])) = H18 at *
    clear u14 u15 u16 u17 u18 k17 l17 s1318
    refine nm ?_
    dsimp only
    have bb5 : ∀ x ∈ bs ++ [1], x.natAbs ≤ 2 ^ 400 := fun x hx => by
      rcases List.mem_append.mp hx with e | e
      · exact hbb4 x e
      · rw [List.mem_singleton.mp e]
        exact Nat.le_trans (show (1 : Int).natAbs ≤ 2 * 10 ^ 30 by decide) l400
    have bl5 : (bs ++ [1]).length = n + 1 := by rw [List.length_append, bsl]; rfl
    -- the list too long
    refine ⟨_, rfl, _, rfl, one, fun q3 hq3 => ?_⟩
    have u19 := same_at (o := .lst [.int 1]) hq3
    refine ⟨rA, q3, _, _, rfl, rfl, u19 _ _ (s1218 _ _ hr12), upd_same, small60 (by show (IL bs).length + 1 ≤ _; rw [il_length]; omega), fun rb hrb => ?_⟩
    have u20 := same_at (o := .lst (IL bs ++ [.int 1])) hrb
    have s1220 := s1218.trans (u19.trans u20)
    refine ⟨tA, rb, false, ys, L, bs ++ [1], rfl, SqL.of (s1220 _ _ htA12), hB12.imp (fun _ _ ⟨r', e, h⟩ => ⟨r', false, e, SqL.of (s1220 _ _ h)⟩), SqL.of (by rw [il_snoc]; exact upd_same), by omega, hLb4, bb5, fun t2 w2 v2 H21 s21 ht2 sv2 => ?_⟩
    obtain rfl : w2 = "square" := by
      rcases sv2 with ⟨_, h2, _⟩ | ⟨⟨h1, _⟩, _⟩ | ⟨⟨h1, _⟩, _⟩
      · exact h2
      · omega
      · omega
    refine ⟨t2, _, 0, .str "square", rfl, rfl, SqT.of ht2, rfl, rfl, ?_⟩
    refine ⟨_, rfl, ?_⟩
    refine iteT ?_
    have s1221 := s1220.trans s21
    have s1821 := u19.trans (u20.trans s21)
    refine ⟨_, rfl, _, rfl, one, fun q4 hq4 => ?_⟩
    have u22 := same_at (o := .lst [.int 1]) hq4
    refine ⟨rA, q4, _, _, rfl, rfl, u22 _ _ (s1221 _ _ hr12), upd_same, small60 (by show (IL bs).length + 1 ≤ _; rw [il_length]; omega), fun rc hrc => ?_⟩
    have u23 := same_at (o := .lst (IL bs ++ [.int 1])) hrc
    have s1823 := s1821.trans (u22.trans u23)
    have Ll : (L ++ [List.replicate (n + 2) (0 : Int)]).length = n + 1 := by rw [List.length_append, hLn]; rfl
    refine ⟨la, rc, false, us3 ++ [.ref nr], L ++ [List.replicate (n + 2) 0], bs ++ [1], rfl, SqL.of (s1823 _ _ k18), hU18.imp (fun _ _ ⟨r', e, h⟩ => ⟨r', false, e, SqL.of (s1823 _ _ h)⟩), SqL.of (by rw [il_snoc]; exact upd_same), by omega, fun i j _ _ => fnL_abs18 (fun l hl z hz => ?_) i j, bb5, fun t3 w3 v3 H24 s24 ht3 sv3 => ?_⟩
    · rcases List.mem_append.mp hl with e | e
      · exact Nat.le_trans (hLb l e z hz) l400
      · rw [List.mem_singleton.mp e] at hz
        rw [List.eq_of_mem_replicate hz]
        exact Nat.zero_le _
    obtain rfl : w3 = "square" := by
      have no : ¬ ∀ l ∈ L ++ [List.replicate (n + 2) (0 : Int)], l.length = (L ++ [List.replicate (n + 2) (0 : Int)]).length := fun h => by
        have := h _ (List.mem_append_right _ (List.mem_singleton.mpr rfl))
        rw [List.length_replicate, Ll] at this
        omega
      rcases sv3 with ⟨_, h2, _⟩ | ⟨⟨_, h1⟩, _⟩ | ⟨⟨_, h1⟩, _⟩
      · exact h2
      · exact absurd h1 no
      · exact absurd h1 no
    exact ⟨t3, _, 0, .str "square", rfl, rfl, SqT.of ht3, rfl, rfl, k _⟩
end
end My
namespace My
open PySem L2
theorem law_binds {K : PySem.W.Frag} {f : Addr} {fd : FuncData} (F : Fun K "law" "law" s_law f fd) (s : Shared) (u : Value) : BindsTo s fd ⟨[u], []⟩ [("script", u)] := by
  obtain ⟨oc, od, kV, doc, pm, an, cdv, ct, osl, rfl, lk, hcd⟩ := F.ex
  exact .of_eq rfl
end My
open PySem PySem.W PyProof.Rows
set_option maxRecDepth 100000 in
set_option maxHeartbeats 0 in
theorem PySem.Challenge.cw_spanrow_k18_tables_solved_holds : PySem.Challenge.rw_spanrow_k18_tables_solved.Holds := by
  w_on; o_law; k_head; (case hw => w_witness2)
  k_fill
  refine L2.walk_ofK (l := PySem.Challenge.rw_spanrow_k18_tables_solved) (n := 63) (k := 7) (x := "script") (CX := L2.CX0) (sp := My.sp_law) rfl (by decide) rfl ⟨rfl, by decide, by decide⟩ (fun w h Y => PySem.W.kIn_of Y) ?F (fun _ H a ns hl _ hS => ⟨a, ns, rfl, hS, hl, fun _ => rfl⟩) (fun _ _ _ _ z => z)
  case F =>
    intro w mg fa h KX G hmg
    have h_refuse_not_square : My.FX (L2.KOf KX) mg "refuse_not_square" "refuse_not_square" My.s_refuse_not_square := by
      dsimp only [L2.KOf]
      refine' My.fx_mk KX G ?a ?l ?c ?k
      (case a => k_is); (case l => k_is); (case c => k_is); (case k => k_is)
    have h_row_taken_off : My.FX (L2.KOf KX) mg "row_taken_off" "row_taken_off" My.s_row_taken_off := by
      dsimp only [L2.KOf]
      refine' My.fx_mk KX G ?a ?l ?c ?k
      (case a => k_is); (case l => k_is); (case c => k_is); (case k => k_is)
    have h_first_with_some : My.FX (L2.KOf KX) mg "first_with_some" "first_with_some" My.s_first_with_some := by
      dsimp only [L2.KOf]
      refine' My.fx_mk KX G ?a ?l ?c ?k
      (case a => k_is); (case l => k_is); (case c => k_is); (case k => k_is)
    have h_determinant : My.FX (L2.KOf KX) mg "determinant" "determinant" My.s_determinant := by
      dsimp only [L2.KOf]
      refine' My.fx_mk KX G ?a ?l ?c ?k
      (case a => k_is); (case l => k_is); (case c => k_is); (case k => k_is)
    have h_common_divisor : My.FX (L2.KOf KX) mg "common_divisor" "common_divisor" My.s_common_divisor := by
      dsimp only [L2.KOf]
      refine' My.fx_mk KX G ?a ?l ?c ?k
      (case a => k_is); (case l => k_is); (case c => k_is); (case k => k_is)
    have h_fraction : My.FX (L2.KOf KX) mg "fraction" "fraction" My.s_fraction := by
      dsimp only [L2.KOf]
      refine' My.fx_mk KX G ?a ?l ?c ?k
      (case a => k_is); (case l => k_is); (case c => k_is); (case k => k_is)
    have h_with_column : My.FX (L2.KOf KX) mg "with_column" "with_column" My.s_with_column := by
      dsimp only [L2.KOf]
      refine' My.fx_mk KX G ?a ?l ?c ?k
      (case a => k_is); (case l => k_is); (case c => k_is); (case k => k_is)
    have h_solved : My.FX (L2.KOf KX) mg "solved" "solved" My.s_solved := by
      dsimp only [L2.KOf]
      refine' My.fx_mk KX G ?a ?l ?c ?k
      (case a => k_is); (case l => k_is); (case c => k_is); (case k => k_is)
    have h_law_at : My.FX (L2.KOf KX) mg "_law_at" "_law_at" My.s_law_at := by
      dsimp only [L2.KOf]
      refine' My.fx_mk KX G ?a ?l ?c ?k
      (case a => k_is); (case l => k_is); (case c => k_is); (case k => k_is)
    have h_law_mixed : My.FX (L2.KOf KX) mg "_law_mixed" "_law_mixed" My.s_law_mixed := by
      dsimp only [L2.KOf]
      refine' My.fx_mk KX G ?a ?l ?c ?k
      (case a => k_is); (case l => k_is); (case c => k_is); (case k => k_is)
    have h_law_whole : My.FX (L2.KOf KX) mg "_law_whole" "_law_whole" My.s_law_whole := by
      dsimp only [L2.KOf]
      refine' My.fx_mk KX G ?a ?l ?c ?k
      (case a => k_is); (case l => k_is); (case c => k_is); (case k => k_is)
    have h_law_numbers : My.FX (L2.KOf KX) mg "_law_numbers" "_law_numbers" My.s_law_numbers := by
      dsimp only [L2.KOf]
      refine' My.fx_mk KX G ?a ?l ?c ?k
      (case a => k_is); (case l => k_is); (case c => k_is); (case k => k_is)
    have h_law_common : My.FX (L2.KOf KX) mg "_law_common" "_law_common" My.s_law_common := by
      dsimp only [L2.KOf]
      refine' My.fx_mk KX G ?a ?l ?c ?k
      (case a => k_is); (case l => k_is); (case c => k_is); (case k => k_is)
    have h_law_told : My.FX (L2.KOf KX) mg "_law_told" "_law_told" My.s_law_told := by
      dsimp only [L2.KOf]
      refine' My.fx_mk KX G ?a ?l ?c ?k
      (case a => k_is); (case l => k_is); (case c => k_is); (case k => k_is)
    have h_law_good : My.FX (L2.KOf KX) mg "_law_good" "_law_good" My.s_law_good := by
      dsimp only [L2.KOf]
      refine' My.fx_mk KX G ?a ?l ?c ?k
      (case a => k_is); (case l => k_is); (case c => k_is); (case k => k_is)
    have h_law : My.FX (L2.KOf KX) mg "law" "law" My.s_law := by
      dsimp only [L2.KOf]
      refine' My.fx_mk KX G ?a ?l ?c ?k
      (case a => k_is); (case l => k_is); (case c => k_is); (case k => k_is)
    have hX : ∃ A_WebError A_NotSquare A_Singular : Addr, mg "WebError" = some (.ref A_WebError) ∧ mg "NotSquare" = some (.ref A_NotSquare) ∧ mg "Singular" = some (.ref A_Singular) ∧ L2.XCls (L2.KOf KX) (A_NotSquare) ∧ L2.XCls (L2.KOf KX) (A_Singular) ∧ PySem.W.kitOne (L2.KOf KX) (.ref (A_NotSquare)) (.type "ValueError") = some true ∧ PySem.W.kitOne (L2.KOf KX) (.ref (A_NotSquare)) (.ref (A_Singular)) = some false ∧ PySem.W.exmOne (L2.KOf KX) (.ref (A_NotSquare)) (.ref (A_WebError)) = some true ∧ PySem.W.kitOne (L2.KOf KX) (.ref (A_Singular)) (.type "ValueError") = some true ∧ PySem.W.kitOne (L2.KOf KX) (.ref (A_Singular)) (.ref (A_NotSquare)) = some false ∧ PySem.W.exmOne (L2.KOf KX) (.ref (A_Singular)) (.ref (A_WebError)) = some true := by
      dsimp only [L2.KOf]
      refine' My.xI (My.xI (My.xI (⟨PySem.W.mg_of KX G ?m_WebError, PySem.W.mg_of KX G ?m_NotSquare, PySem.W.mg_of KX G ?m_Singular, ⟨?x_NotSquare_ex, ?x_NotSquare_ga, ?x_NotSquare_gh, ?x_NotSquare_cl, ?x_NotSquare_ob, ?x_NotSquare_bx⟩, ⟨?x_Singular_ex, ?x_Singular_ga, ?x_Singular_gh, ?x_Singular_cl, ?x_Singular_ob, ?x_Singular_bx⟩, ?ki_NotSquare_ValueError, ?ki_NotSquare_Singular, ?em_NotSquare, ?ki_Singular_ValueError, ?ki_Singular_NotSquare, ?em_Singular⟩)))
      (case m_WebError => k_is)
      (case m_NotSquare => k_is)
      (case m_Singular => k_is)
      (case x_NotSquare_ex => k_exc); (case x_NotSquare_ga => k_is); (case x_NotSquare_gh => k_is); (case x_NotSquare_cl => k_is); (case x_NotSquare_ob => k_is); (case x_NotSquare_bx => k_is)
      (case x_Singular_ex => k_exc); (case x_Singular_ga => k_is); (case x_Singular_gh => k_is); (case x_Singular_cl => k_is); (case x_Singular_ob => k_is); (case x_Singular_bx => k_is)
      (case ki_NotSquare_ValueError => kit_is)
      (case ki_NotSquare_Singular => kit_is)
      (case em_NotSquare => kts_exm)
      (case ki_Singular_ValueError => kit_is)
      (case ki_Singular_NotSquare => kit_is)
      (case em_Singular => kts_exm)
    have h_ValueError : mg "ValueError" = none := by
      refine' PySem.W.mg_none_of KX G ?a
      (case a => k_is)
    have h_abs : mg "abs" = none := by
      refine' PySem.W.mg_none_of KX G ?a
      (case a => k_is)
    have h_bool : mg "bool" = none := by
      refine' PySem.W.mg_none_of KX G ?a
      (case a => k_is)
    have h_enumerate : mg "enumerate" = none := by
      refine' PySem.W.mg_none_of KX G ?a
      (case a => k_is)
    have h_int : mg "int" = none := by
      refine' PySem.W.mg_none_of KX G ?a
      (case a => k_is)
    have h_isinstance : mg "isinstance" = none := by
      refine' PySem.W.mg_none_of KX G ?a
      (case a => k_is)
    have h_len : mg "len" = none := by
      refine' PySem.W.mg_none_of KX G ?a
      (case a => k_is)
    have h_list : mg "list" = none := by
      refine' PySem.W.mg_none_of KX G ?a
      (case a => k_is)
    have h_range : mg "range" = none := by
      refine' PySem.W.mg_none_of KX G ?a
      (case a => k_is)
    have h_sum : mg "sum" = none := by
      refine' PySem.W.mg_none_of KX G ?a
      (case a => k_is)
    have h_tuple : mg "tuple" = none := by
      refine' PySem.W.mg_none_of KX G ?a
      (case a => k_is)
    have h_zip : mg "zip" = none := by
      refine' PySem.W.mg_none_of KX G ?a
      (case a => k_is)
    obtain ⟨a_refuse_not_square, d_refuse_not_square, m_refuse_not_square, f_refuse_not_square⟩ := h_refuse_not_square
    obtain ⟨a_row_taken_off, d_row_taken_off, m_row_taken_off, f_row_taken_off⟩ := h_row_taken_off
    obtain ⟨a_first_with_some, d_first_with_some, m_first_with_some, f_first_with_some⟩ := h_first_with_some
    obtain ⟨a_determinant, d_determinant, m_determinant, f_determinant⟩ := h_determinant
    obtain ⟨a_common_divisor, d_common_divisor, m_common_divisor, f_common_divisor⟩ := h_common_divisor
    obtain ⟨a_fraction, d_fraction, m_fraction, f_fraction⟩ := h_fraction
    obtain ⟨a_with_column, d_with_column, m_with_column, f_with_column⟩ := h_with_column
    obtain ⟨a_solved, d_solved, m_solved, f_solved⟩ := h_solved
    obtain ⟨a_law_at, d_law_at, m_law_at, f_law_at⟩ := h_law_at
    obtain ⟨a_law_mixed, d_law_mixed, m_law_mixed, f_law_mixed⟩ := h_law_mixed
    obtain ⟨a_law_whole, d_law_whole, m_law_whole, f_law_whole⟩ := h_law_whole
    obtain ⟨a_law_numbers, d_law_numbers, m_law_numbers, f_law_numbers⟩ := h_law_numbers
    obtain ⟨a_law_common, d_law_common, m_law_common, f_law_common⟩ := h_law_common
    obtain ⟨a_law_told, d_law_told, m_law_told, f_law_told⟩ := h_law_told
    obtain ⟨a_law_good, d_law_good, m_law_good, f_law_good⟩ := h_law_good
    obtain ⟨a_law, d_law, m_law, f_law⟩ := h_law
    obtain ⟨A_WebError, A_NotSquare, A_Singular, c_WebError, c_NotSquare, c_Singular, x_NotSquare, x_Singular, ki_NotSquare_ValueError, ki_NotSquare_Singular, em_NotSquare, ki_Singular_ValueError, ki_Singular_NotSquare, em_Singular⟩ := hX
    have T : My.Txt (L2.KOf KX) mg ⟨a_refuse_not_square, d_refuse_not_square, a_row_taken_off, d_row_taken_off, a_first_with_some, d_first_with_some, a_determinant, d_determinant, a_common_divisor, d_common_divisor, a_fraction, d_fraction, a_with_column, d_with_column, a_solved, d_solved, a_law_at, d_law_at, a_law_mixed, d_law_mixed, a_law_whole, d_law_whole, a_law_numbers, d_law_numbers, a_law_common, d_law_common, a_law_told, d_law_told, a_law_good, d_law_good, a_law, d_law, A_WebError, A_NotSquare, A_Singular⟩ := ⟨f_refuse_not_square, f_refuse_not_square.binds (fun _ _ _ _ _ _ us hl => by obtain ⟨_, rfl⟩ := My.len1 hl; rfl), m_refuse_not_square, f_row_taken_off, f_row_taken_off.binds (fun _ _ _ _ _ _ us hl => by obtain ⟨_, _, _, rfl⟩ := My.len3 hl; rfl), m_row_taken_off, f_first_with_some, f_first_with_some.binds (fun _ _ _ _ _ _ us hl => by obtain ⟨_, rfl⟩ := My.len1 hl; rfl), m_first_with_some, f_determinant, f_determinant.binds (fun _ _ _ _ _ _ us hl => by obtain ⟨_, rfl⟩ := My.len1 hl; rfl), m_determinant, f_common_divisor, f_common_divisor.binds (fun _ _ _ _ _ _ us hl => by obtain ⟨_, _, rfl⟩ := My.len2 hl; rfl), m_common_divisor, f_fraction, f_fraction.binds (fun _ _ _ _ _ _ us hl => by obtain ⟨_, _, rfl⟩ := My.len2 hl; rfl), m_fraction, f_with_column, f_with_column.binds (fun _ _ _ _ _ _ us hl => by obtain ⟨_, _, _, rfl⟩ := My.len3 hl; rfl), m_with_column, f_solved, f_solved.binds (fun _ _ _ _ _ _ us hl => by obtain ⟨_, _, rfl⟩ := My.len2 hl; rfl), m_solved, f_law_at, f_law_at.binds (fun _ _ _ _ _ _ us hl => by obtain ⟨_, _, rfl⟩ := My.len2 hl; rfl), m_law_at, f_law_mixed, f_law_mixed.binds (fun _ _ _ _ _ _ us hl => by obtain ⟨_, _, rfl⟩ := My.len2 hl; rfl), m_law_mixed, f_law_whole, f_law_whole.binds (fun _ _ _ _ _ _ us hl => by obtain ⟨_, rfl⟩ := My.len1 hl; rfl), m_law_whole, f_law_numbers, f_law_numbers.binds (fun _ _ _ _ _ _ us hl => by obtain ⟨_, _, _, rfl⟩ := My.len3 hl; rfl), m_law_numbers, f_law_common, f_law_common.binds (fun _ _ _ _ _ _ us hl => by obtain ⟨_, _, rfl⟩ := My.len2 hl; rfl), m_law_common, f_law_told, f_law_told.binds (fun _ _ _ _ _ _ us hl => by obtain ⟨_, _, rfl⟩ := My.len2 hl; rfl), m_law_told, f_law_good, f_law_good.binds (fun _ _ _ _ _ _ us hl => by obtain ⟨_, _, _, rfl⟩ := My.len3 hl; rfl), m_law_good, f_law, f_law.binds (fun _ _ _ _ _ _ us hl => by obtain ⟨_, rfl⟩ := My.len1 hl; rfl), m_law, c_WebError, c_NotSquare, c_Singular, x_NotSquare, x_Singular, ki_NotSquare_ValueError, ki_NotSquare_Singular, em_NotSquare, ki_Singular_ValueError, ki_Singular_NotSquare, em_Singular, h_ValueError, h_abs, h_bool, h_enumerate, h_int, h_isinstance, h_len, h_list, h_range, h_sum, h_tuple, h_zip⟩
    have e0 := hmg.symm.trans m_law
    cases e0
    exact ⟨d_law, fun s u => My.law_binds f_law s u, fun base _ _ => My.ok_law T⟩
#print axioms PySem.Challenge.cw_spanrow_k18_tables_solved_holds
