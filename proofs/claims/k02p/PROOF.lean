import PyProof.Rows.All
import Wide.All
import OpenK.AllK
import Wide.FinOn
import Lean
import PyProof.EqAt
import PyProof.EqKinds
import PyProof.TupleCall
import PyProof.CompFree
import PyProof.NeKinds
import PyProof.Rows.RegReprOcc
import PyProof.Rows.StrCase
import PyProof.ZipIter
import PyProof.EnumMake
import PyProof.Draws
import PyProof.Rows.Range3
import KE.BitLaws
import KE.KDictOf
import PyProof.AttrMissSeq
import PyProof.DictUpdate
import PyProof.Rows.Tup
import PyProof.ReprRoads
import PyProof.DictRoadsH
import PyProof.DictItemsLoops
import PyProof.DictWalks
import PyProof.Rows.SetFrom
import PyProof.ListRange
import KE.KDictSum
import PyProof.StrCalls6
import PyProof.JoinWalk
import PyProof.FString
import PyProof.ToksMono
import PyProof.StrLawsReplace
import PyProof.StrLawsIdx
import KE.KIntText
import PySem.Challenge.RW_stepcourt_k02_terms_written_and_read
set_option Elab.async false
set_option bootstrap.genMatcherCode false
set_option genSizeOf false
set_option compiler.extract_closed false
set_option genSizeOfSpec false
set_option linter.all false
set_option maxRecDepth 100000
section
open PySem PySem.W PyProof.Rows
set_option maxRecDepth 100000
set_option maxHeartbeats 0
namespace PySem.W.Fast
theorem tw13177264999580132443:True:=⟨⟩
theorem tw895538476482711749:True:=⟨⟩
theorem tw4913874936065851510:True:=⟨⟩
theorem tw4519450879807538878:True:=⟨⟩
theorem tw15187169452722266847:True:=⟨⟩
theorem tw15544239321857458025:True:=⟨⟩
theorem tw13218746136861130678:True:=⟨⟩
theorem tw11229071132917530449:True:=⟨⟩
theorem tw17027818914372267458:True:=⟨⟩
theorem tw852478499754853246:True:=⟨⟩
theorem tw9777197614727144175:True:=⟨⟩
theorem tw7516292785299593844:True:=⟨⟩
theorem tw6551363156116692338:True:=⟨⟩
theorem tw395463464014435128:True:=⟨⟩
theorem tw1956548250747423899:True:=⟨⟩
theorem tw8460669310240601629:True:=⟨⟩
theorem tw3902621705068835048:True:=⟨⟩
theorem tw3045374356822331967:True:=⟨⟩
theorem tw8822291404628921983:True:=⟨⟩
theorem tw15881245120926960385:True:=⟨⟩
theorem tw8150494483434907230:True:=⟨⟩
theorem tw7994059539151220853:True:=⟨⟩
theorem tw15891456575636753283:True:=⟨⟩
theorem tw2649044472549066648:True:=⟨⟩
theorem tw6798638055086111401:True:=⟨⟩
theorem tw8528361429512264859:True:=⟨⟩
theorem tw12383037539652737636:True:=⟨⟩
theorem tw9639980338403056850:True:=⟨⟩
theorem tw5916890518424925820:True:=⟨⟩
theorem tw15530991955049172217:True:=⟨⟩
theorem tw6482800158057863147:True:=⟨⟩
theorem tw2459149278501700511:True:=⟨⟩
theorem tw6572183223852449591:True:=⟨⟩
theorem tw9212744562938848036:True:=⟨⟩
theorem tw15269304584810771261:True:=⟨⟩
theorem tw14787167811812044494:True:=⟨⟩
theorem tw17957213987017164864:True:=⟨⟩
theorem tw13851172441453474682:True:=⟨⟩
theorem tw7554348544075112114:True:=⟨⟩
theorem tw18147634735016505190:True:=⟨⟩
theorem tw4487168863061647788:True:=⟨⟩
theorem tw9103119445637474416:True:=⟨⟩
theorem tw4083259587868711730:True:=⟨⟩
theorem tw2698669867553343545:True:=⟨⟩
theorem tw16865912158236578429:True:=⟨⟩
theorem tw7683413027814144735:True:=⟨⟩
theorem tw5930245222610895174:True:=⟨⟩
theorem tw13469112012805276001:True:=⟨⟩
theorem tw15038055886059324390:True:=⟨⟩
theorem tw12453948998007411332:True:=⟨⟩
theorem tw3935902670650191560:True:=⟨⟩
theorem tw16652376392405926066:True:=⟨⟩
theorem tw9747514990888706239:True:=⟨⟩
theorem tw13258880383493924464:True:=⟨⟩
theorem tw11418382477747728562:True:=⟨⟩
theorem tw17584295557712985996:True:=⟨⟩
theorem tw1249609262983394801:True:=⟨⟩
theorem tw2132911524444663084:True:=⟨⟩
theorem tw17332023533657689576:True:=⟨⟩
theorem tw2056797189884044599:True:=⟨⟩
theorem tw1743902035226782177:True:=⟨⟩
theorem tw17759830326070839462:True:=⟨⟩
theorem tw2345989680370554778:True:=⟨⟩
theorem tw2254231063549161415:True:=⟨⟩
theorem tw5564154564620580589:True:=⟨⟩
theorem tw18173385211141234565:True:=⟨⟩
theorem tw16825475289437841240:True:=⟨⟩
theorem tw1815439330302545554:True:=⟨⟩
theorem tw6045546531790125783:True:=⟨⟩
theorem tw7838914647235854133:True:=⟨⟩
theorem tw7458513109189904703:True:=⟨⟩
theorem tw4397684161973488112:True:=⟨⟩
theorem tw15755600195435188709:True:=⟨⟩
theorem tw17407049565445360953:True:=⟨⟩
theorem tw908880305357758839:True:=⟨⟩
theorem tw2455218816632103904:True:=⟨⟩
theorem tw782719872413053650:True:=⟨⟩
theorem tw15923931946982703250:True:=⟨⟩
theorem tw7958174498357925821:True:=⟨⟩
theorem tw3686326400322533805:True:=⟨⟩
theorem tw17236398780377943071:True:=⟨⟩
theorem tw3892227632994185491:True:=⟨⟩
theorem tw7684820258534166126:True:=⟨⟩
theorem tw6746078713729573149:True:=⟨⟩
theorem tw11804292509008479115:True:=⟨⟩
theorem tw13587052777431275356:True:=⟨⟩
theorem tw17362094401345318013:True:=⟨⟩
theorem tw4459180487298125006:True:=⟨⟩
theorem tw9246042815031778251:True:=⟨⟩
theorem tw8709042462198708382:True:=⟨⟩
theorem tw9798698045082436836:True:=⟨⟩
theorem tw6309199330136857025:True:=⟨⟩
theorem tw8083423483217949915:True:=⟨⟩
theorem tw15010142700156670087:True:=⟨⟩
theorem tw11954902030139364750:True:=⟨⟩
theorem tw2615588686933544735:True:=⟨⟩
theorem tw5585903270148390919:True:=⟨⟩
theorem tw3123432008305972677:True:=⟨⟩
theorem tw15040804366717906955:True:=⟨⟩
theorem tw4078788042237280789:True:=⟨⟩
theorem tw13369165591201428539:True:=⟨⟩
theorem tw3583079532035691742:True:=⟨⟩
theorem tw11161512577181806471:True:=⟨⟩
theorem tw13584122695382047704:True:=⟨⟩
theorem tw2790703193821817401:True:=⟨⟩
theorem tw12892738712274723240:True:=⟨⟩
theorem tw15752887362515140783:True:=⟨⟩
theorem tw5628314597858573862:True:=⟨⟩
theorem tw11795361339884293948:True:=⟨⟩
theorem tw17796075267231131897:True:=⟨⟩
theorem tw11501091500179542797:True:=⟨⟩
theorem tw2768536379164225707:True:=⟨⟩
theorem tw4268020307254116079:True:=⟨⟩
theorem tw769526284009388806:True:=⟨⟩
theorem tw5288445787047881752:True:=⟨⟩
theorem tw4926728083454191043:True:=⟨⟩
theorem tw1919947383599481878:True:=⟨⟩
theorem tw13588013580689071181:True:=⟨⟩
theorem tw14298222390208911655:True:=⟨⟩
theorem tw1205011893391287390:True:=⟨⟩
theorem tw17534516426610419080:True:=⟨⟩
theorem tw14287529356680542429:True:=⟨⟩
theorem tw13960732369908283787:True:=⟨⟩
theorem tw15369637706217280882:True:=⟨⟩
theorem tw2276500545618996696:True:=⟨⟩
theorem tw6147404680042301813:True:=⟨⟩
theorem tw15005101350805175016:True:=⟨⟩
theorem tw7938352015378969248:True:=⟨⟩
theorem tw790762417007475954:True:=⟨⟩
theorem tw9040897349740716175:True:=⟨⟩
theorem tw597950867924285991:True:=⟨⟩
theorem tw408116314839106180:True:=⟨⟩
theorem tw3323801378846934992:True:=⟨⟩
end PySem.W.Fast
open_top zTop for PySem.Challenge.rw_stepcourt_k02_terms_written_and_read
end
namespace L2
open PySem PySem.Spec PyProof.Rows
/-- a key: an int or a str -/
noncomputable abbrev Key := Sum Int Str
noncomputable def keyIs : Key → Value → Bool
  | .inl k, v => Value.isInt k v
  | .inr x, v => Value.isStrOf x v
noncomputable def keyH (w : World) : Key → Int
  | .inl k => hashInt k
  | .inr x => hashStr w x
theorem keyIs_shape : ∀ {k : Key} {v : Value}, keyIs k v = true → (∃ i t, k = Sum.inl i ∧ v = Value.int i t) ∨ (∃ x t, k = Sum.inr x ∧ v = Value.str x t)
  | .inl i, v, h => by
    obtain ⟨t, e⟩ := Value.isInt_shape (k := i) (v := v) h
    exact .inl ⟨i, t, rfl, e⟩
  | .inr x, v, h => by
    obtain ⟨t, e⟩ := Value.isStrOf_shape (x := x) (v := v) h
    exact .inr ⟨x, t, rfl, e⟩
theorem keyIs_int (i : Int) (t : Tok) : keyIs (.inl i) (.int i t) = true := by simp [keyIs, Value.isInt]
theorem keyIs_str (x : Str) (t : Tok) : keyIs (.inr x) (.str x t) = true := by simp [keyIs, Value.isStrOf]
theorem key_ll (a b : Int) : decide ((Sum.inl a : Key) = Sum.inl b) = (a == b) := by
  by_cases e : a = b
  · subst e; simp
  · have h : ¬ (Sum.inl a : Key) = Sum.inl b := fun q => e (Sum.inl.inj q)
    rw [decide_eq_false h]
    exact (beq_eq_false_iff_ne.mpr e).symm
theorem key_rr (a b : Str) : decide ((Sum.inr a : Key) = Sum.inr b) = decide (a = b) := by
  by_cases e : a = b
  · subst e; simp
  · have h : ¬ (Sum.inr a : Key) = Sum.inr b := fun q => e (Sum.inr.inj q)
    rw [decide_eq_false h, decide_eq_false e]
theorem key_lr (a : Int) (b : Str) : decide ((Sum.inl a : Key) = Sum.inr b) = false := decide_eq_false (fun q => nomatch q)
theorem key_rl (a : Str) (b : Int) : decide ((Sum.inr a : Key) = Sum.inl b) = false := decide_eq_false (fun q => nomatch q)
noncomputable def mixKind (prog : Program) (w : World) : PySem.KeyKind prog w Key where
  is := keyIs
  hash := keyH w
  inj := fun v a b ha hb => by
    rcases keyIs_shape ha with ⟨i, t, rfl, rfl⟩ | ⟨x, t, rfl, rfl⟩
    · rcases keyIs_shape hb with ⟨j, u, rfl, e⟩ | ⟨y, u, rfl, e⟩
      · injection e with e1 _; rw [e1]
      · exact nomatch e
    · rcases keyIs_shape hb with ⟨j, u, rfl, e⟩ | ⟨y, u, rfl, e⟩
      · exact nomatch e
      · injection e with e1 _; rw [e1]
  byValue := fun k v h => by
    rcases keyIs_shape h with ⟨i, t, rfl, rfl⟩ | ⟨x, t, rfl, rfl⟩ <;> rfl
  pyHash := fun hv h => by
    rcases keyIs_shape hv with ⟨i, t, rfl, rfl⟩ | ⟨x, t, rfl, rfl⟩
    · exact wpAny_pyHash_int h
    · exact wpAny_pyHash_str h
  eqBool := fun hu hv h => by
    rcases keyIs_shape hu with ⟨i, t, rfl, rfl⟩ | ⟨x, t, rfl, rfl⟩
    · rcases keyIs_shape hv with ⟨j, u, rfl, rfl⟩ | ⟨y, u, rfl, rfl⟩
      · rw [key_ll] at h; exact wpAny_eqBool_int h
      · rw [key_lr] at h; exact SeqAt.EqAt.int_str i t y u _ _ _ _ h
    · rcases keyIs_shape hv with ⟨j, u, rfl, rfl⟩ | ⟨y, u, rfl, rfl⟩
      · rw [key_rl] at h; exact SeqAt.EqAt.str_int x t j u _ _ _ _ h
      · rw [key_rr] at h; exact wpAny_eqBool_str h
  «strs» := fun k x t v h => by
    rcases keyIs_shape h with ⟨i, u, rfl, e⟩ | ⟨y, u, rfl, e⟩
    · exact nomatch e
    · injection e with e1 _
      subst e1
      cases v <;> rfl
theorem mixKind_int (prog : Program) (w : World) (i : Int) (t : Tok) : (mixKind prog w).is (.inl i) (.int i t) = true := keyIs_int i t
theorem mixKind_str (prog : Program) (w : World) (x : Str) (t : Tok) : (mixKind prog w).is (.inr x) (.str x t) = true := keyIs_str x t
end L2
namespace L2
open PySem PySem.Spec PyProof.Rows
/-- a value, without the heap -/
inductive V where
  | non | bl (b : Bool) | int (i : Int) | str (x : Str) | byt (b : Array UInt8) | flt (b : UInt64) | ref (a : Addr) | ty (n : String)
  deriving DecidableEq
noncomputable def RelV : V → Value → Prop
  | .non, u => u = Value.none
  | .bl b, u => u = Value.bool b
  | .int i, u => ∃ t, u = Value.int i t
  | .str x, u => ∃ t, u = Value.str x t
  | .byt b, u => ∃ t, u = Value.bytes b t
  | .flt b, u => ∃ t, u = Value.float b t
  | .ref a, u => u = Value.ref a
  | .ty n, u => u = Value.type n
noncomputable abbrev Vals : List V → List Value → Prop := Paired RelV
theorem Vals.length {xs : List V} {us : List Value} (r : Vals xs us) : xs.length = us.length := Paired.length r
theorem Vals.get : ∀ {xs : List V} {us : List Value} {i : Nat} {x : V}, Vals xs us → xs[i]? = some x → ∃ u, us[i]? = some u ∧ RelV x u
  | _, _, _, _, .nil, e => by simp at e
  | _, _, 0, _, .cons r _, e => by simp at e; subst e; exact ⟨_, rfl, r⟩
  | _, _, i + 1, x, .cons _ t, e => by
    obtain ⟨u, h1, h2⟩ := Vals.get (i := i) (x := x) t (by simpa using e)
    exact ⟨u, by simpa using h1, h2⟩
theorem Vals.set {x : V} {u : Value} (r : RelV x u) : ∀ {xs : List V} {us : List Value} (i : Nat), Vals xs us → Vals (xs.set i x) (us.set i u)
  | _, _, _, .nil => .nil
  | _, _, 0, .cons _ t => .cons r t
  | _, _, i + 1, .cons q t => .cons q (Vals.set r i t)
theorem Vals.append : ∀ {xs ys : List V} {us ws : List Value}, Vals xs us → Vals ys ws → Vals (xs ++ ys) (us ++ ws)
  | _, _, _, _, .nil, s => s
  | _, _, _, _, .cons r t, s => .cons r (Vals.append t s)
theorem Vals.take : ∀ {xs : List V} {us : List Value} (n : Nat), Vals xs us → Vals (xs.take n) (us.take n)
  | _, _, 0, _ => .nil
  | _, _, _ + 1, .nil => .nil
  | _, _, n + 1, .cons r t => .cons r (Vals.take n t)
theorem Vals.drop : ∀ {xs : List V} {us : List Value} (n : Nat), Vals xs us → Vals (xs.drop n) (us.drop n)
  | _, _, 0, r => r
  | _, _, _ + 1, .nil => .nil
  | _, _, n + 1, .cons _ t => Vals.drop n t
noncomputable def RelO : Option V → Option Value → Prop
  | some v, some u => RelV v u
  | none, none => True
  | _, _ => False
noncomputable def KV {κ : Type} : List (κ × V) → List (κ × Value) → Prop := Paired fun (p : κ × V) (q : κ × Value) => p.1 = q.1 ∧ RelV p.2 q.2
/-- a key of a dict (00_mix): an int or a text -/
noncomputable def kV : Key → V
  | .inl i => .int i
  | .inr x => .str x
/-- what stands at a tracked address -/
inductive HO where
  /-- a list -/
  | lst (xs : List V)
  /-- a tuple (never changes) -/
  | tup (xs : List V)
  /-- a dict whose keys are ints and texts; one whose keys are tuples of ints and texts (the empty one is both) -/
  | dK (kvs : List (Key × V)) | dT (kvs : List (List Key × V))
  /-- a set of ints: its members, its size -/
  | set (S : Int → Bool) (n : Nat)
  /-- an instance of the class at C, its dict at dx, its attributes -/
  | ins (C dx : Addr) (fs : List (Str × V))
  /-- the dict of the instance at x -/
  | own (x : Addr)
  /-- the dict of an exception -/
  | xd (fs : List (Str × V))
  /-- a bound method, f of x -/
  | met (f x : Addr)
  /-- a range object lo, lo + 1, .. below hi -/
  | rng (lo hi : Int)
  /-- a thing that is known to the object (the script; a dict while a loop walks it): read, never written while it is so -/
  | frz (o : Obj) (u : HO)
  /-- a code object's table -/
  | tbl (ps : Array Value)
  /-- any other thing, by what is true of its one object (a def of one's own: SetO a S n := HO.ext fun h => ..) -/
  | ext (φ : Heap → Prop)
noncomputable abbrev Hp := Addr → Option HO
noncomputable def upd (H : Hp) (a : Addr) (o : HO) : Hp := fun b => if b = a then some o else H b
theorem upd_same {H : Hp} {a : Addr} {o : HO} : upd H a o a = some o := by unfold upd; rw [if_pos rfl]
theorem upd_ne {H : Hp} {a b : Addr} {o : HO} (h : b ≠ a) : upd H a o b = H b := by unfold upd; rw [if_neg h]
/-- two objects of different content stand apart -/
theorem ne_of {H : Hp} {a b : Addr} {o u : HO} (h : H a = some o) (h' : H b = some u) (d : o ≠ u) : a ≠ b := by
  intro e; subst e; rw [h] at h'; exact d (Option.some.inj h')
theorem ne_of_none {H : Hp} {a b : Addr} {o : HO} (h : H a = some o) (h' : H b = none) : a ≠ b := by
  intro e; subst e; rw [h] at h'; cases h'
noncomputable def IsTupP (h : Heap) (a : Addr) (items : Array Value) : Prop := ∃ o, h.get? a = some o ∧ o.cls = .type "tuple" ∧ o.dict = none ∧ ∃ n, o.data = .seq items n
theorem IsTupP.tup {h : Heap} {a : Addr} {items : Array Value} (x : IsTupP h a items) : IsTup h a items := let ⟨o, e, c, _, n, d⟩ := x; ⟨o, e, c, n, d⟩
theorem IsTupP.mk' (h : Heap) (items : Array Value) : IsTupP (h.push { cls := .type "tuple", data := .seq items }) h.objs.size items := ⟨_, Heap.get?_push_size _ rfl, rfl, rfl, _, rfl⟩
section
variable (P : Program) (w : World)
noncomputable def ObjOk (H : Hp) (h : Heap) (a : Addr) : HO → Prop
  | .lst xs => xs.length ≤ sizeLine ∧ ∃ (its : List Value) (n : Nat), Vals xs its ∧ h.get? a = some { cls := .type "list", data := .seq its.toArray n }
  | .tup xs => xs.length ≤ sizeLine ∧ ∃ its : List Value, Vals xs its ∧ IsTupP h a its.toArray
  | .dK kvs => kvs.length ≤ sizeLine ∧ (a == sysModules) = false ∧ ∃ vs, KV kvs vs ∧ h.DictOf (mixKind P w) a vs
  | .dT kvs => kvs.length ≤ sizeLine ∧ (a == sysModules) = false ∧ ∃ xs : List (List Key × Addr × Value),
      Paired (fun (p : List Key × V) (q : List Key × Addr × Value) => p.1 = q.1 ∧ H q.2.1 = some (.tup (p.1.map kV)) ∧ RelV p.2 q.2.2) kvs xs ∧
      ∃ o es ep, h.get? a = some o ∧ o.ExactDict ∧ o.data = .dict es ep ∧ es.toList = xs.map (entryOfKey (tupleKind (mixKind P w))) ∧ (xs.map (·.1)).Nodup
  | .set S n => h.SetOf (intKind P w) a S n
  | .ins C dx fs => H dx = some (.own a) ∧ fs.length ≤ 1000 ∧ dx ≠ a ∧ h.get? a = some (PySem.W.instObj C dx) ∧
      ∃ mA, h.Ns1 dx mA ∧ (∀ f, RelO (fs.lookup f) (mA f)) ∧ PySem.Within mA (fs.map (·.1))
  | .own _ => ∃ o, h.get? a = some o
  | .xd fs => ∃ mA, h.Ns1 a mA ∧ ∀ f, RelO (fs.lookup f) (mA f)
  | .rng lo hi => ∃ t u v, h.get? a = some { cls := .type "range", data := .fields #[.int lo t, .int hi u, .int 1 v] }
  | .frz o u => h.get? a = some o ∧ ObjOk H h a u
  | .tbl ps => h.get? a = some { cls := .none, data := .fields ps }
  | .met f x => h.get? a = some (PySem.W.methodObj (.ref f) (.ref x))
  | .ext φ => φ h ∧ (∃ o, h.get? a = some o) ∧ ∀ h1 h2 : Heap, φ h1 → (∀ o, h1.get? a = some o → h2.get? a = some o) → φ h2
/-- the abstract heap is held -/
noncomputable def HOk (H : Hp) (h : Heap) : Prop := ∀ a o, H a = some o → ObjOk P w H h a o
end
section
variable {P : Program} {w : World} {H H' : Hp} {h h' : Heap} {a : Addr} {o : HO}
theorem ObjOk.lt (x : ObjOk P w H h a o) : a < h.objs.size := by
  cases o with
  | lst xs => obtain ⟨_, _, _, _, e⟩ := x; exact Heap.lt_size e
  | tup xs => obtain ⟨_, _, _, p⟩ := x; exact p.tup.lt
  | dK kvs => obtain ⟨_, _, _, _, o, _, _, e, _⟩ := x; exact Heap.lt_size e
  | dT kvs => obtain ⟨_, _, _, _, o, _, _, e, _⟩ := x; exact Heap.lt_size e
  | set S n => obtain ⟨o, _, _, _, e, _⟩ := x; exact Heap.lt_size e
  | ins C dx fs => obtain ⟨_, _, _, e, _⟩ := x; exact Heap.lt_size e
  | own y => obtain ⟨_, e⟩ := x; exact Heap.lt_size e
  | xd fs => obtain ⟨_, ⟨_, _, _, e, _⟩, _⟩ := x; exact Heap.lt_size e
  | rng lo hi => obtain ⟨_, _, _, e⟩ := x; exact Heap.lt_size e
  | frz ob u => obtain ⟨e, _⟩ := x; exact Heap.lt_size e
  | tbl ps => exact Heap.lt_size (show h.get? a = some _ from x)
  | met f y => exact Heap.lt_size (show h.get? a = some _ from x)
  | ext φ => obtain ⟨_, ⟨_, e⟩, _⟩ := x; exact Heap.lt_size e
theorem Paired.mapP {α β : Type} {F G : α → β → Prop} : ∀ {l₁ : List α} {l₂ : List β}, Paired F l₁ l₂ → (∀ a b, F a b → G a b) → Paired G l₁ l₂
  | _, _, .nil, _ => .nil
  | _, _, .cons r t, f => .cons (f _ _ r) (Paired.mapP t f)
/-- what an object's description leans on: its own object, its own dict, the tuples -/
theorem ObjOk.stay (x : ObjOk P w H h a o) (k : ∀ b u, (b = a ∨ H b = some (.own a)) → h.get? b = some u → h'.get? b = some u)
    (ho : ∀ b, H b = some (.own a) → H' b = some (.own a)) (ht : ∀ b xs, H b = some (.tup xs) → H' b = some (.tup xs)) : ObjOk P w H' h' a o := by
  induction o with
  | lst xs => obtain ⟨z, its, n, r, e⟩ := x; exact ⟨z, its, n, r, k _ _ (.inl rfl) e⟩
  | tup xs => obtain ⟨z, its, r, ob, e, c⟩ := x; exact ⟨z, its, r, ob, k _ _ (.inl rfl) e, c⟩
  | dK kvs => obtain ⟨z, y, vs, r, ob, es, ep, e, c⟩ := x; exact ⟨z, y, vs, r, ob, es, ep, k _ _ (.inl rfl) e, c⟩
  | dT kvs =>
    obtain ⟨z, y, xs, r, ob, es, ep, e, c⟩ := x
    exact ⟨z, y, xs, Paired.mapP r fun p q z => ⟨z.1, ht _ _ z.2.1, z.2.2⟩, ob, es, ep, k _ _ (.inl rfl) e, c⟩
  | set S n => obtain ⟨ob, es, ep, t, e, c⟩ := x; exact ⟨ob, es, ep, t, k _ _ (.inl rfl) e, c⟩
  | ins C dx fs =>
    obtain ⟨d, z, ne, e, mA, ⟨od, es, ep, e2, c⟩, r⟩ := x
    exact ⟨ho _ d, z, ne, k _ _ (.inl rfl) e, mA, ⟨od, es, ep, k _ _ (.inr d) e2, c⟩, r⟩
  | own y => obtain ⟨ob, e⟩ := x; exact ⟨ob, k _ _ (.inl rfl) e⟩
  | xd fs => obtain ⟨mA, ⟨od, es, ep, e, c⟩, r⟩ := x; exact ⟨mA, ⟨od, es, ep, k _ _ (.inl rfl) e, c⟩, r⟩
  | rng lo hi => obtain ⟨t, u, v, e⟩ := x; exact ⟨t, u, v, k _ _ (.inl rfl) e⟩
  | frz ob u ih => obtain ⟨e, q⟩ := x; exact ⟨k _ _ (.inl rfl) e, ih q⟩
  | tbl ps =>
    have e : h.get? a = some { cls := .none, data := .fields ps } := x
    show h'.get? a = some { cls := .none, data := .fields ps }
    exact k a _ (.inl rfl) e
  | met f y =>
    have e : h.get? a = some (PySem.W.methodObj (.ref f) (.ref y)) := x
    show h'.get? a = some (PySem.W.methodObj (.ref f) (.ref y))
    exact k a _ (.inl rfl) e
  | ext φ => obtain ⟨p, ⟨o, e⟩, st⟩ := x; exact ⟨st _ _ p fun o q => k _ _ (.inl rfl) q, ⟨o, k _ _ (.inl rfl) e⟩, st⟩
theorem HOk.lt (x : HOk P w H h) (e : H a = some o) : a < h.objs.size := (x a o e).lt
theorem HOk.fresh (x : HOk P w H h) (e : h.objs.size ≤ a) : H a = none := by
  cases q : H a with
  | none => rfl
  | some u => exact absurd (Nat.lt_of_lt_of_le (x.lt q) e) (Nat.lt_irrefl _)
/-- every object of the heap is kept -/
theorem HOk.kept (x : HOk P w H h) (k : ∀ b u, h.get? b = some u → h'.get? b = some u) : HOk P w H h' := fun a o e =>
  (x a o e).stay (fun b u _ q => k b u q) (fun _ q => q) fun _ _ q => q
/-- a new object is laid and tracked -/
theorem HOk.laid (x : HOk P w H h) (k : ∀ b u, h.get? b = some u → h'.get? b = some u) (hp : h.objs.size ≤ a) (new : ObjOk P w (upd H a o) h' a o) : HOk P w (upd H a o) h' := fun b u e => by
  have hn := x.fresh hp
  by_cases hb : b = a
  · subst hb; rw [upd_same] at e; cases e; exact new
  · rw [upd_ne hb] at e
    exact (x b u e).stay (fun c v _ q => k c v q) (fun c q => by rw [upd_ne (ne_of_none q hn)]; exact q) fun c xs q => by rw [upd_ne (ne_of_none q hn)]; exact q
end
/-- what may be read as u: it is u, or a known u -/
noncomputable def Rd (H : Hp) (a : Addr) (u : HO) : Prop := H a = some u ∨ ∃ o, H a = some (.frz o u)
theorem Rd.ok {P : Program} {w : World} {H : Hp} {h : Heap} {a : Addr} {u : HO} (r : Rd H a u) (x : HOk P w H h) : ObjOk P w H h a u := by
  rcases r with r | ⟨o, r⟩
  · exact x a u r
  · obtain ⟨_, q⟩ := x a _ r
    exact q
/-- what may be written -/
noncomputable def Mut : Option HO → Prop
  | some (.lst _) => True
  | some (.dK _) => True
  | some (.dT _) => True
  | some (.set _ _) => True
  | some (.ins _ _ _) => True
  | some (.ext _) => True
  | _ => False
section
variable {P : Program} {w : World} {H : Hp} {h h' : Heap} {x e : Addr} {o' : HO}
/-- the object at e is changed: x itself, or the dict of the instance x -/
theorem HOk.write (ok : HOk P w H h) (mu : Mut (H x)) (he : e = x ∨ H e = some (.own x)) (k : ∀ b u, b ≠ e → h.get? b = some u → h'.get? b = some u) (heo : ∃ u, h'.get? e = some u)
    (new : ObjOk P w (upd H x o') h' x o') : HOk P w (upd H x o') h' := fun b u q => by
  have nown : ∀ c y, H c = some (.own y) → c ≠ x := fun c y r z => by subst z; rw [r] at mu; exact mu
  have ntup : ∀ c xs, H c = some (.tup xs) → c ≠ x := fun c xs r z => by subst z; rw [r] at mu; exact mu
  by_cases hb : b = x
  · subst hb; rw [upd_same] at q; cases q; exact new
  · rw [upd_ne hb] at q
    by_cases hbe : b = e
    · have q' : H b = some (.own x) := by
        rcases he with z | z
        · exact absurd (hbe.trans z) hb
        · rw [hbe]; exact z
      rw [q] at q'; cases q'
      obtain ⟨v, hv⟩ := heo
      exact ⟨v, by rw [hbe]; exact hv⟩
    · refine (ok b u q).stay (fun c v hc r => k c v ?_ r) (fun c r => by rw [upd_ne (nown c b r)]; exact r) fun c xs r => by rw [upd_ne (ntup c xs r)]; exact r
      rcases hc with rfl | hc
      · exact hbe
      · rintro rfl
        rcases he with z | z
        · exact nown c b hc z
        · rw [hc] at z; cases z; exact hb rfl
end
structure Un (fs ex : List Addr) (H H' : Hp) (h h' : Heap) : Prop where
  keep : ∀ b o, h.get? b = some o → H b = none → b ∉ fs → b ∉ ex → h'.get? b = some o
  slot : ∀ b o, h.get? b = some o → H b = none → b ∈ fs → b ∉ ex → ∃ sl, h'.get? b = some { o with slots := sl }
  free : ∀ b o, h.get? b = some o → H b = none → b ∉ ex → H' b = none
  there : ∀ b o, h.get? b = some o → b ∉ ex → ∃ o', h'.get? b = some o'
  tups : ∀ b xs, H b = some (.tup xs) → H' b = some (.tup xs)
  frzs : ∀ b o u, H b = some (.frz o u) → H' b = some (.frz o u)
  tbls : ∀ b ps, H b = some (.tbl ps) → ∃ more, H' b = some (.tbl (ps ++ more))
section
variable {fs fs' ex ex' : List Addr} {H H1 H2 : Hp} {h h1 h2 h' : Heap} {a x e : Addr} {o : HO}
theorem Un.any (u : Un fs ex H H1 h h1) {b : Addr} {ob : Obj} (q : h.get? b = some ob) (n : H b = none) (hx : b ∉ ex) : ∃ sl, h1.get? b = some { ob with slots := sl } := by
  by_cases hb : b ∈ fs
  · exact u.slot b ob q n hb hx
  · exact ⟨ob.slots, u.keep b ob q n hb hx⟩
theorem Un.kept (k : ∀ b u, h.get? b = some u → h'.get? b = some u) : Un fs ex H H h h' :=
  ⟨fun b ob q _ _ _ => k b ob q, fun b ob q _ _ _ => ⟨ob.slots, k b ob q⟩, fun _ _ _ n _ => n, fun b ob q _ => ⟨ob, k b ob q⟩, fun _ _ q => q, fun _ _ _ q => q, fun _ ps q => ⟨#[], by rw [q]; simp⟩⟩
theorem Un.refl : Un fs ex H H h h := Un.kept fun _ _ q => q
theorem Un.laid (k : ∀ b u, h.get? b = some u → h'.get? b = some u) (hp : h.objs.size ≤ a) (hn : H a = none) : Un fs ex H (upd H a o) h h' where
  keep := fun b u q _ _ _ => k b u q
  slot := fun b u q _ _ _ => ⟨u.slots, k b u q⟩
  free := fun b u q n _ => by rw [upd_ne (Nat.ne_of_lt (Nat.lt_of_lt_of_le (Heap.lt_size q) hp))]; exact n
  there := fun b u q _ => ⟨u, k b u q⟩
  tups := fun b xs q => by rw [upd_ne (ne_of_none q hn)]; exact q
  frzs := fun b u xs q => by rw [upd_ne (ne_of_none q hn)]; exact q
  tbls := fun b ps q => ⟨#[], by rw [upd_ne (ne_of_none q hn), q]; simp⟩
theorem Un.write (mu : Mut (H x)) (he : e = x ∨ H e = some (.own x)) (k : ∀ b u, b ≠ e → h.get? b = some u → h'.get? b = some u) (heo : ∃ u, h'.get? e = some u) : Un fs ex H (upd H x o) h h' := by
  have hx : ∀ b, H b = none → b ≠ x := fun b n z => by subst z; rw [n] at mu; exact mu
  have hb : ∀ b, H b = none → b ≠ e := fun b n z => by
    subst z
    rcases he with r | r
    · exact hx b n r
    · rw [n] at r; cases r
  have hm : ∀ b u, H b = some u → ¬ Mut (some u) → b ≠ x := fun b u q nm z => by subst z; rw [q] at mu; exact nm mu
  refine ⟨fun b u q n _ _ => k b u (hb b n) q, fun b u q n _ _ => ⟨u.slots, k b u (hb b n) q⟩, fun b u q n _ => by rw [upd_ne (hx b n)]; exact n, fun b u q _ => ?_,
    fun b xs q => by rw [upd_ne (hm b _ q fun z => z)]; exact q, fun b u xs q => by rw [upd_ne (hm b _ q fun z => z)]; exact q, fun b ps q => ⟨#[], by rw [upd_ne (hm b _ q fun z => z), q]; simp⟩⟩
  by_cases hbe : b = e
  · subst hbe; exact heo
  · exact ⟨u, k b u hbe q⟩
end
noncomputable def trk (h : Heap) (H : Hp) : List Addr := (List.range h.objs.size).filter fun a => (H a).isSome
noncomputable def hidT (h : Heap) (H : Hp) : Heap := PySem.W.hideAll h (trk h H)
theorem hidT_size (h : Heap) (H : Hp) : (hidT h H).objs.size = h.objs.size := PySem.W.hideAll_size _ _
theorem hidT_get {h : Heap} {H : Hp} {b : Addr} {o : Obj} (e : h.get? b = some o) (n : H b = none) : (hidT h H).get? b = some o :=
  PySem.W.hideAll_get _ e fun hm => by
    have q : (H b).isSome = true := (List.mem_filter.mp hm).2
    rw [n] at q; simp at q
theorem of_hidT {h : Heap} {H : Hp} {b : Addr} {o : Obj} (e : (hidT h H).get? b = some o) : h.get? b = some o ∧ H b = none := by
  have e' : h.get? b = some o := PySem.W.of_hideAll (trk h H) e
  refine ⟨e', ?_⟩
  cases q : H b with
  | none => rfl
  | some x =>
    have hm : b ∈ trk h H := List.mem_filter.mpr ⟨List.mem_range.mpr (Heap.lt_size e'), by simp [q]⟩
    have z : (hidT h H).get? b = none := PySem.W.hideAll_none (trk h H) hm
    rw [z] at e; cases e
noncomputable def allNews (g h : Heap) (L : Addr) : List (Addr × Obj) := (List.range h.objs.size).filterMap fun a => if a = L ∨ (g.get? a).isSome = true then none else (h.get? a).map fun o => (a, o)
noncomputable def rest (g h : Heap) (L d : Addr) : List (Addr × Obj) := (allNews g h L).filter fun p => decide (p.1 ≠ d)
end L2
namespace L2
open PySem PySem.Spec PyProof.Rows
/-- the module's facts, over the base: the heap at the law's entry without what is tracked there -/
structure Mod (K : PySem.W.Frag) (mg : Str → Option Value) (base : Heap) : Prop where
  kin : K.In base
  glob : base.Ns mainGlobals mg
  blt : ∃ mb, base.Ns builtinsNs mb ∧ ∀ x : Str, x ≠ "__name__" → mb x = bootBuiltins x
  nolimit : base.NoLimit
/-- the context: a def's body (or a comprehension's block) running. base: fixed through the whole law; s₀, H₀: the entry; outer: the frames whose slots others may change (a def's callers); stack: all frames that run;
   ex: iterators that were made ahead of the entry and are walked here (a comprehension's); fn: the names whose cells were made at the entry (a def: all; a comprehension's block: its own); calm: not within an except suite; pn: pins that every state bears; xe: what is wanted of an exception that leaves the code -/
structure Cx where
  prog : Program
  w : World
  K : PySem.W.Frag
  mg : Str → Option Value
  base : Heap
  A : Around
  N : List Str
  s₀ : Shared
  H₀ : Hp
  env : Env
  outer : List Env
  stack : List Env
  ex : List Addr
  fn : Str → Bool
  calm : Bool
  pn : List (Addr × Obj)
  xe : Value → Shared → Prop
/-- the callers' frames -/
noncomputable def frs (l : List Env) : List Addr := l.filterMap (·.frame)
noncomputable abbrev Cx.fs (X : Cx) : List Addr := frs X.outer
noncomputable def Vis (sc : Scope) (x : Str) : Prop := sc.names.lookup x = some .local ∨ sc.names.lookup x = some .cell ∨ sc.names.lookup x = some .free
noncomputable def Loc (sc : Scope) (x : Str) : Prop := sc.names.lookup x = some .local ∨ sc.names.lookup x = some .cell
noncomputable def Look (env : Env) (h : Heap) (m : Str → Option Value) (x : Str) (u : Value) : Prop :=
  (env.kindOf x = some .local ∧ m x = some u) ∨ ((env.kindOf x = some .cell ∨ env.kindOf x = some .free) ∧ ∃ c, env.cells.lookup x = some c ∧ h.IsCell c (some u))
structure Cx.Ok (X : Cx) : Prop where
  mod : Mod X.K X.mg X.base
  kind : X.env.scope.kind = .function
  glob : X.env.globals = mainGlobals
  blt : X.env.builtins = builtinsNs
  above : X.s₀.heap.objs.size ≤ X.env.locals
  inj : ∀ x y c, X.env.cells.lookup x = some c → X.env.cells.lookup y = some c → x = y
  has : ∀ x, (X.env.kindOf x = some .cell ∨ X.env.kindOf x = some .free) → ∃ c, X.env.cells.lookup x = some c
  cab : ∀ x c, X.fn x = true → X.env.cells.lookup x = some c → X.s₀.heap.objs.size ≤ c
  hd : X.calm = true → X.A.handled = none
  frames : X.A.frames = some X.stack
  stk : X.stack = X.outer ∨ (X.stack = X.env :: X.outer ∧ X.env.frame = some X.env.locals)
  exf : ∀ b ∈ X.ex, b ≠ X.env.locals ∧ ∀ x c, X.env.cells.lookup x = some c → c ≠ b
  bs : ∀ b o, X.base.get? b = some o → X.s₀.heap.get? b = some o ∧ X.H₀ b = none
  bsz : X.base.objs.size ≤ X.s₀.heap.objs.size
  noex : ∀ b o, X.base.get? b = some o → b ∉ X.ex
  exfs : ∀ b ∈ X.ex, b ∉ X.fs
  funs : X.s₀.heap.FunFrames X.base X.outer
  frf : ∀ b ∈ X.fs, X.H₀ b = none
structure Inv (X : Cx) (pins : List (Addr × Obj)) (σ : List (Option V)) (H : Hp) (s : Shared) : Prop where
  ok : X.Ok
  os : s.os = X.s₀.os
  bare : AllBare s.gens
  base : Un X.fs X.ex X.H₀ H X.s₀.heap s.heap
  loc : ∃ m, s.heap.Ns X.env.locals m ∧ ∀ (i : Nat) (x : Str) (v : V), X.N[i]? = some x → σ[i]? = some (some v) → Vis X.env.scope x → ∃ u, RelV v u ∧ Look X.env s.heap m x u
  cell : ∀ x c, X.env.cells.lookup x = some c → ∃ v, s.heap.IsCell c v
  free : H X.env.locals = none
  freeC : ∀ x c, X.env.cells.lookup x = some c → H c = none
  pin : ∀ p ∈ X.pn ++ pins, s.heap.get? p.1 = some p.2 ∧ H p.1 = none ∧ p.1 ≠ X.env.locals ∧ p.1 ∉ X.fs ∧ ∀ v, p.2.data ≠ .cell v
  hok : HOk X.prog X.w H s.heap
  len : σ.length = X.N.length
section
variable {X : Cx} {pins : List (Addr × Obj)} {σ : List (Option V)} {H H' : Hp} {s : Shared} {h' : Heap}
theorem Cx.Ok.nofr (ok : X.Ok) {b : Addr} {o : Obj} (e : X.base.get? b = some o) : b ∉ X.fs := fun hb => by
  have := (ok.funs.mem hb).1
  rw [e] at this; cases this
theorem Inv.bs (I : Inv X pins σ H s) : ∀ b o, X.base.get? b = some o → s.heap.get? b = some o ∧ H b = none := fun b o e =>
  ⟨I.base.keep b o (I.ok.bs b o e).1 (I.ok.bs b o e).2 (I.ok.nofr e) (I.ok.noex b o e), I.base.free b o (I.ok.bs b o e).1 (I.ok.bs b o e).2 (I.ok.noex b o e)⟩
theorem Inv.bk (I : Inv X pins σ H s) : ∀ b o, X.base.get? b = some o → s.heap.get? b = some o := fun b o e => (I.bs b o e).1
theorem Inv.mod (I : Inv X pins σ H s) : Mod X.K X.mg X.base := I.ok.mod
theorem Inv.kIn (I : Inv X pins σ H s) : X.K.In s.heap := I.ok.mod.kin.keeps I.bk
/-- the frame over the base: for OpenK's rules (K.In X.base is I.mod.kin) -/
theorem Inv.fr (I : Inv X pins σ H s) : ∃ m, Fr X.base X.env.locals s.heap m :=
  let ⟨m, hn, _⟩ := I.loc
  ⟨m, hn, I.bk, Nat.le_trans I.ok.bsz I.ok.above⟩
theorem Inv.lt (I : Inv X pins σ H s) : X.env.locals < s.heap.objs.size := let ⟨_, hn, _⟩ := I.loc; hn.lt
theorem Inv.sz (I : Inv X pins σ H s) : X.s₀.heap.objs.size ≤ s.heap.objs.size := Nat.le_trans I.ok.above (Nat.le_of_lt I.lt)
theorem Inv.nofs (I : Inv X pins σ H s) {a : Addr} (h : s.heap.objs.size ≤ a) : a ∉ X.fs := fun hb => by
  obtain ⟨_, o, ho, _⟩ := I.ok.funs.mem hb
  exact absurd (Nat.lt_of_lt_of_le (Heap.lt_size ho) (Nat.le_trans I.sz h)) (Nat.lt_irrefl _)
theorem Inv.cne (I : Inv X pins σ H s) : ∀ x c, X.env.cells.lookup x = some c → c ≠ X.env.locals := fun x c e z => by
  obtain ⟨v, o, ho, hd⟩ := I.cell x c e
  obtain ⟨m, ⟨o', es, ep, ho', hd', _⟩, _⟩ := I.loc
  rw [z, ho'] at ho; cases ho; rw [hd'] at hd; cases hd
theorem Inv.funs (I : Inv X pins σ H s) : s.heap.FunFrames X.base X.outer := by
  have all : ∀ (l : List Env), (∀ b ∈ frs l, b ∈ X.fs) → X.s₀.heap.FunFrames X.base l → s.heap.FunFrames X.base l := by
    intro l
    induction l with
    | nil => intro _ _; trivial
    | cons env r ih =>
      intro hs hl
      obtain ⟨hk, ⟨L, o, hf, hn, ho, hd⟩, hr⟩ := hl
      have hL : L ∈ X.fs := hs L (by unfold frs; rw [List.filterMap_cons, hf]; exact List.mem_cons_self)
      obtain ⟨sl, e⟩ := I.base.slot L o ho (I.ok.frf L hL) hL fun z => I.ok.exfs L z hL
      exact ⟨hk, ⟨L, _, hf, hn, e, hd⟩, ih (fun b hb => hs b (by unfold frs; rw [List.filterMap_cons, hf]; exact List.mem_cons_of_mem _ hb)) hr⟩
  exact all X.outer (fun _ hb => hb) I.ok.funs
/-- the frames that run, for a call -/
theorem Inv.stack (I : Inv X pins σ H s) : s.heap.FunFrames X.base X.stack := by
  rcases I.ok.stk with e | ⟨e, hf⟩
  · rw [e]; exact I.funs
  · rw [e]
    obtain ⟨m, hn, _⟩ := I.loc
    refine .cons (by rw [I.ok.kind]; decide) hf hn ?_ I.funs
    exact Heap.get?_none_of_le (Nat.le_trans I.ok.bsz I.ok.above)
theorem Inv.stkSub (I : Inv X pins σ H s) : ∀ b ∈ frs X.stack, b ∈ X.env.locals :: X.fs := fun b hb => by
  rcases I.ok.stk with e | ⟨e, hf⟩
  · rw [e] at hb; exact List.mem_cons_of_mem _ hb
  · rw [e] at hb
    unfold frs at hb
    rw [List.filterMap_cons, hf] at hb
    exact hb
theorem Inv.stkFree (I : Inv X pins σ H s) : ∀ b ∈ frs X.stack, H b = none := fun b hb => by
  rcases List.mem_cons.mp (I.stkSub b hb) with e | hb
  · rw [e]; exact I.free
  · obtain ⟨_, o, ho, _⟩ := I.ok.funs.mem hb
    exact I.base.free b o ho (I.ok.frf b hb) fun z => I.ok.exfs b z hb
/-- THE STEP: the untracked objects but the frame and the records at ch are kept (the callers' frames up to slots), the frame's map is kept, the new abstract heap is held -/
theorem Inv.step {g' : Array GenState} {t' : Nat} {d' : Drawn} {ch : List Addr} (I : Inv X pins σ H s)
    (hch : ∀ b ∈ ch, (b ∈ X.ex ∨ X.s₀.heap.objs.size ≤ b) ∧ b ≠ X.env.locals ∧ (∀ x c, X.env.cells.lookup x = some c → c ≠ b) ∧ ∀ p ∈ X.pn ++ pins, p.1 ≠ b)
    (keep : ∀ b o, b ≠ X.env.locals → b ∉ X.fs → b ∉ ch → s.heap.get? b = some o → H b = none → h'.get? b = some o)
    (slot : ∀ b o, b ≠ X.env.locals → b ∈ X.fs → b ∉ ch → s.heap.get? b = some o → H b = none → ∃ sl, h'.get? b = some { o with slots := sl }) (free : ∀ b o, b ∉ ch → s.heap.get? b = some o → H b = none → H' b = none)
    (there : ∀ b o, b ∉ ch → s.heap.get? b = some o → ∃ o', h'.get? b = some o')
    (tups : ∀ b xs, H b = some (.tup xs) → H' b = some (.tup xs)) (frzs : ∀ b o u, H b = some (.frz o u) → H' b = some (.frz o u)) (tbls : ∀ b ps, H b = some (.tbl ps) → ∃ more, H' b = some (.tbl (ps ++ more)))
    (ns : ∀ m, s.heap.Ns X.env.locals m → h'.Ns X.env.locals m) (hok : HOk X.prog X.w H' h') (hg : AllBare g') :
    Inv X pins σ H' { s with heap := h', gens := g', drawn := d', toks := t' } := by
  have neL : ∀ b o, X.s₀.heap.get? b = some o → b ≠ X.env.locals := fun b o e => Nat.ne_of_lt (Nat.lt_of_lt_of_le (Heap.lt_size e) I.ok.above)
  have neC : ∀ b o, X.s₀.heap.get? b = some o → b ∉ X.ex → b ∉ ch := fun b o e hx hb => by
    rcases (hch b hb).1 with z | z
    · exact hx z
    · exact absurd (Nat.lt_of_lt_of_le (Heap.lt_size e) z) (Nat.lt_irrefl _)
  have cellK : ∀ x c, X.env.cells.lookup x = some c → ∀ v, s.heap.IsCell c v → h'.IsCell c v := fun x c e v zz => by
    obtain ⟨o, ho, hd⟩ := zz
    have nch : c ∉ ch := fun z => (hch c z).2.2.1 x c e rfl
    by_cases hc : c ∈ X.fs
    · obtain ⟨sl, q⟩ := slot c o (I.cne x c e) hc nch ho (I.freeC x c e)
      exact ⟨_, q, hd⟩
    · exact ⟨o, keep c o (I.cne x c e) hc nch ho (I.freeC x c e), hd⟩
  refine ⟨I.ok, I.os, hg, ⟨fun b o e n hb hx => ?_, fun b o e n hb hx => ?_, fun b o e n hx => ?_, fun b o e hx => ?_, fun b xs e => tups b xs (I.base.tups b xs e), fun b o xs e => frzs b o xs (I.base.frzs b o xs e), fun b ps e => ?_⟩, ?_, fun x c e => ?_, ?_, fun x c e => ?_, fun p hp => ?_, hok, I.len⟩
  · exact keep b o (neL b o e) hb (neC b o e hx) (I.base.keep b o e n hb hx) (I.base.free b o e n hx)
  · obtain ⟨sl, e1⟩ := I.base.slot b o e n hb hx
    obtain ⟨sl', e2⟩ := slot b _ (neL b o e) hb (neC b o e hx) e1 (I.base.free b o e n hx)
    exact ⟨sl', e2⟩
  · obtain ⟨o', e1⟩ := I.base.there b o e hx
    exact free b o' (neC b o e hx) e1 (I.base.free b o e n hx)
  · obtain ⟨o', e1⟩ := I.base.there b o e hx
    exact there b o' (neC b o e hx) e1
  · obtain ⟨m1, e1⟩ := I.base.tbls b ps e
    obtain ⟨m2, e2⟩ := tbls b _ e1
    exact ⟨m1 ++ m2, by rw [e2, Array.append_assoc]⟩
  · obtain ⟨m, hn, hl⟩ := I.loc
    refine ⟨m, ns m hn, fun i x v e1 e2 e3 => ?_⟩
    obtain ⟨u, r, l⟩ := hl i x v e1 e2 e3
    refine ⟨u, r, ?_⟩
    rcases l with l | ⟨k, c, e, z⟩
    · exact .inl l
    · exact .inr ⟨k, c, e, cellK x c e _ z⟩
  · obtain ⟨v, z⟩ := I.cell x c e
    exact ⟨v, cellK x c e v z⟩
  · obtain ⟨m, ⟨o, _, _, ho, _⟩, _⟩ := I.loc
    exact free _ o (fun z => (hch _ z).2.1 rfl) ho I.free
  · obtain ⟨v, o, ho, hd⟩ := I.cell x c e
    exact free c o (fun z => (hch c z).2.2.1 x c e rfl) ho (I.freeC x c e)
  · obtain ⟨e, n, ne, nf, d⟩ := I.pin p hp
    have nch : p.1 ∉ ch := fun z => (hch p.1 z).2.2.2 p hp rfl
    exact ⟨keep p.1 p.2 ne nf nch e n, free p.1 p.2 nch e n, ne, nf, d⟩
/-- .. where the frame's own object is kept too -/
theorem Inv.un {t' : Nat} (I : Inv X pins σ H s) (u : Un X.fs [] H H' s.heap h') (hok : HOk X.prog X.w H' h') : Inv X pins σ H' { s with heap := h', toks := t' } := by
  obtain ⟨m, ⟨o, es, ep, ho, r⟩, _⟩ := id I.loc
  obtain ⟨sl, hL⟩ := u.any ho I.free (by simp)
  exact I.step (g' := s.gens) (d' := s.drawn) (ch := []) (fun _ z => nomatch z) (fun b o _ hb _ e n => u.keep b o e n hb (by simp)) (fun b o _ hb _ e n => u.slot b o e n hb (by simp)) (fun b o _ e n => u.free b o e n (by simp)) (fun b o _ e => u.there b o e (by simp)) u.tups u.frzs u.tbls (fun m' hm => by
    obtain ⟨o', es', ep', ho', r'⟩ := hm
    rw [ho] at ho'; cases ho'
    exact ⟨_, es', ep', hL, r'⟩) hok I.bare
/-- behind a call (or a comprehension's block): the slots of this frame may have changed too, the records at ch may have turned -/
theorem Inv.call {g' : Array GenState} {t' : Nat} {d' : Drawn} {ch : List Addr} (I : Inv X pins σ H s) (u : Un (frs X.stack) ch H H' s.heap h') (hok : HOk X.prog X.w H' h') (hg : AllBare g')
    (hch : ∀ b ∈ ch, (b ∈ X.ex ∨ X.s₀.heap.objs.size ≤ b) ∧ b ≠ X.env.locals ∧ (∀ x c, X.env.cells.lookup x = some c → c ≠ b) ∧ ∀ p ∈ X.pn ++ pins, p.1 ≠ b) :
    Inv X pins σ H' { s with heap := h', gens := g', drawn := d', toks := t' } := by
  obtain ⟨m, ⟨o, es, ep, ho, r⟩, _⟩ := id I.loc
  obtain ⟨sl, hL⟩ := u.any ho I.free fun z => (hch _ z).2.1 rfl
  exact I.step (ch := ch) hch (fun b o hL hb hc e n => u.keep b o e n (fun z => (List.mem_cons.mp (I.stkSub b z)).elim hL hb) hc) (fun b o _ _ hc e n => u.any e n hc) (fun b o hc e n => u.free b o e n hc) (fun b o hc e => u.there b o e hc) u.tups u.frzs u.tbls (fun m' hm => by
    obtain ⟨o', es', ep', ho', r'⟩ := hm
    rw [ho] at ho'; cases ho'
    exact ⟨_, es', ep', hL, r'⟩) hok hg
/-- an untracked record of ours (an iterator) has turned -/
theorem Inv.turned {t' : Nat} {it : Addr} (I : Inv X pins σ H s) (k : ∀ b o, b ≠ it → s.heap.get? b = some o → h'.get? b = some o) (hn : H it = none) (hL : it ≠ X.env.locals)
    (h1 : it ∈ X.ex ∨ X.s₀.heap.objs.size ≤ it) (h2 : ∀ x c, X.env.cells.lookup x = some c → c ≠ it) (h3 : ∀ p ∈ X.pn ++ pins, p.1 ≠ it) : Inv X pins σ H { s with heap := h', toks := t' } := by
  have nit : ∀ b u, H b = some u → b ≠ it := fun b u e z => by rw [z, hn] at e; cases e
  refine I.step (g' := s.gens) (d' := s.drawn) (ch := [it]) (fun b hb => ?_) (fun b o _ _ hc e _ => k b o (fun z => hc (by simp [z])) e) (fun b o _ _ hc e _ => ⟨o.slots, k b o (fun z => hc (by simp [z])) e⟩) (fun _ _ _ _ n => n)
    (fun b o hc e => ⟨o, k b o (fun z => hc (by simp [z])) e⟩) (fun _ _ e => e) (fun _ _ _ e => e) (fun b ps e => ⟨#[], by rw [e]; simp⟩) (fun m hm => ?_) (fun b u e => ?_) I.bare
  · have e : b = it := by simpa using hb
    subst e
    exact ⟨h1, hL, h2, h3⟩
  · obtain ⟨o, es, ep, ho, r⟩ := hm
    exact ⟨o, es, ep, k _ o (Ne.symm hL) ho, r⟩
  · refine (I.hok b u e).stay (fun c v hc q => k c v ?_ q) (fun _ q => q) fun _ _ q => q
    rcases hc with z | z
    · rw [z]; exact nit b u e
    · exact nit c _ z
theorem Inv.tok (I : Inv X pins σ H s) (t : Nat) : Inv X pins σ H { s with toks := t } := I.un (h' := s.heap) (t' := t) Un.refl I.hok
/-- all objects kept -/
theorem Inv.kept {t' : Nat} (I : Inv X pins σ H s) (k : ∀ b u, s.heap.get? b = some u → h'.get? b = some u) : Inv X pins σ H { s with heap := h', toks := t' } := I.un (Un.kept k) (I.hok.kept k)
/-- a new object laid and tracked -/
theorem Inv.laid {a : Addr} {o : HO} {t' : Nat} (I : Inv X pins σ H s) (k : ∀ b u, s.heap.get? b = some u → h'.get? b = some u) (hp : s.heap.objs.size ≤ a) (new : ObjOk X.prog X.w (upd H a o) h' a o) :
    Inv X pins σ (upd H a o) { s with heap := h', toks := t' } := I.un (Un.laid k hp (I.hok.fresh hp)) (I.hok.laid k hp new)
/-- an object written -/
theorem Inv.write {x e : Addr} {o : HO} {t' : Nat} (I : Inv X pins σ H s) (mu : Mut (H x)) (he : e = x ∨ H e = some (.own x)) (k : ∀ b u, b ≠ e → s.heap.get? b = some u → h'.get? b = some u) (heo : ∃ u, h'.get? e = some u)
    (new : ObjOk X.prog X.w (upd H x o) h' x o) : Inv X pins σ (upd H x o) { s with heap := h', toks := t' } := I.un (Un.write mu he k heo) (I.hok.write mu he k heo new)
/-- forgetting slots, pins -/
theorem Inv.weak {σ' : List (Option V)} (I : Inv X pins σ H s) (hl : σ'.length = σ.length) (w : ∀ (i : Nat) v, σ'[i]? = some (some v) → σ[i]? = some (some v)) : Inv X pins σ' H s :=
  ⟨I.ok, I.os, I.bare, I.base, let ⟨m, hn, hl'⟩ := I.loc; ⟨m, hn, fun i x v e1 e2 e3 => hl' i x v e1 (w i v e2) e3⟩, I.cell, I.free, I.freeC, I.pin, I.hok, hl.trans I.len⟩
theorem Inv.pins_of {pins' : List (Addr × Obj)} (I : Inv X pins σ H s) (h : ∀ p ∈ pins', s.heap.get? p.1 = some p.2 ∧ H p.1 = none ∧ p.1 ≠ X.env.locals ∧ p.1 ∉ X.fs ∧ ∀ v, p.2.data ≠ .cell v) : Inv X pins' σ H s :=
  ⟨I.ok, I.os, I.bare, I.base, I.loc, I.cell, I.free, I.freeC, fun p hp => (List.mem_append.mp hp).elim (fun z => I.pin p (List.mem_append_left _ z)) (h p), I.hok, I.len⟩
theorem nodup_ix {N : List Str} (hN : N.Nodup) {i j : Nat} {x : Str} (a : N[i]? = some x) (b : N[j]? = some x) : i = j := by
  obtain ⟨h1, e1⟩ := List.getElem?_eq_some_iff.mp a
  obtain ⟨h2, e2⟩ := List.getElem?_eq_some_iff.mp b
  exact (List.getElem_inj hN).mp (e1.trans e2.symm)
/-- a name is stored; what changed -/
theorem store_ok2 {M : Model} {A : Around} {E : Value → Shared → Prop} {i : Nat} {x : Str} {v : V} {u : Value} {Q : Unit → Shared → Prop} (I : Inv X pins σ H s) (hN : X.N.Nodup) (hi : X.N[i]? = some x) (hx : Loc X.env.scope x) (r : RelV v u)
    (h : ∀ s', Inv X pins (σ.set i (some v)) H s' → (∃ a, Heap.SameBut a s.heap s'.heap ∧ (a = X.env.locals ∨ X.env.cells.lookup x = some a)) → Q () s') (hf : X.fn x = true ∨ X.env.scope.names.lookup x = some .local := by first | exact .inl rfl | exact .inr rfl | assumption) : wpAny M A (storeName X.env x u) Q E s := by
  obtain ⟨m, hn, hl⟩ := id I.loc
  have hcls : (X.env.scope.kind == .class || (X.env.scope.kind == .module && X.env.locals != X.env.globals)) = false := by rw [I.ok.kind]; rfl
  have hiσ : i < σ.length := by rw [I.len]; exact (List.getElem?_eq_some_iff.mp hi).1
  have cne := I.cne
  have tracked : ∀ {a : Addr} {h' : Heap}, (∃ o, s.heap.get? a = some o ∧ H a = none) → Heap.SameBut a s.heap h' → HOk X.prog X.w H h' := fun {a h'} ha hs b ob e => by
    obtain ⟨_, _, hfree⟩ := ha
    refine (I.hok b ob e).stay (fun c w' hc q => (hs.2 c ?_).trans q) (fun _ q => q) fun _ _ q => q
    rintro rfl
    rcases hc with rfl | hc
    · rw [hfree] at e; cases e
    · rw [hfree] at hc; cases hc
  rcases hx with hk | hk
  · refine wpAny_storeName_local hk hn (fun h' hn' hs => ?_) hcls
    obtain ⟨oL, _, _, hoL, _⟩ := id hn
    refine h _ ⟨I.ok, I.os, I.bare, ⟨fun b o e n hb hx => ?_, fun b o e n hb hx => ?_, I.base.free, fun b o e hx => ?_, I.base.tups, I.base.frzs, I.base.tbls⟩, ⟨_, hn', fun j y v' e1 e2 e3 => ?_⟩, fun y c e => ?_, I.free, I.freeC, fun p hp => ?_, tracked ⟨oL, hoL, I.free⟩ hs, by simpa using I.len⟩ ⟨_, hs, .inl rfl⟩
    · exact (hs.2 b (Nat.ne_of_lt (Nat.lt_of_lt_of_le (Heap.lt_size e) I.ok.above))).trans (I.base.keep b o e n hb hx)
    · obtain ⟨sl, e1⟩ := I.base.slot b o e n hb hx
      exact ⟨sl, (hs.2 b (Nat.ne_of_lt (Nat.lt_of_lt_of_le (Heap.lt_size e) I.ok.above))).trans e1⟩
    · obtain ⟨o', e1⟩ := I.base.there b o e hx
      exact ⟨o', (hs.2 b (Nat.ne_of_lt (Nat.lt_of_lt_of_le (Heap.lt_size e) I.ok.above))).trans e1⟩
    · by_cases hj : j = i
      · subst hj
        rw [hi] at e1; cases e1
        rw [List.getElem?_set_self hiσ] at e2
        cases e2
        exact ⟨u, r, .inl ⟨hk, by simp⟩⟩
      · rw [List.getElem?_set_ne (Ne.symm hj)] at e2
        obtain ⟨u', r', q⟩ := hl j y v' e1 e2 e3
        refine ⟨u', r', ?_⟩
        rcases q with ⟨k, e⟩ | ⟨k, c, e, z⟩
        · refine .inl ⟨k, ?_⟩
          have : y ≠ x := fun e => hj (nodup_ix hN e1 (e ▸ hi))
          simp [this, e]
        · exact .inr ⟨k, c, e, z.sameBut hs (cne y c e)⟩
    · obtain ⟨w', z⟩ := I.cell y c e
      exact ⟨w', z.sameBut hs (cne y c e)⟩
    · obtain ⟨e, n, ne, nf, d⟩ := I.pin p hp
      exact ⟨(hs.2 p.1 ne).trans e, n, ne, nf, d⟩
  · have hfn : X.fn x = true := by
      rcases hf with z | z
      · exact z
      · rw [z] at hk; cases hk
    obtain ⟨c, hc⟩ := I.ok.has x (.inl hk)
    obtain ⟨w', z⟩ := I.cell x c hc
    refine wpAny_storeName_cell I.ok.kind hk hc z (fun h' hc' hs => ?_)
    obtain ⟨oc, hoc, hocd⟩ := id z
    refine h { s with heap := h' } ⟨I.ok, I.os, I.bare, ⟨fun b o e n hb hx => ?_, fun b o e n hb hx => ?_, I.base.free, fun b o e hx => ?_, I.base.tups, I.base.frzs, I.base.tbls⟩, ⟨m, hn.sameBut hs (Ne.symm (cne x c hc)), fun j y v' e1 e2 e3 => ?_⟩, fun y c' e => ?_, I.free, I.freeC, fun p hp => ?_, tracked ⟨oc, hoc, I.freeC x c hc⟩ hs, by simpa using I.len⟩ ⟨c, hs, .inr hc⟩
    · exact (hs.2 b (Nat.ne_of_lt (Nat.lt_of_lt_of_le (Heap.lt_size e) (I.ok.cab x c hfn hc)))).trans (I.base.keep b o e n hb hx)
    · obtain ⟨sl, e1⟩ := I.base.slot b o e n hb hx
      exact ⟨sl, (hs.2 b (Nat.ne_of_lt (Nat.lt_of_lt_of_le (Heap.lt_size e) (I.ok.cab x c hfn hc)))).trans e1⟩
    · obtain ⟨o', e1⟩ := I.base.there b o e hx
      exact ⟨o', (hs.2 b (Nat.ne_of_lt (Nat.lt_of_lt_of_le (Heap.lt_size e) (I.ok.cab x c hfn hc)))).trans e1⟩
    · by_cases hj : j = i
      · subst hj
        rw [hi] at e1; cases e1
        rw [List.getElem?_set_self hiσ] at e2
        cases e2
        exact ⟨u, r, .inr ⟨.inl hk, c, hc, hc'⟩⟩
      · rw [List.getElem?_set_ne (Ne.symm hj)] at e2
        obtain ⟨u', r', q⟩ := hl j y v' e1 e2 e3
        refine ⟨u', r', ?_⟩
        rcases q with q | ⟨k, c', e, z'⟩
        · exact .inl q
        · refine .inr ⟨k, c', e, z'.sameBut hs ?_⟩
          rintro rfl
          exact hj (nodup_ix hN e1 (I.ok.inj _ _ _ e hc ▸ hi))
    · by_cases hcc : c' = c
      · subst hcc; exact ⟨_, hc'⟩
      · obtain ⟨w2, z2⟩ := I.cell y c' e
        exact ⟨w2, z2.sameBut hs hcc⟩
    · obtain ⟨e, n, ne, nf, d⟩ := I.pin p hp
      refine ⟨(hs.2 p.1 ?_).trans e, n, ne, nf, d⟩
      intro q
      rw [q, hoc] at e
      have q' : oc = p.2 := Option.some.inj e
      exact d w' (by rw [← q']; exact hocd)
theorem store_ok {M : Model} {A : Around} {E : Value → Shared → Prop} {i : Nat} {x : Str} {v : V} {u : Value} {Q : Unit → Shared → Prop} (I : Inv X pins σ H s) (hN : X.N.Nodup) (hi : X.N[i]? = some x) (hx : Loc X.env.scope x) (r : RelV v u)
    (h : ∀ s', Inv X pins (σ.set i (some v)) H s' → Q () s') (hf : X.fn x = true ∨ X.env.scope.names.lookup x = some .local := by first | exact .inl rfl | exact .inr rfl | assumption) : wpAny M A (storeName X.env x u) Q E s :=
  store_ok2 I hN hi hx r (fun s' I' _ => h s' I') hf
/-- behind a call or a block, the state as it is -/
theorem Inv.call' {s' : Shared} {ch : List Addr} (I : Inv X pins σ H s) (ho : s'.os = s.os) (u : Un (frs X.stack) ch H H' s.heap s'.heap) (hok : HOk X.prog X.w H' s'.heap) (hg : AllBare s'.gens)
    (hch : ∀ b ∈ ch, (b ∈ X.ex ∨ X.s₀.heap.objs.size ≤ b) ∧ b ≠ X.env.locals ∧ (∀ x c, X.env.cells.lookup x = some c → c ≠ b) ∧ ∀ p ∈ X.pn ++ pins, p.1 ≠ b) : Inv X pins σ H' s' := by
  obtain ⟨h', g', d', t', o'⟩ := s'
  have e : o' = s.os := ho
  subst e
  exact I.call (g' := g') (t' := t') (d' := d') u hok hg hch
end
/-- an exception: its class, its own dict's address (where it has one), the abstract heap behind it -/
noncomputable abbrev XK := Value → Option Addr → Hp → Prop
noncomputable abbrev St := List (Option V)
noncomputable abbrev VK := V → Hp → Prop
/-- an expression's reading; a test's; an argument list's -/
noncomputable abbrev TE := St → Hp → VK → Prop
noncomputable abbrev TT := St → Hp → (Bool → Hp → Prop) → Prop
noncomputable abbrev TA := St → Hp → (List V → Hp → Prop) → Prop
/-- what is wanted behind a statement -/
structure Ends where
  nx : St → Hp → Prop
  rt : VK
  bk : St → Hp → Prop := fun _ _ => False
  ct : St → Hp → Prop := fun _ _ => False
noncomputable abbrev TS := Ends → St → Hp → Prop
noncomputable def EP (X : Cx) (pins : List (Addr × Obj)) (σ : St) (Q : VK) (u : Value) (s' : Shared) : Prop := ∃ v H', Inv X pins σ H' s' ∧ RelV v u ∧ Q v H'
noncomputable def TP (X : Cx) (pins : List (Addr × Obj)) (σ : St) (Q : Bool → Hp → Prop) (b : Bool) (s' : Shared) : Prop := ∃ H', Inv X pins σ H' s' ∧ Q b H'
noncomputable def AP (X : Cx) (pins : List (Addr × Obj)) (σ : St) (Q : List V → Hp → Prop) (us : List Value) (s' : Shared) : Prop := ∃ vs H', Inv X pins σ H' s' ∧ Vals vs us ∧ Q vs H'
noncomputable def SP (X : Cx) (pins : List (Addr × Obj)) (D : Ends) (f : Flow) (s' : Shared) : Prop :=
  match f with
  | .next => ∃ σ' H', Inv X pins σ' H' s' ∧ D.nx σ' H'
  | .brk => ∃ σ' H', Inv X pins σ' H' s' ∧ D.bk σ' H'
  | .cont => ∃ σ' H', Inv X pins σ' H' s' ∧ D.ct σ' H'
  | .ret u => ∃ v σ' H', Inv X pins σ' H' s' ∧ RelV v u ∧ D.rt v H'
noncomputable def PE (X : Cx) (e : Expr) (t : TE) : Prop :=
  ∀ (pins : List (Addr × Obj)) (s : Shared) (σ : St) (H : Hp) (Q : VK), Inv X pins σ H s → t σ H Q → wpAny (model X.prog X.w) X.A (eval e X.env) (EP X pins σ Q) X.xe s
noncomputable def PT (X : Cx) (e : Expr) (t : TT) : Prop :=
  ∀ (pins : List (Addr × Obj)) (s : Shared) (σ : St) (H : Hp) (Q : Bool → Hp → Prop), Inv X pins σ H s → t σ H Q → wpAny (model X.prog X.w) X.A (isTrue e X.env (eval e X.env)) (TP X pins σ Q) X.xe s
/-- a test whatever its 'whole' is (and, or) -/
noncomputable def PW (X : Cx) (e : Expr) (t : TT) : Prop :=
  ∀ (whole : Sem Value) (pins : List (Addr × Obj)) (s : Shared) (σ : St) (H : Hp) (Q : Bool → Hp → Prop), Inv X pins σ H s → t σ H Q → wpAny (model X.prog X.w) X.A (isTrue e X.env whole) (TP X pins σ Q) X.xe s
theorem PW.pt {X : Cx} {e : Expr} {t : TT} (h : PW X e t) : PT X e t := h _
/-- an argument list (no star), from the left -/
noncomputable def PA (X : Cx) (es : List Expr) (t : TA) : Prop :=
  ∀ (pos : Pos) (pins : List (Addr × Obj)) (s : Shared) (σ : St) (H : Hp) (Q : List V → Hp → Prop), Inv X pins σ H s → t σ H Q → wpAny (model X.prog X.w) X.A (spliced (backTo pos (starEach es X.env))) (AP X pins σ Q) X.xe s
noncomputable def PS (X : Cx) (st : Stmt) (t : TS) : Prop :=
  ∀ (pins : List (Addr × Obj)) (s : Shared) (σ : St) (H : Hp) (D : Ends), Inv X pins σ H s → t D σ H → wpAny (model X.prog X.w) X.A (exec st X.env) (SP X pins D) X.xe s
noncomputable def PSs (X : Cx) (st : List Stmt) (t : TS) : Prop :=
  ∀ (pins : List (Addr × Obj)) (s : Shared) (σ : St) (H : Hp) (D : Ends), Inv X pins σ H s → t D σ H → wpAny (model X.prog X.w) X.A (execs st X.env) (SP X pins D) X.xe s
/-- weaken the end -/
theorem thn {α : Type} {t : Sem α} {Q Q' : α → Shared → Prop} {M : Model} {A : Around} {E : Value → Shared → Prop} {s : Shared} (h : wpAny M A t Q E s) (hQ : ∀ a s, Q a s → Q' a s) : wpAny M A t Q' E s := wpAny_mono h hQ fun _ _ x => x
end L2
namespace L2
open PySem PySem.Spec PyProof.Rows
section
variable {X : Cx}
/-- two expressions in a row -/
theorem bin {a b : Expr} {ta tb : TE} (ha : PE X a ta) (hb : PE X b tb) {pins : List (Addr × Obj)} {s : Shared} {σ : St} {H : Hp} {R : V → V → Hp → Prop} (I : Inv X pins σ H s) (h : ta σ H fun x H1 => tb σ H1 fun y H2 => R x y H2)
    {α : Type} {Q : α → Shared → Prop} {f : Value → Value → Sem α}
    (hf : ∀ v u s2 x y H2, Inv X pins σ H2 s2 → RelV x v → RelV y u → R x y H2 → wpAny (model X.prog X.w) X.A (f v u) Q X.xe s2) :
    wpAny (model X.prog X.w) X.A (eval a X.env) (fun v s₁ => wpAny (model X.prog X.w) X.A (eval b X.env) (fun u s₂ => wpAny (model X.prog X.w) X.A (f v u) Q X.xe s₂) X.xe s₁) X.xe s := by
  refine thn (ha pins s σ H _ I h) fun v s1 zz => ?_
  obtain ⟨x, H1, I1, r1, q1⟩ := zz
  refine thn (hb pins s1 σ H1 _ I1 q1) fun u s2 zz => ?_
  obtain ⟨y, H2, I2, r2, q2⟩ := zz
  exact hf v u s2 x y H2 I2 r1 r2 q2
noncomputable def tVar (i : Nat) : TE := fun σ H Q => ∃ v, σ[i]? = some (some v) ∧ Q v H
noncomputable def tC (v : V) : TE := fun _ H Q => Q v H
theorem pe_var {i : Nat} {x : Str} {pos : Pos} (hN : X.N[i]? = some x) (hv : Vis X.env.scope x) (hd : (x == ("__debug__" : Str)) = false := by decide) (hcd : (x == ("__classdict__" : Str)) = false := by decide) : PE X (.Name x pos) (tVar i) := by
  intro pins s σ H Q I h
  obtain ⟨v, e, h⟩ := h
  obtain ⟨m, hn, hl⟩ := I.loc
  obtain ⟨u, r, l⟩ := hl i x v hN e hv
  have fin : EP X pins σ Q u s := ⟨v, H, I, r, h⟩
  rcases l with ⟨hk, hm⟩ | ⟨hk, c, hc, hcell⟩
  · exact wpAny_Name (wpAny_loadName_local I.ok.kind hk hn hm fin) hd
  · rcases hk with hk | hk
    · exact wpAny_Name (wpAny_loadName_cell I.ok.kind hk hc hcell fin) hd
    · exact wpAny_Name (wpAny_loadName_free I.ok.kind hk hc hcell fin hcd) hd
theorem pe_int {i j pos} : PE X (.Constant (.int i) j pos) (tC (.int i)) := fun _ _ _ H _ I h => wpAny_Constant_int ⟨.int i, H, I.tok _, ⟨_, rfl⟩, h⟩
theorem pe_bl {b j pos} : PE X (.Constant (.bool b) j pos) (tC (.bl b)) := fun _ _ _ H _ I h => Constant_bool ⟨.bl b, H, I, rfl, h⟩
theorem pe_non {j pos} : PE X (.Constant .none j pos) (tC .non) := fun _ _ _ H _ I h => Constant_none ⟨.non, H, I, rfl, h⟩
theorem pe_str {x j pos} : PE X (.Constant (.str x) j pos) (tC (.str x)) := fun _ _ _ H _ I h => Calls.Constant_str ⟨.str x, H, I.tok _, ⟨_, rfl⟩, h⟩
/-- a global name of the def -/
noncomputable def Gl (X : Cx) (x : Str) : Prop := X.env.kindOf x = some .globalImplicit
theorem ld_glob {E : Value → Shared → Prop} {pins : List (Addr × Obj)} {s : Shared} {σ : St} {H : Hp} {x : Str} {u : Value} {pos : Pos} {Q : Value → Shared → Prop} (I : Inv X pins σ H s) (hg : Gl X x) (hm : X.mg x = some u) (h : Q u s)
    (hd : (x == ("__debug__" : Str)) = false := by decide) : wpAny (model X.prog X.w) X.A (eval (.Name x pos) X.env) Q E s :=
  Calls.Name_function_global I.ok.kind hg (Calls.loadGlobal_global (by rw [I.ok.glob]; exact I.mod.glob.keeps I.bk) hm h) hd
theorem ld_blt {E : Value → Shared → Prop} {pins : List (Addr × Obj)} {s : Shared} {σ : St} {H : Hp} {x : Str} {u : Value} {pos : Pos} {Q : Value → Shared → Prop} (I : Inv X pins σ H s) (hg : Gl X x) (hm : X.mg x = none) (hv : bootBuiltins x = some u) (h : Q u s)
    (hn : x ≠ "__name__" := by decide) (hd : (x == ("__debug__" : Str)) = false := by decide) : wpAny (model X.prog X.w) X.A (eval (.Name x pos) X.env) Q E s := by
  obtain ⟨mb, h1, h2⟩ := I.mod.blt
  exact Calls.Name_function_global I.ok.kind hg (Calls.loadGlobal_builtin (by rw [I.ok.glob]; exact I.mod.glob.keeps I.bk) hm (by rw [I.ok.blt]; exact h1.keeps I.bk) ((h2 x hn).trans hv) h) hd
/-- a module's constant, a class, a function, as a value -/
theorem pe_glob {x : Str} {v : V} {u : Value} {pos : Pos} (hg : Gl X x) (hm : X.mg x = some u) (r : RelV v u) (hd : (x == ("__debug__" : Str)) = false := by decide) : PE X (.Name x pos) (tC v) :=
  fun _ _ _ H _ I h => ld_glob I hg hm ⟨v, H, I, r, h⟩ hd
theorem pe_bltn {x : Str} {v : V} {u : Value} {pos : Pos} (hg : Gl X x) (hm : X.mg x = none) (hv : bootBuiltins x = some u) (r : RelV v u) (hn : x ≠ "__name__" := by decide) (hd : (x == ("__debug__" : Str)) = false := by decide) : PE X (.Name x pos) (tC v) :=
  fun _ _ _ H _ I h => ld_blt I hg hm hv ⟨v, H, I, r, h⟩ hn hd
variable {a b : Expr} {ta tb : TE} {pos : Pos}
noncomputable def PC (X : Cx) (op : CmpOp) (a b : Expr) (t : TE) : Prop :=
  ∀ (pins : List (Addr × Obj)) (s : Shared) (σ : St) (H : Hp) (Q : VK), Inv X pins σ H s → t σ H Q →
    wpAny (model X.prog X.w) X.A (eval a X.env) (fun v s₁ => wpAny (model X.prog X.w) X.A (eval b X.env) (fun u s₂ => wpAny (model X.prog X.w) X.A (compareOp op v u) (EP X pins σ Q) X.xe s₂) X.xe s₁) X.xe s
theorem nobehind (b : Expr) {op : CmpOp} (h : op ≠ .In) (h2 : op ≠ .NotIn) : behindInMarks op b = false := by
  have e1 : (op == CmpOp.In) = false := by cases op <;> first | rfl | exact absurd rfl h
  have e2 : (op == CmpOp.NotIn) = false := by cases op <;> first | rfl | exact absurd rfl h2
  cases b <;> simp [behindInMarks, e1, e2]
/-- is None -/
noncomputable def tIsN (ta : TE) : TE := fun σ H Q => ta σ H fun x H1 => Q (.bl (decide (x = .non))) H1
noncomputable def tNotN (ta : TE) : TE := fun σ H Q => ta σ H fun x H1 => Q (.bl (!decide (x = .non))) H1
theorem RelV.none_iff {x : V} {v : Value} (r : RelV x v) : (v == Value.none) = decide (x = .non) := by
  cases x with
  | non => cases r; rfl
  | bl _ => cases r; rfl
  | int _ => obtain ⟨t, rfl⟩ := r; rfl
  | str _ => obtain ⟨t, rfl⟩ := r; rfl
  | byt _ => obtain ⟨t, rfl⟩ := r; rfl
  | flt _ => obtain ⟨t, rfl⟩ := r; rfl
  | ref _ => cases r; rfl
  | ty _ => cases r; rfl
theorem pc_isN {j pos'} (ha : PE X a ta) : PC X .Is a (.Constant .none j pos') (tIsN ta) := by
  intro pins s σ H Q I h
  refine thn (ha pins s σ H _ I h) fun v s1 zz => ?_
  obtain ⟨x, H1, I1, r1, q1⟩ := zz
  exact Constant_none (is_none_gen ⟨.bl _, H1, I1, by rw [r1.none_iff]; rfl, q1⟩)
theorem pc_notN {j pos'} (ha : PE X a ta) : PC X .IsNot a (.Constant .none j pos') (tNotN ta) := by
  intro pins s σ H Q I h
  refine thn (ha pins s σ H _ I h) fun v s1 zz => ?_
  obtain ⟨x, H1, I1, r1, q1⟩ := zz
  exact Constant_none (isnot_none_gen ⟨.bl _, H1, I1, by rw [r1.none_iff]; rfl, q1⟩)
/-- a comparison as a value, as a test -/
noncomputable def tB (t : TE) : TT := fun σ H Q => t σ H fun x H1 => ∃ c, x = .bl c ∧ Q c H1
theorem pe_cmp {op : CmpOp} {t : TE} (h : PC X op a b t) (h1 : behindInMarks op b = false := by first | exact nobehind _ (by decide) (by decide) | rfl) : PE X (.Compare a [op] [b] pos) t := fun pins s σ H Q I hw => wpAny_Compare1 (h pins s σ H Q I hw) h1
theorem pt_cmp {op : CmpOp} {t : TE} (h : PC X op a b t) (h1 : behindInMarks op b = false := by first | exact nobehind _ (by decide) (by decide) | rfl) : PT X (.Compare a [op] [b] pos) (tB t) := by
  intro pins s σ H Q I hw
  refine wpAny_isTrue_Compare1 (thn (h pins s σ H _ I hw) fun v s1 h1 => thn h1 fun u s2 h2 => thn h2 fun c s3 ⟨x, H1, I1, r1, q1⟩ => ?_) h1
  obtain ⟨d, rfl, q⟩ := q1
  cases r1
  exact wpAny_truthy_bool ⟨H1, I1, q⟩
variable {tA tB' : TT} {rest : List Expr}
noncomputable def tAnd (t u : TT) : TT := fun σ H Q => t σ H fun c H1 => if c = true then u σ H1 Q else Q false H1
noncomputable def tOr (t u : TT) : TT := fun σ H Q => t σ H fun c H1 => if c = true then Q true H1 else u σ H1 Q
noncomputable def tNot (t : TT) : TT := fun σ H Q => t σ H fun c H1 => Q (!c) H1
theorem pw_and1 (ha : PT X a tA) : PW X (.BoolOp .And [a] pos) tA := by
  intro wh pins s σ H Q I h
  refine isTrue_and (thn (ha pins s σ H Q I h) fun c s1 e => ?_)
  cases c with
  | true => exact isTrue_and_nil e
  | false => exact e
theorem pw_or1 (ha : PT X a tA) : PW X (.BoolOp .Or [a] pos) tA := by
  intro wh pins s σ H Q I h
  refine isTrue_or (thn (ha pins s σ H Q I h) fun c s1 e => ?_)
  cases c with
  | false => exact isTrue_or_nil e
  | true => exact e
theorem pw_and (ha : PT X a tA) (hb : PW X (.BoolOp .And (b :: rest) pos) tB') : PW X (.BoolOp .And (a :: b :: rest) pos) (tAnd tA tB') := by
  intro wh pins s σ H Q I h
  refine isTrue_and (thn (ha pins s σ H _ I h) fun c s1 zz => ?_)
  obtain ⟨H1, I1, q1⟩ := zz
  cases c with
  | true => exact hb wh pins s1 σ H1 Q I1 q1
  | false => exact ⟨H1, I1, q1⟩
theorem pw_or (ha : PT X a tA) (hb : PW X (.BoolOp .Or (b :: rest) pos) tB') : PW X (.BoolOp .Or (a :: b :: rest) pos) (tOr tA tB') := by
  intro wh pins s σ H Q I h
  refine isTrue_or (thn (ha pins s σ H _ I h) fun c s1 zz => ?_)
  obtain ⟨H1, I1, q1⟩ := zz
  cases c with
  | true => exact ⟨H1, I1, q1⟩
  | false => exact hb wh pins s1 σ H1 Q I1 q1
theorem pt_not (ha : PT X a tA) : PT X (.UnaryOp .Not a pos) (tNot tA) := by
  intro pins s σ H Q I h
  exact isTrue_not (ha pins s σ H (fun c H1 => Q (!c) H1) I h)
noncomputable def tOrV (ta tb : TE) : TE := fun σ H Q => ta σ H fun x H1 => ∃ c, x = .bl c ∧ if c = true then Q (.bl true) H1 else tb σ H1 Q
theorem pe_one {op} {t : TE} (h : PE X a t) : PE X (.BoolOp op [a] pos) t := fun pins s σ H Q I hw => BoolOp_one (h pins s σ H Q I hw)
theorem pe_or (ha : PE X a ta) (hb : PE X (.BoolOp .Or (b :: rest) pos) tb) : PE X (.BoolOp .Or (a :: b :: rest) pos) (tOrV ta tb) := by
  intro pins s σ H Q I h
  refine BoolOp_or (thn (ha pins s σ H _ I h) fun v s1 zz => ?_)
  obtain ⟨x, H1, I1, r1, q1⟩ := zz
  obtain ⟨c, rfl, q1⟩ := q1
  cases r1
  refine wpAny_truthy_bool ?_
  cases c with
  | false => exact hb pins s1 σ H1 Q I1 q1
  | true => exact ⟨.bl true, H1, I1, rfl, q1⟩
end
end L2
namespace L2
open PySem PySem.Spec PyProof.Rows
noncomputable def SqL (K : PySem.W.Frag) (H : Hp) (a : Addr) (xs : List V) : Prop :=
  Rd H a (.lst xs) ∨
    ∃ (o : Obj) (its : Array Value) (n : Nat), K.lookup a = some o ∧ o.cls = .type "list" ∧ o.dict = none ∧ o.data = .seq its n ∧ its.size ≤ sizeLine ∧ Vals xs its.toList
noncomputable def SqT (K : PySem.W.Frag) (H : Hp) (a : Addr) (xs : List V) : Prop :=
  Rd H a (.tup xs) ∨
    ∃ (o : Obj) (its : Array Value) (n : Nat), K.lookup a = some o ∧ o.cls = .type "tuple" ∧ o.data = .seq its n ∧ its.size ≤ sizeLine ∧ Vals xs its.toList
noncomputable def absV : Value → Option V
  | .none => some .non
  | .bool b => some (.bl b)
  | .int i _ => some (.int i)
  | .str x _ => some (.str x)
  | .bytes b _ => some (.byt b)
  | .float b _ => some (.flt b)
  | .ref a => some (.ref a)
  | .type n => some (.ty n)
  | _ => none
theorem RelV.abs {x : V} {u : Value} (r : RelV x u) : absV u = some x := by
  cases x with
  | non => cases r; rfl
  | bl _ => cases r; rfl
  | int _ => obtain ⟨t, rfl⟩ := r; rfl
  | str _ => obtain ⟨t, rfl⟩ := r; rfl
  | byt _ => obtain ⟨t, rfl⟩ := r; rfl
  | flt _ => obtain ⟨t, rfl⟩ := r; rfl
  | ref _ => cases r; rfl
  | ty _ => cases r; rfl
theorem RelV.inj {x y : V} {u : Value} (r : RelV x u) (q : RelV y u) : x = y := Option.some.inj (r.abs.symm.trans q.abs)
theorem Vals.inj : ∀ {xs ys : List V} {us : List Value}, Vals xs us → Vals ys us → xs = ys
  | _, _, _, .nil, .nil => rfl
  | _, _, _, .cons r t, .cons r' t' => by rw [r.inj r', Vals.inj t t']
section
variable {X : Cx} {pins : List (Addr × Obj)} {σ : St} {H : Hp} {s : Shared} {a : Addr} {xs ys : List V}
theorem SqL.of {K : PySem.W.Frag} (h : H a = some (.lst xs)) : SqL K H a xs := .inl (.inl h)
theorem SqT.of {K : PySem.W.Frag} (h : H a = some (.tup xs)) : SqT K H a xs := .inl (.inl h)
theorem Inv.list (I : Inv X pins σ H s) (h : SqL X.K H a xs) : ∃ its : List Value, Vals xs its ∧ PlainL s.heap a its.toArray ∧ xs.length ≤ sizeLine := by
  rcases h with h | ⟨o, its, n, hk, hc, hd, hs, hz, r⟩
  · obtain ⟨z, its, n, r, e⟩ := h.ok I.hok
    exact ⟨its, r, ⟨_, n, e, rfl, rfl, rfl⟩, z⟩
  · refine ⟨its.toList, r, ⟨o, n, I.kIn a o hk, hc, hd, by simpa using hs⟩, ?_⟩
    have e := r.length
    simp only [Array.length_toList] at e
    lia
theorem Inv.tuple (I : Inv X pins σ H s) (h : SqT X.K H a xs) : ∃ its : List Value, Vals xs its ∧ IsTup s.heap a its.toArray ∧ xs.length ≤ sizeLine := by
  rcases h with h | ⟨o, its, n, hk, hc, hs, hz, r⟩
  · obtain ⟨z, its, r, p⟩ := h.ok I.hok
    exact ⟨its, r, p.tup, z⟩
  · refine ⟨its.toList, r, ⟨o, I.kIn a o hk, hc, n, by simpa using hs⟩, ?_⟩
    have e := r.length
    simp only [Array.length_toList] at e
    lia
theorem Inv.list_inj (I : Inv X pins σ H s) (h : SqL X.K H a xs) (h' : SqL X.K H a ys) : xs = ys := by
  obtain ⟨its, r, ⟨o, n, e, _, _, d⟩, _⟩ := I.list h
  obtain ⟨its', r', ⟨o', n', e', _, _, d'⟩, _⟩ := I.list h'
  rw [e] at e'; cases e'
  rw [d] at d'
  injection d' with d1 _
  have : its = its' := by simpa using congrArg Array.toList d1
  subst this
  exact r.inj r'
theorem Inv.tuple_inj (I : Inv X pins σ H s) (h : SqT X.K H a xs) (h' : SqT X.K H a ys) : xs = ys := by
  obtain ⟨its, r, ⟨o, e, _, n, d⟩, _⟩ := I.tuple h
  obtain ⟨its', r', ⟨o', e', _, n', d'⟩, _⟩ := I.tuple h'
  rw [e] at e'; cases e'
  rw [d] at d'
  injection d' with d1 _
  have : its = its' := by simpa using congrArg Array.toList d1
  subst this
  exact r.inj r'
end
noncomputable abbrev Cx.wish (X : Cx) (E : Value → Shared → Prop) : Cx := { X with xe := E }
/-- no exception leaves -/
noncomputable abbrev Cx.nox (X : Cx) : Cx := X.wish fun _ _ => False
theorem Cx.Ok.wish {X : Cx} (ok : X.Ok) (E : Value → Shared → Prop) : (X.wish E).Ok :=
  ⟨ok.mod, ok.kind, ok.glob, ok.blt, ok.above, ok.inj, ok.has, ok.cab, ok.hd, ok.frames, ok.stk, ok.exf, ok.bs, ok.bsz, ok.noex, ok.exfs, ok.funs, ok.frf⟩
theorem Cx.Ok.unwish {X : Cx} {E : Value → Shared → Prop} (ok : (X.wish E).Ok) : X.Ok :=
  ⟨ok.mod, ok.kind, ok.glob, ok.blt, ok.above, ok.inj, ok.has, ok.cab, ok.hd, ok.frames, ok.stk, ok.exf, ok.bs, ok.bsz, ok.noex, ok.exfs, ok.funs, ok.frf⟩
section
variable {X : Cx} {pins : List (Addr × Obj)} {σ : St} {H : Hp} {s : Shared} {E : Value → Shared → Prop}
theorem Inv.wish (I : Inv X pins σ H s) (E : Value → Shared → Prop) : Inv (X.wish E) pins σ H s := ⟨I.ok.wish E, I.os, I.bare, I.base, I.loc, I.cell, I.free, I.freeC, I.pin, I.hok, I.len⟩
theorem Inv.unwish (I : Inv (X.wish E) pins σ H s) : Inv X pins σ H s := ⟨I.ok.unwish, I.os, I.bare, I.base, I.loc, I.cell, I.free, I.freeC, I.pin, I.hok, I.len⟩
theorem SP.unwish {D : Ends} {f : Flow} {s' : Shared} (h : SP (X.wish E) pins D f s') : SP X pins D f s' := by
  cases f with
  | next => obtain ⟨σ', H', I, q⟩ := h; exact ⟨σ', H', I.unwish, q⟩
  | brk => obtain ⟨σ', H', I, q⟩ := h; exact ⟨σ', H', I.unwish, q⟩
  | cont => obtain ⟨σ', H', I, q⟩ := h; exact ⟨σ', H', I.unwish, q⟩
  | ret u => obtain ⟨v, σ', H', I, r, q⟩ := h; exact ⟨v, σ', H', I.unwish, r, q⟩
theorem PSs.nox {st : List Stmt} {t : TS} (h : PSs X.nox st t) : PSs X st t := fun pins s σ H D I hw =>
  wpAny_mono (h pins s σ H D (I.wish _) hw) (fun _ _ q => q.unwish) fun _ _ z => False.elim z
end
section
variable {X : Cx} {st : Stmt} {rest : List Stmt} {t u : TS} {e : Expr} {te : TE} {pos : Pos}
noncomputable def tNext : TS := fun D σ H => D.nx σ H
noncomputable def tSeq (t u : TS) : TS := fun D σ H => t { D with nx := u D } σ H
theorem pss_nil : PSs X [] tNext := fun _ _ σ H _ I h => wpAny_execs_nil ⟨σ, H, I, h⟩
theorem pss_cons (h1 : PS X st t) (h2 : PSs X rest u) : PSs X (st :: rest) (tSeq t u) := by
  intro pins s σ H D I h
  refine wpAny_execs_cons (thn (h1 pins s σ H { D with nx := u D } I h) fun f s1 q => ?_)
  cases f with
  | next =>
    obtain ⟨σ', H', I', q⟩ := q
    exact h2 pins s1 σ' H' D I' q
  | ret v => exact q
  | brk => exact q
  | cont => exact q
theorem pss_one (h1 : PS X st t) : PSs X [st] t := by
  intro pins s σ H D I h
  refine wpAny_execs_cons (thn (h1 pins s σ H D I h) fun f s1 q => ?_)
  cases f with
  | next => exact wpAny_execs_nil q
  | ret v => exact q
  | brk => exact q
  | cont => exact q
/-- in a def's body nothing is shown -/
theorem Inv.quiet {pins : List (Addr × Obj)} {σ : St} {H : Hp} {s : Shared} (I : Inv X pins σ H s) : interactive X.env = false := by simp [interactive, I.ok.kind]
/-- an expression whose value is dropped -/
noncomputable def tDrop (te : TE) : TS := fun D σ H => te σ H fun _ H1 => D.nx σ H1
theorem ps_expr (he : PE X e te) (hs : swapsWith e none pos.line X.env = pure false := by rfl) : PS X (.Expr e pos) (tDrop te) := by
  intro pins s σ H D I h
  exact wpAny_Expr_any (thn (he pins s σ H _ I h) fun v s1 ⟨x, H1, I1, r1, q1⟩ => ⟨σ, H1, I1, q1⟩) I.quiet hs
noncomputable def tRet (te : TE) : TS := fun D σ H => te σ H D.rt
theorem ps_ret (he : PE X e te) : PS X (.Return (some e) pos) (tRet te) := by
  intro pins s σ H D I h
  exact wpAny_Return_some (thn (he pins s σ H _ I h) fun v s1 ⟨x, H1, I1, r1, q1⟩ => ⟨x, σ, H1, I1, r1, q1⟩)
noncomputable def tIfS (c : TT) (t u : TS) : TS := fun D σ H => c σ H fun b H1 => if b = true then t D σ H1 else u D σ H1
theorem ps_if {c : Expr} {a b : List Stmt} {tc : TT} (hc : PT X c tc) (ha : PSs X a t) (hb : PSs X b u) : PS X (.If c a b pos) (tIfS tc t u) := by
  intro pins s σ H D I h
  refine wpAny_If (thn (hc pins s σ H _ I h) fun d s1 zz => ?_)
  obtain ⟨H1, I1, q1⟩ := zz
  cases d with
  | true => exact ha pins s1 σ H1 D I1 q1
  | false => exact hb pins s1 σ H1 D I1 q1
end
noncomputable abbrev TG := V → St → Hp → (St → Hp → Prop) → Prop
noncomputable abbrev TGs := List V → St → Hp → (St → Hp → Prop) → Prop
noncomputable def PG (X : Cx) (target : Expr) (t : TG) : Prop :=
  ∀ (pins : List (Addr × Obj)) (s : Shared) (σ : St) (H : Hp) (v : V) (u : Value) (Q : St → Hp → Prop), Inv X pins σ H s → RelV v u → t v σ H Q →
    wpAny (model X.prog X.w) X.A (assign target X.env u) (fun _ s' => ∃ σ' H', Inv X pins σ' H' s' ∧ Q σ' H') X.xe s
/-- several targets, one after another -/
noncomputable def PGs (X : Cx) (ts : List Expr) (t : TGs) : Prop :=
  ∀ (pins : List (Addr × Obj)) (s : Shared) (σ : St) (H : Hp) (vs : List V) (us : List Value) (Q : St → Hp → Prop), Inv X pins σ H s → Vals vs us → t vs σ H Q →
    wpAny (model X.prog X.w) X.A (assignInOrder ((assignEach ts X.env).map (·.2)) us) (fun _ s' => ∃ σ' H', Inv X pins σ' H' s' ∧ Q σ' H') X.xe s
/-- o[i] = v, by values -/
noncomputable abbrev TSet := V → V → V → Hp → (Hp → Prop) → Prop
noncomputable def PSet (X : Cx) (t : TSet) : Prop :=
  ∀ (pins : List (Addr × Obj)) (s : Shared) (σ : St) (H : Hp) (o i v : V) (ov iv u : Value) (Q : Hp → Prop), Inv X pins σ H s → RelV o ov → RelV i iv → RelV v u → t o i v H Q →
    wpAny (model X.prog X.w) X.A (setItem ov iv u) (fun _ s' => ∃ H', Inv X pins σ H' s' ∧ Q H') X.xe s
section
variable {X : Cx} {pos : Pos}
noncomputable def gName (i : Nat) : TG := fun v σ H Q => Q (σ.set i (some v)) H
theorem pg_name {i : Nat} {x : Str} (hN : X.N.Nodup) (hi : X.N[i]? = some x) (hx : Loc X.env.scope x) (hf : X.fn x = true ∨ X.env.scope.names.lookup x = some .local := by first | exact .inl rfl | exact .inr rfl | assumption) : PG X (.Name x pos) (gName i) := by
  intro pins s σ H v u Q I r h
  exact wpAny_assign_Name (store_ok I hN hi hx r (fun s' I' => ⟨_, H, I', h⟩) hf)
noncomputable def gNil : TGs := fun vs σ H Q => vs = [] ∧ Q σ H
noncomputable def gCons (t : TG) (u : TGs) : TGs := fun vs σ H Q => ∃ v r, vs = v :: r ∧ t v σ H fun σ' H' => u r σ' H' Q
theorem pgs_nil : PGs X [] gNil := by
  intro pins s σ H vs us Q I r h
  obtain ⟨e, h⟩ := h
  subst e
  cases r
  exact assignInOrder_nil ⟨σ, H, I, h⟩
theorem pgs_cons {e : Expr} {es : List Expr} {t : TG} {u : TGs} (h1 : PG X e t) (h2 : PGs X es u)
    (hs : (assignEach (e :: es) X.env).map (·.2) = assign e X.env :: (assignEach es X.env).map (·.2) := by rfl) : PGs X (e :: es) (gCons t u) := by
  intro pins s σ H vs us Q I r h
  obtain ⟨v, vr, e1, h⟩ := h
  subst e1
  cases r with
  | cons r rr =>
    rw [hs]
    refine assignInOrder_cons (thn (h1 pins s σ H _ _ _ I r h) fun _ s1 zz => ?_)
    obtain ⟨σ1, H1, I1, q1⟩ := zz
    exact h2 pins s1 σ1 H1 _ _ Q I1 rr q1
/-- (a, b, ..) = a tuple of that length -/
noncomputable def gTup (K : PySem.W.Frag) (n : Nat) (t : TGs) : TG := fun v σ H Q => ∃ a xs, v = .ref a ∧ SqT K H a xs ∧ xs.length = n ∧ t xs σ H Q
theorem pg_tup {es : List Expr} {k : Nat} {t : TGs} {n : Nat} (hc : X.calm = true) (h : PGs X es t)
    (hn : (assignEach es X.env).length = n := by rfl) (hst : (assignEach es X.env).findIdx? (·.1) = none := by rfl) : PG X (.Tuple es k pos) (gTup X.K n t) := by
  intro pins s σ H v u Q I r hw
  obtain ⟨a, xs, e1, hq, hl, hw⟩ := hw
  subst e1
  cases r
  obtain ⟨its, rv, ht, hz⟩ := I.tuple hq
  refine assign_Tuple_tuple (I.ok.hd hc) ht (by simp [hn, ← hl, rv.length]) hst fun h' hx => ?_
  have I1 : Inv X pins σ H { s with heap := h' } := I.kept (t' := s.toks) fun b o e => hx b o (Nat.ne_of_lt (Heap.lt_size e)) e
  exact h pins _ σ H xs _ Q I1 (by simpa using rv) hw
/-- o[i] = .. -/
noncomputable def gSub (to ti : TE) (t : TSet) : TG := fun v σ H Q => to σ H fun o H1 => ti σ H1 fun i H2 => t o i v H2 fun H3 => Q σ H3
theorem pg_sub {o i : Expr} {to ti : TE} {t : TSet} (ho : PE X o to) (hi : PE X i ti) (hs : PSet X t)
    (ha : ∀ v, assign (.Subscript o i pos) X.env v = (do
      let ov ← holding [v] (eval o X.env)
      let iv ← holding [v, ov] (eval i X.env)
      standAt pos
      holding [v, ov, iv] (setItem ov iv v)
      release [v, ov, iv] []) := by intro _; rfl) : PG X (.Subscript o i pos) (gSub to ti t) := by
  intro pins s σ H v u Q I r h
  rw [ha]
  refine wpAny_bind (wpAny_holding (thn (ho pins s σ H _ I h) fun ov s1 zz => ?_))
  obtain ⟨x, H1, I1, r1, q1⟩ := zz
  refine wpAny_bind (wpAny_holding (thn (hi pins s1 σ H1 _ I1 q1) fun iv s2 zz => ?_))
  obtain ⟨y, H2, I2, r2, q2⟩ := zz
  refine wpAny_bind (wpAny_standAt (wpAny_bind (wpAny_holding (thn (hs pins s2 σ H2 x y v ov iv u _ I2 r1 r2 r q2) fun _ s3 zz => ?_))))
  obtain ⟨H3, I3, q3⟩ := zz
  exact wpAny_release ⟨σ, H3, I3, q3⟩
/-- target = value -/
noncomputable def tAsg (te : TE) (g : TG) : TS := fun D σ H => te σ H fun x H1 => g x σ H1 D.nx
theorem ps_asg {tg e : Expr} {te : TE} {g : TG} (he : PE X e te) (hg : PG X tg g) (hs : swapsWithSole [tg] e pos.line X.env = pure false := by rfl) (hw : swappedStores [tg] e X.env = pure none := by rfl)
    (h1 : (assignEach [tg] X.env).map (·.2) = [assign tg X.env] := by rfl) : PS X (.Assign [tg] e pos) (tAsg te g) := by
  intro pins s σ H D I h
  refine wpAny_Assign_stores (thn (he pins s σ H _ I h) fun v s1 ⟨x, H1, I1, r1, q1⟩ => ?_) hs hw
  rw [h1]
  exact thn (hg pins s1 σ H1 x v _ I1 r1 q1) fun _ s2 q => q
/-- name = value -/
theorem ps_set {i : Nat} {x : Str} {e : Expr} {te : TE} {pos' : Pos} (hN : X.N.Nodup) (hi : X.N[i]? = some x) (hx : Loc X.env.scope x) (he : PE X e te) (hs : swapsWith e (some (.Name x pos')) pos.line X.env = pure false := by rfl) (hf : X.fn x = true ∨ X.env.scope.names.lookup x = some .local := by first | exact .inl rfl | exact .inr rfl | assumption) :
    PS X (.Assign [.Name x pos'] e pos) (tAsg te (gName i)) := by
  intro pins s σ H D I h
  refine wpAny_Assign_Name (thn (he pins s σ H _ I h) fun v s1 ⟨y, H1, I1, r1, q1⟩ => ?_) hs
  exact store_ok I1 hN hi hx r1 (fun s2 I2 => ⟨_, H1, I2, q1⟩) hf
end
section
variable {X : Cx} {pos : Pos}
/-- the invariant W with its measure -/
noncomputable def tWhile (c : TT) (tb : TS) : TS := fun D σ H => ∃ W : Nat → St → Hp → Prop, (∃ m, W m σ H) ∧ ∀ m σ H, W m σ H →
  c σ H fun b H1 => if b = true then ∃ N : St → Hp → Prop, (∀ σ' H', N σ' H' → ∃ m', m' < m ∧ W m' σ' H') ∧ tb { D with nx := N, ct := N, bk := D.nx } σ H1 else D.nx σ H1
theorem ps_while {c : Expr} {body : List Stmt} {tc : TT} {tb : TS} (hp : PassesOwn (model X.prog X.w) X.A X.env X.xe) (hc : PT X c tc) (hb : PSs X body tb) : PS X (.While c body [] pos) (tWhile tc tb) := by
  intro pins s σ H D I h
  obtain ⟨W, ⟨m0, w0⟩, turn⟩ := h
  refine wpAny_While (codeAny_whileLoop (fun n s' => ∃ σ' H', Inv X pins σ' H' s' ∧ W n σ' H') ?_ m0 ⟨σ, H, I, w0⟩)
  rintro n s1 ⟨σ1, H1, I1, w1⟩
  refine wpAny_passesOwn hp (thn (hc pins s1 σ1 H1 _ I1 (turn n σ1 H1 w1)) fun b s2 zz => ?_)
  obtain ⟨H2, I2, q2⟩ := zz
  cases b with
  | true =>
    obtain ⟨N, hN, q2⟩ := q2
    rw [if_pos rfl]
    refine wpAny_passesOwn hp (thn (hb pins s2 σ1 H2 _ I2 q2) fun f s3 q3 => ?_)
    cases f with
    | next =>
      obtain ⟨σ3, H3, I3, n3⟩ := q3
      obtain ⟨m', hm, w3⟩ := hN σ3 H3 n3
      exact ⟨m', hm, σ3, H3, I3, w3⟩
    | cont =>
      obtain ⟨σ3, H3, I3, n3⟩ := q3
      obtain ⟨m', hm, w3⟩ := hN σ3 H3 n3
      exact ⟨m', hm, σ3, H3, I3, w3⟩
    | brk => exact q3
    | ret v => exact q3
  | false =>
    rw [if_neg Bool.false_ne_true]
    exact wpAny_execs_nil ⟨σ1, H2, I2, q2⟩
end
/-- at turn i: it yields x (the heap may grow), or it stops -/
structure It where
  go : Nat → Hp → Prop
  yld : Nat → Hp → V → Hp → Prop
  stop : Nat → Hp → Prop
/-- the iterator's own objects may turn: they are not the frame's, not pinned, younger than the entry (or a comprehension's own) -/
noncomputable def FpOk (X : Cx) (pins : List (Addr × Obj)) (H : Hp) (b : Addr) : Prop :=
  H b = none ∧ b ≠ X.env.locals ∧ b ∉ X.fs ∧ (b ∈ X.ex ∨ X.s₀.heap.objs.size ≤ b) ∧ (∀ x c, X.env.cells.lookup x = some c → c ≠ b) ∧ ∀ p ∈ X.pn ++ pins, p.1 ≠ b
theorem Inv.fpOk {X : Cx} {pins : List (Addr × Obj)} {σ : St} {H H' : Hp} {s : Shared} {b : Addr} (I : Inv X pins σ H s) (hb : s.heap.objs.size ≤ b) (hn : H' b = none) : FpOk X pins H' b := by
  refine ⟨hn, Nat.ne_of_gt (Nat.lt_of_lt_of_le I.lt hb), I.nofs hb, .inr (Nat.le_trans I.sz hb), fun x c e z => ?_, fun p hp z => ?_⟩
  · obtain ⟨v, q⟩ := I.cell x c e
    exact absurd (Nat.lt_of_lt_of_le q.lt (by rw [z]; exact hb)) (Nat.lt_irrefl _)
  · exact absurd (Nat.lt_of_lt_of_le (Heap.lt_size (I.pin p hp).1) (by rw [z]; exact hb)) (Nat.lt_irrefl _)
structure Turn (P : Program) (w : World) (K : PySem.W.Frag) (tg : Expr) (J : It) (fp : List Addr) (it : Addr) (tn : Nat → Heap → Prop) : Prop where
  mem : it ∈ fp
  obj : ∀ i h, tn i h → ∀ b ∈ fp, ∃ o, h.get? b = some o ∧ ∀ v, o.data ≠ .cell v
  keep : ∀ i h h', tn i h → (∀ b ∈ fp, ∀ o, h.get? b = some o → h'.get? b = some o) → tn i h'
  item : ∀ (X : Cx), X.prog = P → X.w = w → X.K = K → X.calm = true → ∀ (i : Nat) (pins : List (Addr × Obj)) (s : Shared) (σ : St) (H : Hp) (E : Value → Shared → Prop), Inv X pins σ H s → (∀ b ∈ fp, FpOk X pins H b) → tn i s.heap → J.go i H →
    wpAny (model P w) X.A (pyNext (.ref it)) (fun r s1 => ∃ u, r = some u ∧
      wpAny (model P w) X.A (letOwnedTupleGo tg (.ref it) u) (fun _ s2 => ∃ x H', Inv X pins σ H' s2 ∧ RelV x u ∧ J.yld i H x H' ∧ tn (i + 1) s2.heap ∧ ∀ b ∈ fp, H' b = none) E s1) E s
  done : ∀ (X : Cx), X.prog = P → X.w = w → X.K = K → X.calm = true → ∀ (i : Nat) (pins : List (Addr × Obj)) (s : Shared) (σ : St) (H : Hp) (E : Value → Shared → Prop), Inv X pins σ H s → (∀ b ∈ fp, FpOk X pins H b) → tn i s.heap → J.stop i H →
    wpAny (model P w) X.A (pyNext (.ref it)) (fun r s1 => r = none ∧ Inv X pins σ H s1) E s
  self : ∀ (A : Around) (i : Nat) (s : Shared) (Q : Value → Shared → Prop) (E : Value → Shared → Prop), tn i s.heap → Q (.ref it) s → wpAny (model P w) A (pyIter (.ref it)) Q E s
noncomputable abbrev TI := St → Hp → (It → Hp → Prop) → Prop
/-- an iterator has come -/
noncomputable def PIE (X : Cx) (pins : List (Addr × Obj)) (σ : St) (tg : Expr) (R : It → Hp → Prop) (itv : Value) (s2 : Shared) : Prop :=
  ∃ (it : Addr) (fp : List Addr) (tn : Nat → Heap → Prop) (J : It) (H' : Hp), itv = .ref it ∧ Inv X pins σ H' s2 ∧ Turn X.prog X.w X.K tg J fp it tn ∧ tn 0 s2.heap ∧ (∀ b ∈ fp, FpOk X pins H' b) ∧ R J H'
noncomputable def PI (X : Cx) (tg iter : Expr) (wi : TI) : Prop :=
  ∀ (pins : List (Addr × Obj)) (s : Shared) (σ : St) (H : Hp) (R : It → Hp → Prop), Inv X pins σ H s → wi σ H R →
    wpAny (model X.prog X.w) X.A (eval iter X.env) (fun v s1 => wpAny (model X.prog X.w) X.A (pyIter v) (PIE X pins σ tg R) X.xe s1) X.xe s
/-- the step ahead of the store is nothing for an iterator that keeps no tuple -/
theorem go_of {M : Model} {A : Around} {E : Value → Shared → Prop} {s : Shared} {tg : Expr} {it : Addr} {u : Value} {o : Obj} {n : String} {vs : Array Value} {Q : Unit → Shared → Prop} (ho : s.heap.get? it = some o) (hc : o.cls = .type n) (hd : o.data = .fields vs)
    (hn : ["enumerate", "zip", "dict_itemiterator", "dict_reverseitemiterator", "odict_iterator", "itertools.zip_longest", "itertools.pairwise"].contains n = false) (hQ : Q () s) : wpAny M A (letOwnedTupleGo tg (.ref it) u) Q E s := by
  unfold letOwnedTupleGo
  cases tg <;> first
    | exact wpAny_pure hQ
    | (cases u <;> first
        | exact wpAny_pure hQ
        | (refine wpAny_bind (wpAny_load ho ?_); rw [hc, hd]; show wpAny M A (if (["enumerate", "zip", "dict_itemiterator", "dict_reverseitemiterator", "odict_iterator", "itertools.zip_longest", "itertools.pairwise"].contains n && vs[0]? == some (rawInt _)) = true then _ else _) Q E s; rw [if_neg (by intro h; rw [hn, Bool.false_and] at h; cases h)]; exact wpAny_pure hQ))
/-- the list at a, as it stands at each turn (a loop may append to it) -/
noncomputable def Itl (K : PySem.W.Frag) (a : Addr) : It :=
  ⟨fun i H => ∃ xs x, SqL K H a xs ∧ xs[i]? = some x, fun i H x H' => H' = H ∧ ∀ xs, SqL K H a xs → xs[i]? = some x, fun i H => ∃ xs, SqL K H a xs ∧ xs.length ≤ i⟩
noncomputable def Itt (K : PySem.W.Frag) (a : Addr) : It :=
  ⟨fun i H => ∃ xs x, SqT K H a xs ∧ xs[i]? = some x, fun i H x H' => H' = H ∧ ∀ xs, SqT K H a xs → xs[i]? = some x, fun i H => ∃ xs, SqT K H a xs ∧ xs.length ≤ i⟩
/-- lo, lo + 1, .. (n of them) -/
noncomputable def Itr (lo : Int) (n : Nat) : It := ⟨fun i _ => i < n, fun i H x H' => H' = H ∧ x = .int (lo + i), fun i _ => n ≤ i⟩
theorem turn_list {P : Program} {w : World} {K : PySem.W.Frag} {tg : Expr} (a it : Addr) : Turn P w K tg (Itl K a) [it] it (fun i h => h.IsListIter it a i) where
  mem := by simp
  obj := fun i h st b hb => by
    have e : b = it := by simpa using hb
    subst e
    obtain ⟨o, e, c, d⟩ := st
    exact ⟨o, e, fun v z => by rw [d] at z; cases z⟩
  keep := fun i h h' st k => st.at fun o e => k it (by simp) o e
  item := by
    intro X hP hw hK hc i pins s σ H E I hf st hg
    subst hP hw hK
    obtain ⟨xs, x, hq, hx⟩ := hg
    obtain ⟨its, rv, p, hz⟩ := I.list hq
    obtain ⟨u, hu, ru⟩ := rv.get hx
    obtain ⟨f0, f1, f2, f3, f4, f5⟩ := hf it (by simp)
    refine wpAny_pyNext_list_item st p.isList (x := u) (by simpa using hu) fun h' st' sb => ?_
    have I1 : Inv X pins σ H { s with heap := h' } := I.turned (t' := s.toks) (fun b o hb e => (sb.2 b hb).trans e) f0 f1 f3 f4 f5
    obtain ⟨o, e, c, d⟩ := id st'
    exact ⟨u, rfl, go_of (s := { s with heap := h' }) e c d (by decide) ⟨x, H, I1, ru, ⟨rfl, fun ys hy => by rw [I.list_inj hy hq]; exact hx⟩, st', fun b hb => (hf b hb).1⟩⟩
  done := by
    intro X hP hw hK hc i pins s σ H E I hf st hg
    subst hP hw hK
    obtain ⟨xs, hq, hx⟩ := hg
    obtain ⟨its, rv, p, hz⟩ := I.list hq
    obtain ⟨f0, f1, f2, f3, f4, f5⟩ := hf it (by simp)
    have hl := rv.length
    exact wpAny_pyNext_list_end (I.ok.hd hc) st p.isList (by simp; lia) fun h' eb => ⟨rfl, I.turned (t' := s.toks) (fun b o hb e => eb b o hb e) f0 f1 f3 f4 f5⟩
  self := fun _ _ _ _ _ st h => wpAny_pyIter_listiter st h
theorem turn_tuple {P : Program} {w : World} {K : PySem.W.Frag} {tg : Expr} (a it : Addr) : Turn P w K tg (Itt K a) [it] it (fun i h => h.IsTupleIter it a i) where
  mem := by simp
  obj := fun i h st b hb => by
    have e : b = it := by simpa using hb
    subst e
    obtain ⟨o, e, c, d⟩ := st
    exact ⟨o, e, fun v z => by rw [d] at z; cases z⟩
  keep := fun i h h' st k => st.at fun o e => k it (by simp) o e
  item := by
    intro X hP hw hK hc i pins s σ H E I hf st hg
    subst hP hw hK
    obtain ⟨xs, x, hq, hx⟩ := hg
    obtain ⟨its, rv, p, hz⟩ := I.tuple hq
    obtain ⟨u, hu, ru⟩ := rv.get hx
    obtain ⟨f0, f1, f2, f3, f4, f5⟩ := hf it (by simp)
    refine wpAny_pyNext_tuple_item st (show s.heap.IsTuple a its.toArray from p) (x := u) (by simpa using hu) fun h' st' sb => ?_
    have I1 : Inv X pins σ H { s with heap := h' } := I.turned (t' := s.toks) (fun b o hb e => (sb.2 b hb).trans e) f0 f1 f3 f4 f5
    obtain ⟨o, e, c, d⟩ := id st'
    exact ⟨u, rfl, go_of (s := { s with heap := h' }) e c d (by decide) ⟨x, H, I1, ru, ⟨rfl, fun ys hy => by rw [I.tuple_inj hy hq]; exact hx⟩, st', fun b hb => (hf b hb).1⟩⟩
  done := by
    intro X hP hw hK hc i pins s σ H E I hf st hg
    subst hP hw hK
    obtain ⟨xs, hq, hx⟩ := hg
    obtain ⟨its, rv, p, hz⟩ := I.tuple hq
    obtain ⟨f0, f1, f2, f3, f4, f5⟩ := hf it (by simp)
    have hl := rv.length
    exact wpAny_pyNext_tuple_end (I.ok.hd hc) st (show s.heap.IsTuple a its.toArray from p) (by simp; lia) fun h' eb => ⟨rfl, I.turned (t' := s.toks) (fun b o hb e => eb b o hb e) f0 f1 f3 f4 f5⟩
  self := fun _ _ _ _ _ st h => wpAny_pyIter_tupleiter st h
theorem turn_range {P : Program} {w : World} {K : PySem.W.Frag} {tg : Expr} (it : Addr) (lo : Int) (n : Nat) : Turn P w K tg (Itr lo n) [it] it (fun i h => IsRangeIter h it (lo + (i : Nat) * 1) ((n : Int) - (i : Nat)) 1) where
  mem := by simp
  obj := fun i h st b hb => by
    have e : b = it := by simpa using hb
    subst e
    exact ⟨_, st, fun v z => by
      have z' : Data.fields _ = Data.cell v := z
      cases z'⟩
  keep := fun i h h' st k => k it (by simp) _ st
  item := by
    intro X hP hw hK hc i pins s σ H E I hf st hg
    subst hP hw hK
    obtain ⟨f0, f1, f2, f3, f4, f5⟩ := hf it (by simp)
    have W := Walks.range (prog := X.prog) (w := X.w) (I.ok.hd hc) it lo 1 n
    refine W.item i s _ _ hg st fun v h' tk hv st' kk => ?_
    obtain ⟨t, rfl⟩ := hv
    have I1 : Inv X pins σ H { s with heap := h', toks := tk } := I.turned (fun b o hb e => kk b o (by simpa using hb) e) f0 f1 f3 f4 f5
    refine ⟨_, rfl, go_of (s := { s with heap := h', toks := tk }) (n := "range_iterator") st' rfl rfl (by decide) ⟨.int (lo + i), H, I1, ⟨t, ?_⟩, ⟨rfl, rfl⟩, st', fun b hb => (hf b hb).1⟩⟩
    rw [Int.mul_one]
  done := by
    intro X hP hw hK hc i pins s σ H E I hf st hg
    subst hP hw hK
    obtain ⟨f0, f1, f2, f3, f4, f5⟩ := hf it (by simp)
    exact wpAny_pyNext_range_end (I.ok.hd hc) st (by have : n ≤ i := hg; lia) fun h' eb => ⟨rfl, I.turned (t' := s.toks) (fun b o hb e => eb b o hb e) f0 f1 f3 f4 f5⟩
  self := fun _ _ _ _ _ st h => wpAny_pyIter_rangeiter st h
end L2
namespace L2
open PySem PySem.Spec PyProof.Rows
section
variable {X : Cx} {tg : Expr}
noncomputable def iList (K : PySem.W.Frag) (tl : TE) : TI := fun σ H R => tl σ H fun x H1 => ∃ a, x = .ref a ∧ (∃ xs, SqL K H1 a xs) ∧ R (Itl K a) H1
noncomputable def iTup (K : PySem.W.Frag) (tl : TE) : TI := fun σ H R => tl σ H fun x H1 => ∃ a, x = .ref a ∧ (∃ xs, SqT K H1 a xs) ∧ R (Itt K a) H1
theorem pi_list {l : Expr} {tl : TE} (hl : PE X l tl) : PI X tg l (iList X.K tl) := by
  intro pins s σ H R I h
  refine thn (hl pins s σ H _ I h) fun v s1 zz => ?_
  obtain ⟨x, H1, I1, r1, q1⟩ := zz
  obtain ⟨a, e, ⟨xs, hq⟩, q⟩ := q1
  subst e
  cases r1
  obtain ⟨its, rv, p, hz⟩ := I1.list hq
  refine wpAny_pyIter_list p.isList ?_
  refine ⟨s1.heap.objs.size, [s1.heap.objs.size], _, _, H1, rfl, I1.kept (t' := s1.toks) fun b o e => Heap.get?_push_of_some _ e, turn_list a _, ⟨_, Heap.get?_push_size _ rfl, rfl, rfl⟩, fun b hb => ?_, q⟩
  have e : b = s1.heap.objs.size := by simpa using hb
  subst e
  exact I1.fpOk (Nat.le_refl _) (I1.hok.fresh (Nat.le_refl _))
theorem pi_tup {l : Expr} {tl : TE} (hl : PE X l tl) : PI X tg l (iTup X.K tl) := by
  intro pins s σ H R I h
  refine thn (hl pins s σ H _ I h) fun v s1 zz => ?_
  obtain ⟨x, H1, I1, r1, q1⟩ := zz
  obtain ⟨a, e, ⟨xs, hq⟩, q⟩ := q1
  subst e
  cases r1
  obtain ⟨its, rv, p, hz⟩ := I1.tuple hq
  refine wpAny_pyIter_tuple (show s1.heap.IsTuple a its.toArray from p) ?_
  refine ⟨s1.heap.objs.size, [s1.heap.objs.size], _, _, H1, rfl, I1.kept (t' := s1.toks) fun b o e => Heap.get?_push_of_some _ e, turn_tuple a _, ⟨_, Heap.get?_push_size _ rfl, rfl, rfl⟩, fun b hb => ?_, q⟩
  have e : b = s1.heap.objs.size := by simpa using hb
  subst e
  exact I1.fpOk (Nat.le_refl _) (I1.hok.fresh (Nat.le_refl _))
/-- a range object just made, walked -/
theorem range_it {pins : List (Addr × Obj)} {σ : St} {H : Hp} {s : Shared} {R : It → Hp → Prop} {E : Value → Shared → Prop} {lo hi : Int} {t u v : Tok} {tk : Nat} (I : Inv X pins σ H s) (h1 : -(2 ^ 62) ≤ lo) (h2 : lo < 2 ^ 62) (h3 : -(2 ^ 62) ≤ hi) (h4 : hi < 2 ^ 62)
    (q : R (Itr lo (hi - lo).toNat) H) : wpAny (model X.prog X.w) X.A (pyIter (.ref s.heap.objs.size)) (PIE X pins σ tg R) E { s with heap := s.heap.push { cls := .type "range", data := .fields #[.int lo t, .int hi u, .int 1 v] }, toks := tk } := by
  refine wpAny_pyIter_range (IsRange.new ..) (small_one h1 h2 h3 h4) ?_
  have I1 : Inv X pins σ H { s with heap := s.heap.push { cls := .type "range", data := .fields #[.int lo t, .int hi u, .int 1 v] }, toks := tk } := I.kept fun b o e => Heap.get?_push_of_some _ e
  refine ⟨(s.heap.push { cls := .type "range", data := .fields #[.int lo t, .int hi u, .int 1 v] }).objs.size, [(s.heap.push { cls := .type "range", data := .fields #[.int lo t, .int hi u, .int 1 v] }).objs.size], _, _, H, rfl,
    I1.kept (t' := tk) fun b o e => Heap.get?_push_of_some _ e, turn_range _ lo (hi - lo).toNat, ?_, fun b hb => ?_, q⟩
  · have e1 : lo + ((0 : Nat) : Int) * 1 = lo := by simp
    have e2 : (((hi - lo).toNat : Nat) : Int) - ((0 : Nat) : Int) = Builtin.Range.rangeSize lo hi 1 := by rw [rangeSize_one]; split <;> lia
    show IsRangeIter _ _ (lo + ((0 : Nat) : Int) * 1) ((((hi - lo).toNat : Nat) : Int) - ((0 : Nat) : Int)) 1
    rw [e1, e2]
    exact Heap.get?_push_size _ rfl
  · have e : b = (s.heap.push { cls := .type "range", data := .fields #[.int lo t, .int hi u, .int 1 v] }).objs.size := by simpa using hb
    subst e
    exact I1.fpOk (Nat.le_refl _) (I1.hok.fresh (Nat.le_refl _))
noncomputable def iRng1 (ta : TA) : TI := fun σ H R => ta σ H fun vs H1 => ∃ j : Int, vs = [.int j] ∧ -(2 ^ 62) ≤ j ∧ j < 2 ^ 62 ∧ R (Itr 0 j.toNat) H1
theorem pi_range1 {a : Expr} {ta : TA} {p pos : Pos} (hg : Gl X "range") (hm : X.mg "range" = none) (ha : PA X [a] ta) (hs : starEach [a] X.env = [(false, eval a X.env)] := by rfl) : PI X tg (.Call (.Name "range" p) [a] [] pos) (iRng1 ta) := by
  intro pins s σ H R I h
  refine Call_ (ld_blt I hg hm boot_range (PyProof.Rows.callWith_type1 (thn (ha pos pins s σ H _ I h) fun us s1 ⟨vs, H1, I1, r1, q1⟩ => ?_) hs rfl))
  obtain ⟨j, e, q1, q2, q⟩ := q1
  subst e
  cases r1 with
  | cons r rr =>
    cases rr
    obtain ⟨t, rfl⟩ := r
    exact call_range_1 (range_it I1 (by lia) (by lia) q1 q2 (by simpa using q))
/-- W: the invariant by the turn and a measure; N: what the body is to reach -/
noncomputable def tFor (wi : TI) (g : TG) (tb : TS) : TS := fun D σ H => wi σ H fun J H1 => ∃ W : Nat → Nat → St → Hp → Prop, (∃ m, W 0 m σ H1) ∧ ∀ i m σ H, W i m σ H →
  (J.stop i H ∧ D.nx σ H) ∨ (J.go i H ∧ ∃ N : St → Hp → Prop, (∀ σ' H', N σ' H' → ∃ m', m' < m ∧ W (i + 1) m' σ' H') ∧ ∀ x H', J.yld i H x H' → g x σ H' fun σ2 H2 => tb { D with nx := N, ct := N, bk := D.nx } σ2 H2)
/-- the records at fp as they stand -/
noncomputable def pinsAt (fp : List Addr) (h : Heap) : List (Addr × Obj) := fp.filterMap fun b => (h.get? b).map fun o => (b, o)
theorem mem_pinsAt {fp : List Addr} {h : Heap} {b : Addr} {o : Obj} (hb : b ∈ fp) (e : h.get? b = some o) : (b, o) ∈ pinsAt fp h := List.mem_filterMap.mpr ⟨b, hb, by rw [e]; rfl⟩
theorem of_pinsAt {fp : List Addr} {h : Heap} {p : Addr × Obj} (hp : p ∈ pinsAt fp h) : p.1 ∈ fp ∧ h.get? p.1 = some p.2 := by
  obtain ⟨b, hb, e⟩ := List.mem_filterMap.mp hp
  cases q : h.get? b with
  | none => rw [q] at e; cases e
  | some o =>
    rw [q] at e
    have e' : (b, o) = p := Option.some.inj e
    subst e'
    exact ⟨hb, q⟩
theorem Inv.pinned {pins : List (Addr × Obj)} {σ : St} {H : Hp} {s : Shared} {fp : List Addr} (I : Inv X pins σ H s) (hf : ∀ b ∈ fp, FpOk X pins H b) (ho : ∀ b ∈ fp, ∃ o, s.heap.get? b = some o ∧ ∀ v, o.data ≠ .cell v) : Inv X (pins ++ pinsAt fp s.heap) σ H s :=
  I.pins_of fun p hp => (List.mem_append.mp hp).elim (fun z => I.pin p (List.mem_append_right _ z)) fun z => by
    obtain ⟨hb, e⟩ := of_pinsAt z
    obtain ⟨f0, f1, f2, _⟩ := hf p.1 hb
    obtain ⟨o, e', d⟩ := ho p.1 hb
    rw [e] at e'; cases e'
    exact ⟨e, f0, f1, f2, d⟩
theorem Inv.unpinned {pins pl : List (Addr × Obj)} {σ : St} {H : Hp} {s : Shared} (I : Inv X (pins ++ pl) σ H s) : Inv X pins σ H s := I.pins_of fun p hp => I.pin p (List.mem_append_right _ (List.mem_append_left _ hp))
theorem ps_for {iter : Expr} {body : List Stmt} {wi : TI} {g : TG} {tb : TS} {pos : Pos} (hp : PassesOwn (model X.prog X.w) X.A X.env X.xe) (hc : X.calm = true) (hi : PI X tg iter wi) (hg : PG X tg g) (hb : PSs X body tb)
    (hs : ∀ x, foldedSetIterable iter X.env x = pure x := by intro _; rfl) : PS X (.For tg iter body [] pos) (tFor wi g tb) := by
  intro pins s σ H D I h
  refine wpAny_For (thn (hi pins s σ H _ I h) fun v s1 h1 => thn h1 fun itv s2 h2 => ?_) hs
  obtain ⟨it, fp, tn, J, H2, e, I2, T, st2, f2, W, ⟨m0, w0⟩, turn⟩ := h2
  subst e
  -- what stays true of the iterator's objects through the loop
  have stat : ∀ {H' : Hp}, (∀ b ∈ fp, H' b = none) → ∀ b ∈ fp, FpOk X pins H' b := fun hn b hb => ⟨hn b hb, (f2 b hb).2⟩
  refine codeAny_forLoop_any (fun n s' => ∃ i σ' H', Inv X pins σ' H' s' ∧ tn i s'.heap ∧ (∀ b ∈ fp, H' b = none) ∧ W i n σ' H') ?_ m0 ⟨0, σ, H2, I2, st2, fun b hb => (f2 b hb).1, w0⟩
  rintro n s3 ⟨i, σ3, H3, I3, st3, fr3, w3⟩
  rcases turn i n σ3 H3 w3 with ⟨stop, qn⟩ | ⟨go, N, hN, step⟩
  · refine wpAny_passesOwn hp (thn (T.done X rfl rfl rfl hc i pins s3 σ3 H3 X.xe I3 (stat fr3) st3 stop) fun r s4 zz => ?_)
    obtain ⟨hr, I4⟩ := zz
    subst hr
    exact wpAny_execs_nil ⟨σ3, H3, I4, qn⟩
  · refine wpAny_passesOwn hp (thn (T.item X rfl rfl rfl hc i pins s3 σ3 H3 X.xe I3 (stat fr3) st3 go) fun r s4 zz => ?_)
    obtain ⟨u, hr, h4⟩ := zz
    subst hr
    refine wpAny_passesOwn hp (thn h4 fun _ s5 zz => ?_)
    obtain ⟨x, H5, I5, r5, y5, st5, fr5⟩ := zz
    have I5' := I5.pinned (stat fr5) (T.obj _ _ st5)
    refine wpAny_passesOwn hp (thn (hg _ s5 σ3 H5 x u _ I5' r5 (step x H5 y5)) fun _ s6 zz => ?_)
    obtain ⟨σ6, H6, I6, q6⟩ := zz
    refine wpAny_passesOwn hp (thn (hb _ s6 σ6 H6 _ I6 q6) fun f s7 q7 => ?_)
    have again : ∀ {σ7 : St} {H7 : Hp}, Inv X (pins ++ pinsAt fp s5.heap) σ7 H7 s7 → N σ7 H7 → ∃ m, m < n ∧ ∃ i σ' H', Inv X pins σ' H' s7 ∧ tn i s7.heap ∧ (∀ b ∈ fp, H' b = none) ∧ W i m σ' H' := fun {σ7 H7} I7 n7 => by
      obtain ⟨m', hm, w7⟩ := hN σ7 H7 n7
      refine ⟨m', hm, i + 1, σ7, H7, I7.unpinned, T.keep _ _ _ st5 fun b hb o e => (I7.pin (b, o) (List.mem_append_right _ (List.mem_append_right _ (mem_pinsAt hb e)))).1, fun b hb => ?_, w7⟩
      obtain ⟨o, e, d⟩ := T.obj _ _ st5 b hb
      exact (I7.pin (b, o) (List.mem_append_right _ (List.mem_append_right _ (mem_pinsAt hb e)))).2.1
    cases f with
    | next => obtain ⟨σ7, H7, I7, n7⟩ := q7; exact again I7 n7
    | cont => obtain ⟨σ7, H7, I7, n7⟩ := q7; exact again I7 n7
    | brk => obtain ⟨σ7, H7, I7, q7⟩ := q7; exact ⟨σ7, H7, I7.unpinned, q7⟩
    | ret v => obtain ⟨x7, σ7, H7, I7, r7, q7⟩ := q7; exact ⟨x7, σ7, H7, I7.unpinned, r7, q7⟩
end
end L2
namespace L2
open PySem PySem.Spec PyProof.Rows
noncomputable abbrev R2 := V → V → Hp → VK → Prop
/-- a two-place operation on values: f is binaryOp op, inplaceOp op or compareOp op -/
noncomputable def OpR (X : Cx) (f : Value → Value → Sem Value) (r : R2) : Prop :=
  ∀ (pins : List (Addr × Obj)) (s : Shared) (σ : St) (H : Hp) (x y : V) (v u : Value) (Q : VK), Inv X pins σ H s → RelV x v → RelV y u → r x y H Q →
    wpAny (model X.prog X.w) X.A (f v u) (EP X pins σ Q) X.xe s
/-- a one-place operation -/
noncomputable def UnR (X : Cx) (f : Value → Sem Value) (r : V → Hp → VK → Prop) : Prop :=
  ∀ (pins : List (Addr × Obj)) (s : Shared) (σ : St) (H : Hp) (x : V) (v : Value) (Q : VK), Inv X pins σ H s → RelV x v → r x H Q →
    wpAny (model X.prog X.w) X.A (f v) (EP X pins σ Q) X.xe s
/-- a call of a value that is known (a builtin, a type) with values -/
noncomputable def CallR (X : Cx) (f : Value) (r : List V → Hp → VK → Prop) : Prop :=
  ∀ (pins : List (Addr × Obj)) (s : Shared) (σ : St) (H : Hp) (xs : List V) (us : List Value) (Q : VK), Inv X pins σ H s → Vals xs us → r xs H Q →
    wpAny (model X.prog X.w) X.A (call f us) (EP X pins σ Q) X.xe s
/-- a value's truth -/
noncomputable def TruR (X : Cx) (r : V → Hp → (Bool → Hp → Prop) → Prop) : Prop :=
  ∀ (pins : List (Addr × Obj)) (s : Shared) (σ : St) (H : Hp) (x : V) (v : Value) (Q : Bool → Hp → Prop), Inv X pins σ H s → RelV x v → r x H Q →
    wpAny (model X.prog X.w) X.A (truthy v) (TP X pins σ Q) X.xe s
noncomputable def tOp (r : R2) (ta tb : TE) : TE := fun σ H Q => ta σ H fun x H1 => tb σ H1 fun y H2 => r x y H2 Q
noncomputable def tUn (r : V → Hp → VK → Prop) (ta : TE) : TE := fun σ H Q => ta σ H fun x H1 => r x H1 Q
/-- ints in, under C, and a value out -/
noncomputable def rI (C : Int → Int → Prop) (g : Int → Int → V) : R2 := fun x y H Q => ∃ i j, x = .int i ∧ y = .int j ∧ C i j ∧ Q (g i j) H
noncomputable def rI0 (g : Int → Int → V) : R2 := fun x y H Q => ∃ i j, x = .int i ∧ y = .int j ∧ Q (g i j) H
noncomputable def rU (g : Int → V) : V → Hp → VK → Prop := fun x H Q => ∃ i, x = .int i ∧ Q (g i) H
section
variable {X : Cx} {a b c : Expr} {ta tb tc : TE} {pos : Pos}
theorem binT (ha : PE X a ta) (hb : PE X b tb) {pins : List (Addr × Obj)} {s : Shared} {σ : St} {H : Hp} {R : V → V → Hp → Prop} (I : Inv X pins σ H s)
    (h : ta σ H fun x H1 => tb σ H1 fun y H2 => R x y H2) {Q : Value → Shared → Prop} {f : Value → Value → Sem Value}
    (hf : ∀ v u s2 x y H2, Inv X pins σ H2 s2 → RelV x v → RelV y u → R x y H2 → wpAny (model X.prog X.w) X.A (f v u) Q X.xe s2) :
    wpAny (model X.prog X.w) X.A (eval a X.env) (fun v s₁ => wpAny (model X.prog X.w) X.A (eval b X.env) (fun u s₂ => wpAny (model X.prog X.w) X.A (f v u) Q X.xe s₂) X.xe s₁) X.xe s := by
  refine thn (ha pins s σ H _ I h) fun v s1 zz => ?_
  obtain ⟨x, H1, I1, r1, q1⟩ := zz
  refine thn (hb pins s1 σ H1 _ I1 q1) fun u s2 zz => ?_
  obtain ⟨y, H2, I2, r2, q2⟩ := zz
  exact hf v u s2 x y H2 I2 r1 r2 q2
theorem pe_op {op : Operator} {r : R2} (ho : OpR X (binaryOp op) r) (ha : PE X a ta) (hb : PE X b tb) : PE X (.BinOp a op b pos) (tOp r ta tb) := by
  intro pins s σ H Q I h
  exact wpAny_BinOp (binT ha hb I h fun v u s2 x y H2 I2 rx ry q => ho pins s2 σ H2 x y v u Q I2 rx ry q)
theorem pe_un {op : UnaryOp} {r : V → Hp → VK → Prop} (ho : UnR X (unaryOp op) r) (ha : PE X a ta) : PE X (.UnaryOp op a pos) (tUn r ta) := by
  intro pins s σ H Q I h
  exact UnaryOp_ (thn (ha pins s σ H _ I h) fun v s1 ⟨x, H1, I1, r1, q1⟩ => ho pins s1 σ H1 x v Q I1 r1 q1)
theorem opI {f : Value → Value → Sem Value} {C : Int → Int → Prop} {g : Int → Int → Int}
    (rule : ∀ (i j : Int) (t u : Tok) (s : Shared) (Q : Value → Shared → Prop) (E : Value → Shared → Prop), C i j → Q (.int (g i j) s.toks) { s with toks := s.toks + 1 } → wpAny (model X.prog X.w) X.A (f (.int i t) (.int j u)) Q E s) :
    OpR X f (rI C fun i j => .int (g i j)) := by
  intro pins s σ H x y v u Q I rx ry h
  obtain ⟨i, j, rfl, rfl, hc, q⟩ := h
  obtain ⟨t, rfl⟩ := rx
  obtain ⟨t', rfl⟩ := ry
  exact rule i j t t' s _ _ hc ⟨.int (g i j), H, I.tok _, ⟨_, rfl⟩, q⟩
theorem opI0 {f : Value → Value → Sem Value} {g : Int → Int → Int}
    (rule : ∀ (i j : Int) (t u : Tok) (s : Shared) (Q : Value → Shared → Prop) (E : Value → Shared → Prop), Q (.int (g i j) s.toks) { s with toks := s.toks + 1 } → wpAny (model X.prog X.w) X.A (f (.int i t) (.int j u)) Q E s) :
    OpR X f (rI0 fun i j => .int (g i j)) := by
  intro pins s σ H x y v u Q I rx ry h
  obtain ⟨i, j, rfl, rfl, q⟩ := h
  obtain ⟨t, rfl⟩ := rx
  obtain ⟨t', rfl⟩ := ry
  exact rule i j t t' s _ _ ⟨.int (g i j), H, I.tok _, ⟨_, rfl⟩, q⟩
theorem opB0 {f : Value → Value → Sem Value} {g : Int → Int → Bool}
    (rule : ∀ (i j : Int) (t u : Tok) (s : Shared) (Q : Value → Shared → Prop) (E : Value → Shared → Prop), Q (.bool (g i j)) s → wpAny (model X.prog X.w) X.A (f (.int i t) (.int j u)) Q E s) :
    OpR X f (rI0 fun i j => .bl (g i j)) := by
  intro pins s σ H x y v u Q I rx ry h
  obtain ⟨i, j, rfl, rfl, q⟩ := h
  obtain ⟨t, rfl⟩ := rx
  obtain ⟨t', rfl⟩ := ry
  exact rule i j t t' s _ _ ⟨.bl (g i j), H, I, rfl, q⟩
noncomputable def CDiv (i j : Int) : Prop := 0 < j ∧ j < 1073741824
noncomputable def CPow (i j : Int) : Prop := 0 ≤ j ∧ j ≤ 1000000 ∧ i.natAbs < 2 ^ 64
noncomputable def CMul (i j : Int) : Prop := (-(2 ^ 64) < i ∧ i < 2 ^ 64) ∨ (-(2 ^ 64) < j ∧ j < 2 ^ 64)
theorem CMul.ok {i j : Int} (h : CMul i j) : IntMulOk i j := by
  rcases h with ⟨h1, h2⟩ | ⟨h1, h2⟩
  · exact .of_left (intBits_le_64 h1 h2)
  · exact .of_right (intBits_le_64 h1 h2)
theorem op_add : OpR X (binaryOp .Add) (rI0 fun i j => .int (i + j)) := opI0 fun _ _ _ _ _ _ _ q => add_int q
theorem op_sub : OpR X (binaryOp .Sub) (rI0 fun i j => .int (i - j)) := opI0 fun _ _ _ _ _ _ _ q => sub_int q
theorem op_mul : OpR X (binaryOp .Mult) (rI CMul fun i j => .int (i * j)) := opI fun _ _ _ _ _ _ _ hc q => mul_int q hc.ok
/-- // by a positive divisor -/
theorem op_fdiv : OpR X (binaryOp .FloorDiv) (rI CDiv fun i j => .int (i / j)) := opI fun i j _ _ _ _ _ hc q => by
  have h1 : (0 : Int) < j := hc.1
  have h2 : j < 1073741824 := hc.2
  exact floordiv_int (by lia) (by rw [Int.fdiv_eq_ediv_of_nonneg i (by lia)]; exact q) (.inl (PyProof.noPylong_small (by lia)))
/-- % by a positive divisor of any size -/
theorem op_mod : OpR X (binaryOp .Mod) (rI (fun _ j => 0 < j) fun i j => .int (i % j)) := opI fun i j _ _ _ _ _ hc q => by
  have h1 : (0 : Int) < j := hc
  exact mod_int' (by lia) (by rw [Int.fmod_eq_emod_of_nonneg i (by lia)]; exact q)
theorem op_pow : OpR X (binaryOp .Pow) (rI CPow fun i j => .int (i ^ j.toNat)) := opI fun _ _ _ _ _ _ _ hc q => pow_int_small hc.1 hc.2.1 hc.2.2 q
theorem unI {f : Value → Sem Value} {g : Int → Int}
    (rule : ∀ (i : Int) (t : Tok) (s : Shared) (Q : Value → Shared → Prop) (E : Value → Shared → Prop), Q (.int (g i) s.toks) { s with toks := s.toks + 1 } → wpAny (model X.prog X.w) X.A (f (.int i t)) Q E s) :
    UnR X f (rU fun i => .int (g i)) := by
  intro pins s σ H x v Q I rx h
  obtain ⟨i, rfl, q⟩ := h
  obtain ⟨t, rfl⟩ := rx
  exact rule i t s _ _ ⟨.int (g i), H, I.tok _, ⟨_, rfl⟩, q⟩
theorem un_neg : UnR X (unaryOp .USub) (rU fun i => .int (-i)) := unI fun _ _ _ _ _ q => neg_int q
end
/-- the scalars that == tells apart as data does -/
noncomputable def scal : V → V → Bool
  | .non, .non => true | .non, .int _ => true | .int _, .non => true | .non, .bl _ => true | .bl _, .non => true | .non, .str _ => true | .str _, .non => true
  | .int _, .int _ => true | .bl _, .bl _ => true | .str _, .str _ => true | .byt _, .byt _ => true
  | .int _, .str _ => true | .str _, .int _ => true | .bl _, .str _ => true | .str _, .bl _ => true
  | _, _ => false
noncomputable def rEq : R2 := fun x y H Q => scal x y = true ∧ Q (.bl (decide (x = y))) H
noncomputable def rNe : R2 := fun x y H Q => scal x y = true ∧ Q (.bl (!decide (x = y))) H
theorem dec_int {i j : Int} : decide (V.int i = V.int j) = (i == j) := by
  rw [Bool.eq_iff_iff]
  simp
theorem dec_bl {i j : Bool} : decide (V.bl i = V.bl j) = (i == j) := by
  rw [Bool.eq_iff_iff]
  simp
theorem dec_str {i j : Str} : decide (V.str i = V.str j) = (i == j) := by
  rw [Bool.eq_iff_iff]
  simp
theorem dec_byt {i j : Array UInt8} : decide (V.byt i = V.byt j) = (i.toList == j.toList) := by
  rw [Bool.eq_iff_iff]
  cases i
  cases j
  simp
section
variable {X : Cx} {a b c : Expr} {ta tb tc : TE} {pos : Pos}
theorem fin_bl {pins : List (Addr × Obj)} {σ : St} {H : Hp} {s : Shared} {Q : VK} {k k' : Bool} (I : Inv X pins σ H s) (q : Q (.bl k) H) (e : k = k') : EP X pins σ Q (.bool k') s := by
  subst e
  exact ⟨.bl k, H, I, rfl, q⟩
theorem op_eq : OpR X (compareOp .Eq) rEq := by
  intro pins s σ H x y v u Q I rx ry h
  obtain ⟨hs, q⟩ := h
  cases x with
  | non =>
    cases rx
    cases y with
    | non => cases ry; exact PySem.EqNone.eq_none_none (fin_bl I q (by simp))
    | bl j => cases ry; exact PySem.EqNone.eq_none_bool (fin_bl I q (by simp))
    | int j => obtain ⟨t', rfl⟩ := ry; exact PySem.EqNone.eq_none_int (fin_bl I q (by simp))
    | str j => obtain ⟨t', rfl⟩ := ry; exact PySem.EqNone.eq_none_str (fin_bl I q (by simp))
    | _ => exact absurd (show false = true from hs) Bool.false_ne_true
  | bl i =>
    cases rx
    cases y with
    | non => cases ry; exact PySem.EqNone.eq_bool_none (fin_bl I q (by simp))
    | bl j => cases ry; exact eq_bool (fin_bl I q dec_bl)
    | str j => obtain ⟨t', rfl⟩ := ry; exact PySem.EqMixed.eq_bool_str (fin_bl I q (by simp))
    | _ => exact absurd (show false = true from hs) Bool.false_ne_true
  | int i =>
    obtain ⟨t, rfl⟩ := rx
    cases y with
    | non => cases ry; exact PySem.EqNone.eq_int_none (fin_bl I q (by simp))
    | int j => obtain ⟨t', rfl⟩ := ry; exact eq_int (fin_bl I q dec_int)
    | str j => obtain ⟨t', rfl⟩ := ry; exact PySem.EqMixed.eq_int_str (fin_bl I q (by simp))
    | _ => exact absurd (show false = true from hs) Bool.false_ne_true
  | str i =>
    obtain ⟨t, rfl⟩ := rx
    cases y with
    | non => cases ry; exact PySem.EqNone.eq_str_none (fin_bl I q (by simp))
    | bl j => cases ry; exact PySem.EqMixed.eq_str_bool (fin_bl I q (by simp))
    | int j => obtain ⟨t', rfl⟩ := ry; exact PySem.EqMixed.eq_str_int (fin_bl I q (by simp))
    | str j => obtain ⟨t', rfl⟩ := ry; exact eq_str (fin_bl I q dec_str)
    | _ => exact absurd (show false = true from hs) Bool.false_ne_true
  | byt i =>
    obtain ⟨t, rfl⟩ := rx
    cases y with
    | byt j => obtain ⟨t', rfl⟩ := ry; exact PySem.W.eq_bytes (fin_bl I q dec_byt)
    | _ => exact absurd (show false = true from hs) Bool.false_ne_true
  | _ => cases y <;> exact absurd (show false = true from hs) Bool.false_ne_true
theorem op_ne : OpR X (compareOp .NotEq) rNe := by
  intro pins s σ H x y v u Q I rx ry h
  obtain ⟨hs, q⟩ := h
  cases x with
  | non =>
    cases rx
    cases y with
    | non => cases ry; exact PySem.EqNone.ne_none_none (fin_bl I q (by simp))
    | bl j => cases ry; exact PySem.EqNone.ne_none_bool (fin_bl I q (by simp))
    | int j => obtain ⟨t', rfl⟩ := ry; exact PySem.EqNone.ne_none_int (fin_bl I q (by simp))
    | str j => obtain ⟨t', rfl⟩ := ry; exact PySem.EqNone.ne_none_str (fin_bl I q (by simp))
    | _ => exact absurd (show false = true from hs) Bool.false_ne_true
  | bl i =>
    cases rx
    cases y with
    | non => cases ry; exact PySem.EqNone.ne_bool_none (fin_bl I q (by simp))
    | bl j => cases ry; exact ne_bool (fin_bl I q (congrArg not dec_bl))
    | str j => obtain ⟨t', rfl⟩ := ry; exact PySem.EqMixed.ne_bool_str (fin_bl I q (by simp))
    | _ => exact absurd (show false = true from hs) Bool.false_ne_true
  | int i =>
    obtain ⟨t, rfl⟩ := rx
    cases y with
    | non => cases ry; exact PySem.EqNone.ne_int_none (fin_bl I q (by simp))
    | int j => obtain ⟨t', rfl⟩ := ry; exact ne_int (fin_bl I q (congrArg not dec_int))
    | str j => obtain ⟨t', rfl⟩ := ry; exact PySem.EqMixed.ne_int_str (fin_bl I q (by simp))
    | _ => exact absurd (show false = true from hs) Bool.false_ne_true
  | str i =>
    obtain ⟨t, rfl⟩ := rx
    cases y with
    | non => cases ry; exact PySem.EqNone.ne_str_none (fin_bl I q (by simp))
    | bl j => cases ry; exact PySem.EqMixed.ne_str_bool (fin_bl I q (by simp))
    | int j => obtain ⟨t', rfl⟩ := ry; exact PySem.EqMixed.ne_str_int (fin_bl I q (by simp))
    | str j => obtain ⟨t', rfl⟩ := ry; exact ne_str (fin_bl I q (congrArg not dec_str))
    | _ => exact absurd (show false = true from hs) Bool.false_ne_true
  | byt i =>
    obtain ⟨t, rfl⟩ := rx
    cases y with
    | byt j => obtain ⟨t', rfl⟩ := ry; exact PySem.W.ne_bytes (fin_bl I q (congrArg not dec_byt))
    | _ => exact absurd (show false = true from hs) Bool.false_ne_true
  | _ => cases y <;> exact absurd (show false = true from hs) Bool.false_ne_true
theorem op_lt : OpR X (compareOp .Lt) (rI0 fun i j => .bl (decide (i < j))) := opB0 fun _ _ _ _ _ _ _ q => lt_int q
theorem op_gt : OpR X (compareOp .Gt) (rI0 fun i j => .bl (decide (j < i))) := opB0 fun _ _ _ _ _ _ _ q => gt_int q
theorem op_ge : OpR X (compareOp .GtE) (rI0 fun i j => .bl (decide (j ≤ i))) := opB0 fun _ _ _ _ _ _ _ q => ge_int q
/-- the one string within the other -/
theorem op_in_str : OpR X (compareOp .In) (fun x y H Q => ∃ i j, x = .str i ∧ y = .str j ∧ Q (.bl (!(Builtin.Str.occurrences j i 0 j.length 1).isEmpty)) H) := by
  intro pins s σ H x y v u Q I rx ry h
  obtain ⟨i, j, rfl, rfl, q⟩ := h
  obtain ⟨t, rfl⟩ := rx
  obtain ⟨t', rfl⟩ := ry
  exact in_str (fin_bl I q rfl)
theorem op_notin_str : OpR X (compareOp .NotIn) (fun x y H Q => ∃ i j, x = .str i ∧ y = .str j ∧ Q (.bl (!(!(Builtin.Str.occurrences j i 0 j.length 1).isEmpty))) H) := by
  intro pins s σ H x y v u Q I rx ry h
  obtain ⟨i, j, rfl, rfl, q⟩ := h
  obtain ⟨t, rfl⟩ := rx
  obtain ⟨t', rfl⟩ := ry
  exact notIn_str (fin_bl I q rfl)
/-- two rules for one operation: by cases -/
theorem OpR.or {f : Value → Value → Sem Value} {r r' : R2} (h : OpR X f r) (h' : OpR X f r') : OpR X f (fun x y H Q => r x y H Q ∨ r' x y H Q) := by
  intro pins s σ H x y v u Q I rx ry q
  rcases q with q | q
  · exact h pins s σ H x y v u Q I rx ry q
  · exact h' pins s σ H x y v u Q I rx ry q
theorem nomark (b : Expr) {op : CmpOp} (h : op ≠ .In := by decide) (h2 : op ≠ .NotIn := by decide) : behindInMarks op b = false := by
  have e1 : (op == CmpOp.In) = false := by cases op <;> first | rfl | exact absurd rfl h
  have e2 : (op == CmpOp.NotIn) = false := by cases op <;> first | rfl | exact absurd rfl h2
  cases b <;> simp [behindInMarks, e1, e2]
/-- a comparison as a value; hm: nomark b, or (for in, not in) by with_unfolding_all rfl -/
theorem pe_cmpR {op : CmpOp} {r : R2} (ho : OpR X (compareOp op) r) (ha : PE X a ta) (hb : PE X b tb) (hm : behindInMarks op b = false) : PE X (.Compare a [op] [b] pos) (tOp r ta tb) := by
  intro pins s σ H Q I h
  exact wpAny_Compare1 (binT ha hb I h fun v u s2 x y H2 I2 rx ry q => ho pins s2 σ H2 x y v u Q I2 rx ry q) hm
/-- a reading of a value as a test -/
noncomputable def tTest (t : TE) : TT := fun σ H Q => t σ H fun x H' => ∃ k, x = .bl k ∧ Q k H'
theorem pt_cmpR {op : CmpOp} {r : R2} (ho : OpR X (compareOp op) r) (ha : PE X a ta) (hb : PE X b tb) (hm : behindInMarks op b = false) : PT X (.Compare a [op] [b] pos) (tTest (tOp r ta tb)) := by
  intro pins s σ H Q I h
  refine wpAny_isTrue_Compare1 (thn (ha pins s σ H _ I h) fun v s1 ⟨x, H1, I1, r1, q1⟩ => thn (hb pins s1 σ H1 _ I1 q1) fun u s2 ⟨y, H2, I2, r2, q2⟩ =>
    thn (ho pins s2 σ H2 x y v u _ I2 r1 r2 q2) fun c s3 ⟨z, H3, I3, r3, k, e, q3⟩ => ?_) hm
  subst e
  cases r3
  exact wpAny_truthy_bool ⟨H3, I3, q3⟩
/-- a value's truth by the abstract heap -/
noncomputable def TruV (K : PySem.W.Frag) (x : V) (H : Hp) (k : Bool) : Prop :=
  match x with
  | .non => k = false
  | .bl b => k = b
  | .int i => k = (i != 0)
  | .str y => y.length ≤ sizeLine ∧ k = ((y.length : Int) != 0)
  | .byt y => y.size ≤ sizeLine ∧ k = ((y.size : Int) != 0)
  | .ref p => (∃ xs, SqL K H p xs ∧ k = !xs.isEmpty) ∨ (∃ xs, SqT K H p xs ∧ k = !xs.isEmpty) ∨ ∃ kvs, H p = some (.dK kvs) ∧ k = !kvs.isEmpty
  | _ => False
theorem isEmpty_kv {κ : Type} {kvs : List (κ × V)} {vs : List (κ × Value)} (r : KV kvs vs) : (!vs.isEmpty) = !kvs.isEmpty := by
  cases r <;> rfl
theorem isEmpty_of {xs : List V} {its : List Value} (r : Vals xs its) : (!its.toArray.isEmpty) = !xs.isEmpty := by
  cases r <;> simp
theorem line63 : (sizeLine : Nat) < 2 ^ 63 := by rw [sizeLine_eq]; decide
theorem tru_ok : TruR X (fun x H Q => ∃ k, TruV X.K x H k ∧ Q k H) := by
  intro pins s σ H x v Q I rx h
  obtain ⟨k, e, q⟩ := h
  have hl := line63
  have hs : sizeLine = 16777216 := sizeLine_eq
  cases x with
  | non =>
    cases rx
    have e' : k = false := e
    subst e'
    exact truthy_none ⟨H, I, q⟩
  | bl b =>
    cases rx
    have e' : k = b := e
    subst e'
    exact wpAny_truthy_bool ⟨H, I, q⟩
  | int i =>
    obtain ⟨t, rfl⟩ := rx
    have e' : k = (i != 0) := e
    subst e'
    exact PySem.P.truthy_int ⟨H, I, q⟩
  | str y =>
    obtain ⟨t, rfl⟩ := rx
    obtain ⟨hy, e'⟩ : y.length ≤ sizeLine ∧ k = ((y.length : Int) != 0) := e
    subst e'
    exact PySem.P.truthy_str (by lia) ⟨H, I.tok _, q⟩
  | byt y =>
    obtain ⟨t, rfl⟩ := rx
    obtain ⟨hy, e'⟩ : y.size ≤ sizeLine ∧ k = ((y.size : Int) != 0) := e
    subst e'
    exact PySem.W.truthy_bytes (by lia) ⟨H, I.tok _, q⟩
  | ref p =>
    cases rx
    have e' : (∃ xs, SqL X.K H p xs ∧ k = !xs.isEmpty) ∨ (∃ xs, SqT X.K H p xs ∧ k = !xs.isEmpty) ∨ ∃ kvs, H p = some (.dK kvs) ∧ k = !kvs.isEmpty := e
    rcases e' with ⟨xs, hx, e'⟩ | ⟨xs, hx, e'⟩ | ⟨kvs, hx, e'⟩
    · subst e'
      obtain ⟨its, r, pl, hz⟩ := I.list hx
      have hlen := r.length
      exact wpAny_truthy_list pl.isList (by simp only [List.size_toArray]; lia) ⟨H, I.tok _, by rw [isEmpty_of r]; exact q⟩
    · subst e'
      obtain ⟨its, r, pl, hz⟩ := I.tuple hx
      have hlen := r.length
      exact truthy_tuple pl (by simp only [List.size_toArray]; lia) ⟨H, I.tok _, by rw [isEmpty_of r]; exact q⟩
    · subst e'
      obtain ⟨hz, hS, vs, r, m⟩ : kvs.length ≤ sizeLine ∧ (p == sysModules) = false ∧ ∃ vs, KV kvs vs ∧ s.heap.DictOf (mixKind X.prog X.w) p vs := I.hok p _ hx
      have hlen : kvs.length = vs.length := Paired.length r
      exact wpAny_truthy_dict hS m (by lia) ⟨H, I.tok _, by rw [isEmpty_kv r]; exact q⟩
  | _ => exact (show False from e).elim
/-- any expression whose test is its value's truth (a name, a call, a subscript, a field ..: he by fun _ => rfl) -/
theorem pt_truth (ha : PE X a ta) (he : ∀ whole, isTrue a X.env whole = (do let v ← whole; standAt a.pos; holding [v] (truthy v))) :
    PT X a (fun σ H Q => ta σ H fun x H' => ∃ k, TruV X.K x H' k ∧ Q k H') := by
  intro pins s σ H Q I h
  exact isTrue_plain (thn (ha pins s σ H _ I h) fun v s1 ⟨x, H1, I1, r1, q1⟩ => tru_ok pins s1 σ H1 x v Q I1 r1 q1) (he _)
theorem op_add_str : OpR X (binaryOp .Add) (fun x y H Q => ∃ i j, x = .str i ∧ y = .str j ∧ i.length + j.length ≤ sizeLine ∧ Q (.str (i ++ j)) H) := by
  intro pins s σ H x y v u Q I rx ry h
  obtain ⟨i, j, rfl, rfl, hz, q⟩ := h
  obtain ⟨t, rfl⟩ := rx
  obtain ⟨t', rfl⟩ := ry
  exact add_str (fun t' tk => ⟨.str (i ++ j), H, I.tok _, ⟨_, rfl⟩, q⟩) hz
theorem vals1 {x : V} {us : List Value} (r : Vals [x] us) : ∃ u, us = [u] ∧ RelV x u := by
  cases r with
  | cons r1 r2 => cases r2; exact ⟨_, rfl, r1⟩
theorem vals2 {x y : V} {us : List Value} (r : Vals [x, y] us) : ∃ u w', us = [u, w'] ∧ RelV x u ∧ RelV y w' := by
  cases r with
  | cons r1 r2 =>
    cases r2 with
    | cons r3 r4 => cases r4; exact ⟨_, _, rfl, r1, r3⟩
theorem call_max2 (hc : X.calm = true) : CallR X (.builtin "max") (fun xs H Q => ∃ i j, xs = [.int i, .int j] ∧ Q (.int (if j > i then j else i)) H) := by
  intro pins s σ H xs us Q I r h
  obtain ⟨i, j, rfl, q⟩ := h
  obtain ⟨u, w', rfl, ⟨t, rfl⟩, ⟨t', rfl⟩⟩ := vals2 r
  refine max_two_ints (I.ok.hd hc) fun h' tk k => ⟨_, H, I.kept k, ?_, q⟩
  by_cases hj : j > i
  · rw [if_pos hj, if_pos hj]; exact ⟨_, rfl⟩
  · rw [if_neg hj, if_neg hj]; exact ⟨_, rfl⟩
theorem call_int1 : CallR X (.type "int") (fun xs H Q => (∃ i, xs = [.int i] ∧ Q (.int i) H) ∨ ∃ k, xs = [.bl k] ∧ Q (.int (if k then 1 else 0)) H) := by
  intro pins s σ H xs us Q I r h
  rcases h with ⟨i, rfl, q⟩ | ⟨k, rfl, q⟩
  · obtain ⟨u, rfl, t, rfl⟩ := vals1 r
    exact call_int_int ⟨.int i, H, I, ⟨_, rfl⟩, q⟩
  · obtain ⟨u, rfl, r1⟩ := vals1 r
    cases r1
    exact call_int_bool ⟨.int (if k then 1 else 0), H, I.tok _, ⟨_, rfl⟩, q⟩
theorem call_str_int : CallR X (.type "str") (fun xs H Q => ∃ i, xs = [.int i] ∧ i.natAbs.log2 < 1920 ∧ Q (.str (toString i)) H) := by
  intro pins s σ H xs us Q I r h
  obtain ⟨i, rfl, hz, q⟩ := h
  obtain ⟨u, rfl, t, rfl⟩ := vals1 r
  exact PySem.P.str_of_int hz ⟨.str _, H, I.tok _, ⟨_, rfl⟩, q⟩
end
end L2
namespace L2
open PySem PySem.Spec PyProof.Rows
structure ObjM (h : Heap) (x dx C : Addr) (mA : Str → Option Value) : Prop where
  obj : h.get? x = some (PySem.W.instObj C dx)
  ns : h.Ns1 dx mA
  ne : dx ≠ x
theorem lookIn_ns {h : Heap} {dx : Addr} {mA : Str → Option Value} (n : h.Ns1 dx mA) : ∃ od, h.get? dx = some od ∧ ∀ name, PySem.W.lookIn name od = some (mA name) := by
  obtain ⟨o, es, ep, ho, hd, hk, _, hm⟩ := n
  refine ⟨o, ho, fun name => ?_⟩
  have e := hm name
  unfold nsFind findBy at e
  rw [← Array.find?_toList] at e
  unfold PySem.W.lookIn
  rw [hd]
  dsimp only
  split
  · rename_i y q
    rw [q] at e
    exact congrArg some e
  · rename_i q
    rw [q] at e
    have a : es.toList.any (·.refKey) = false := by
      rw [List.any_eq_false]
      intro y hy
      obtain ⟨z, t, hkey⟩ := hk y (Array.mem_toList_iff.mp hy)
      simp [DictEntry.refKey, hkey]
    have a' : ¬ es.toList.any (·.refKey) = true := by rw [a]; exact Bool.false_ne_true
    rw [if_neg a']
    exact congrArg some e
theorem ObjM.look {h : Heap} {x dx C : Addr} {mA : Str → Option Value} (I : ObjM h x dx C mA) : ∃ od, PySem.W.InstAt h x (PySem.W.instObj C dx) C (some od) ∧ ∀ name, PySem.W.lookIn name od = some (mA name) :=
  let ⟨od, ho, hl⟩ := lookIn_ns I.ns
  ⟨od, ⟨I.obj, rfl, rfl, ho⟩, hl⟩
theorem RelO.some_of {v : V} {o : Option Value} (r : RelO (some v) o) : ∃ u, o = some u ∧ RelV v u := by
  cases o with
  | none => exact (show False from r).elim
  | some u => exact ⟨u, rfl, r⟩
section
variable {P : Program} {w : World} {H H' : Hp} {h h' : Heap} {a C dx : Addr} {fs fs' : List (Str × V)}
theorem ins_get (hok : HOk P w H h) (e : H a = some (.ins C dx fs)) : ∃ mA, ObjM h a dx C mA ∧ (∀ f, RelO (fs.lookup f) (mA f)) ∧ PySem.Within mA (fs.map (·.1)) ∧ fs.length ≤ 1000 ∧ H dx = some (.own a) := by
  obtain ⟨d, z, ne, ob, mA, n, r, q⟩ := (show ObjOk P w H h a (.ins C dx fs) from hok a _ e)
  exact ⟨mA, ⟨ob, n, ne⟩, r, q, z, d⟩
end
structure Cls (K : PySem.W.Frag) (C : Addr) : Prop where
  pg : PySem.W.plainGet K C Str.empty = true
  hd : PySem.W.hasDictIn K C = true
  po : PySem.W.plainOver K C = true
  sa : PySem.W.findIn K (.ref C) "__setattr__" = some (some (.builtin "object.__setattr__"))
theorem Cls.get {K : PySem.W.Frag} {C : Addr} (c : Cls K C) (f : Str) : PySem.W.plainGet K C f = true := c.pg
/-- a constant of the class -/
structure Con (K : PySem.W.Frag) (C : Addr) (f : Str) (v : V) (u : Value) : Prop where
  at_ : PySem.W.findIn K (.ref C) f = some (some u)
  rel : RelV v u
  get : PySem.W.specialIn K u "__get__" = some none
  cp : PySem.W.copiedNames.contains f = false
/-- a method: a plain def of the class or of one above it -/
structure Meth (K : PySem.W.Frag) (C : Addr) (m : Str) (f : Addr) : Prop where
  at_ : PySem.W.findIn K (.ref C) m = some (some (.ref f))
  fn : PySem.W.isFn K (.ref f) = true
  kp : PySem.W.keepIn K (.ref f) = true
section
variable {X : Cx} {pins : List (Addr × Obj)} {σ : St} {H : Hp} {s : Shared} {A : Around} {E : Value → Shared → Prop} {Q : Value → Shared → Prop} {c : Value} {b : Bool}
/-- the type of a value, as the fragment's deciders take it; for an instance its class -/
inductive TyOf (K : PySem.W.Frag) (H : Hp) : V → Value → Prop where
  | non : TyOf K H .non (.type "NoneType")
  | bl (x : Bool) : TyOf K H (.bl x) (.type "bool")
  | int (i : Int) : TyOf K H (.int i) (.type "int")
  | str (x : Str) : TyOf K H (.str x) (.type "str")
  | flt (x : UInt64) : TyOf K H (.flt x) (.type "float")
  | lst {a : Addr} {xs : List V} (e : H a = some (.lst xs)) : TyOf K H (.ref a) (.type "list")
  | frz {a : Addr} {o : Obj} {xs : List V} (e : H a = some (.frz o (.lst xs))) : TyOf K H (.ref a) (.type "list")
  | tup {a : Addr} {xs : List V} (e : H a = some (.tup xs)) : TyOf K H (.ref a) (.type "tuple")
  | dK {a : Addr} {kvs : List (Key × V)} (e : H a = some (.dK kvs)) : TyOf K H (.ref a) (.type "dict")
  | dT {a : Addr} {kvs : List (List Key × V)} (e : H a = some (.dT kvs)) : TyOf K H (.ref a) (.type "dict")
  | ins {a C dx : Addr} {fs : List (Str × V)} (e : H a = some (.ins C dx fs)) (cl : Cls K C) (ha : PySem.W.findIn K (.ref C) "__class__" = some (some (.builtin "object.__class__")))
      (hn : PySem.W.specialIn K (.builtin "object.__class__") "__get__" = some (some (.builtin "getset_descriptor.__get__"))) (htk : PySem.W.takesIn K (.builtin "object.__class__") = some true)
      (hm : PySem.W.mroIn K C (.type "object") = some true) : TyOf K H (.ref a) (.ref C)
/-- isinstance(x, c) for one class c, a built-in or an own one: kitOne's answer -/
theorem isinst_ok {x : V} {u t : Value} (I : Inv X pins σ H s) (rx : RelV x u) (ty : TyOf X.K H x t) (e : PySem.W.kitOne X.K t c = some b) (h : ∀ tk, Q (.bool b) { s with toks := tk }) :
    wpAny (model X.prog X.w) A (call (.builtin "isinstance") [u, c]) Q E s := by
  cases ty with
  | non => cases (show u = Value.none from rx); exact PySem.W.kia_one PySem.W.kitx_none I.kIn True.intro e (fun z => nomatch z) h
  | bl y => cases (show u = Value.bool y from rx); exact PySem.W.kia_one PySem.W.kitx_bool I.kIn True.intro e (fun z => nomatch z) h
  | int i => obtain ⟨t, q⟩ := (show ∃ t, u = Value.int i t from rx); cases q; exact PySem.W.kia_one PySem.W.kitx_int I.kIn True.intro e (fun z => nomatch z) h
  | str y => obtain ⟨t, q⟩ := (show ∃ t, u = Value.str y t from rx); cases q; exact PySem.W.kia_one PySem.W.kitx_str I.kIn True.intro e (fun z => nomatch z) h
  | flt y => obtain ⟨t, q⟩ := (show ∃ t, u = Value.float y t from rx); cases q; exact PySem.W.kia_one PySem.W.kitx_float I.kIn True.intro e (fun z => nomatch z) h
  | @lst a xs ea =>
    cases (show u = Value.ref a from rx)
    obtain ⟨_, _, n, _, h1⟩ := (show ObjOk X.prog X.w H s.heap a (.lst xs) from I.hok a _ ea)
    exact PySem.W.kia_one PySem.W.kitx_list I.kIn ⟨_, h1, rfl⟩ e (fun z => nomatch z) h
  | @frz a ob xs ea =>
    cases (show u = Value.ref a from rx)
    obtain ⟨_, _, _, n, _, h1⟩ := (show ObjOk X.prog X.w H s.heap a (.frz ob (.lst xs)) from I.hok a _ ea)
    exact PySem.W.kia_one PySem.W.kitx_list I.kIn ⟨_, h1, rfl⟩ e (fun z => nomatch z) h
  | @tup a xs ea =>
    cases (show u = Value.ref a from rx)
    obtain ⟨_, _, _, p⟩ := (show ObjOk X.prog X.w H s.heap a (.tup xs) from I.hok a _ ea)
    obtain ⟨o, h1, h2, _⟩ := p
    exact PySem.W.kia_one PySem.W.kitx_tuple I.kIn ⟨o, h1, h2⟩ e (fun z => nomatch z) h
  | @dK a kvs ea =>
    cases (show u = Value.ref a from rx)
    obtain ⟨_, _, vs, _, p⟩ := (show ObjOk X.prog X.w H s.heap a (.dK kvs) from I.hok a _ ea)
    obtain ⟨o, es, ep, h1, h2, _⟩ := p
    exact PySem.W.kia_one PySem.W.kitx_dict I.kIn ⟨o, h1, h2.1⟩ e (fun z => nomatch z) h
  | @dT a kvs ea =>
    cases (show u = Value.ref a from rx)
    obtain ⟨_, _, xs, _, o, es, ep, h1, h2, _⟩ := (show ObjOk X.prog X.w H s.heap a (.dT kvs) from I.hok a _ ea)
    exact PySem.W.kia_one PySem.W.kitx_dict I.kIn ⟨o, h1, h2.1⟩ e (fun z => nomatch z) h
  | @ins a C dx fs ea cl ha hn htk hm =>
    cases (show u = Value.ref a from rx)
    obtain ⟨mA, O, _⟩ := ins_get I.hok ea
    obtain ⟨od, J, _⟩ := O.look
    exact PySem.W.kia_one (PySem.W.kitx_own (cl.get _) cl.hd ha hn htk hm) I.kIn J e (fun z => nomatch z) h
end
end L2
namespace L2
open PySem PySem.Spec PyProof.Rows
structure Room (k : Nat) (A : Around) : Prop where
  hd : A.handled = none
  dp : A.depth + 3 * k + 5 < recursionLimit
  un : A.units + 16 * k + 200 < cLine
  gd : A.guards = some []
theorem Room.mono {j k : Nat} {A : Around} (r : Room k A) (h : j ≤ k) : Room j A := ⟨r.hd, by have := r.dp; lia, by have := r.un; lia, r.gd⟩
theorem Room.deeper {k : Nat} {A : Around} (r : Room (k + 1) A) (env : Env) : Room k (A.deeper env) :=
  ⟨r.hd, by have := r.dp; show A.depth + 1 + 3 * k + 5 < _; lia, by have := r.un; show A.units + 3 + 16 * k + 200 < _; lia, r.gd⟩
theorem Room.depth {k : Nat} {A : Around} (r : Room k A) : A.depth < recursionLimit := by have := r.dp; lia
theorem Room.units {k : Nat} {A : Around} (r : Room k A) : A.units + 64 < cLine := by have := r.un; lia
noncomputable def tNil : TA := fun _ H Q => Q [] H
noncomputable def tCons (ta : TE) (tr : TA) : TA := fun σ H Q => ta σ H fun x H1 => tr σ H1 fun xs H2 => Q (x :: xs) H2
section
variable {X : Cx} {e : Expr} {es : List Expr} {te : TE} {t : TA} {pos : Pos}
theorem pa_nil : PA X [] tNil := fun _ _ _ _ H Q I h => Calls.spliced_nil ⟨[], H, I, .nil, h⟩
theorem pa_cons (ha : PE X e te) (hr : PA X es t) (hs : starEach (e :: es) X.env = (false, eval e X.env) :: starEach es X.env := by rfl) : PA X (e :: es) (tCons te t) := by
  intro pos pins s σ H Q I h
  rw [hs]
  show wpAny _ _ (spliced ((false, eval e X.env) :: backTo pos (starEach es X.env))) _ _ s
  refine Calls.spliced_cons (thn (ha pins s σ H _ I h) fun u s1 zz => ?_)
  obtain ⟨x, H1, I1, r1, q1⟩ := zz
  exact thn (hr pos pins s1 σ H1 _ I1 q1) fun us s2 ⟨xs, H2, I2, r2, q2⟩ => ⟨x :: xs, H2, I2, .cons r1 r2, q2⟩
/-- a tuple, a list of written items -/
noncomputable def tTup (t : TA) : TE := fun σ H Q => t σ H fun xs H1 => xs.length ≤ sizeLine ∧ ∀ p, H1 p = none → Q (.ref p) (upd H1 p (.tup xs))
noncomputable def tLst (t : TA) : TE := fun σ H Q => t σ H fun xs H1 => xs.length ≤ sizeLine ∧ ∀ p, H1 p = none → Q (.ref p) (upd H1 p (.lst xs))
theorem pe_tup {x1} (h : PA X es t) : PE X (.Tuple es x1 pos) (tTup t) := by
  intro pins s σ H Q I hq
  refine wpAny_Tuple_spliced (thn (h pos pins s σ H _ I hq) fun us s1 ⟨xs, H1, I1, r, z, q⟩ => ⟨by rw [← r.length]; exact z, ?_⟩)
  have hf : H1 s1.heap.objs.size = none := I1.hok.fresh (Nat.le_refl _)
  refine ⟨.ref s1.heap.objs.size, upd H1 s1.heap.objs.size (.tup xs), I1.laid (t' := s1.toks) (fun b u e => Heap.get?_push_of_some _ e) (Nat.le_refl _) ?_, rfl, q _ hf⟩
  exact ⟨z, us, r, IsTupP.mk' _ _⟩
theorem pe_lst (h : PA X es t) : PE X (.List es pos) (tLst t) := by
  intro pins s σ H Q I hq
  refine wpAny_List_spliced (thn (h pos pins s σ H _ I hq) fun us s1 ⟨xs, H1, I1, r, z, q⟩ => ⟨by rw [← r.length]; exact z, ?_⟩)
  have hf : H1 s1.heap.objs.size = none := I1.hok.fresh (Nat.le_refl _)
  refine ⟨.ref s1.heap.objs.size, upd H1 s1.heap.objs.size (.lst xs), I1.laid (t' := s1.toks) (fun b u e => Heap.get?_push_of_some _ e) (Nat.le_refl _) ?_, rfl, q _ hf⟩
  exact ⟨z, us, 0, r, Heap.get?_push_size _ rfl⟩
end
/-- a def's promise: the bound arguments in the parameters' order, the heap, the wanted end, the wanted exception -/
noncomputable abbrev Sp := List V → Hp → VK → XK → Prop
/-- how an exception lies behind a call (file 08 gives it): the callers' frames, abstract heap and state ahead of the call, the wish, the exception, the state -/
noncomputable abbrev CXT := List Env → Hp → Shared → XK → Value → Shared → Prop
/-- the state at a call -/
structure Env0 (P : Program) (w : World) (K : PySem.W.Frag) (mg : Str → Option Value) (base : Heap) (A : Around) (outer : List Env) (s : Shared) (H : Hp) : Prop where
  frames : A.frames = some outer
  mod : Mod K mg base
  bs : ∀ b o, base.get? b = some o → s.heap.get? b = some o ∧ H b = none
  bsz : base.objs.size ≤ s.heap.objs.size
  funs : s.heap.FunFrames base outer
  frf : ∀ b ∈ frs outer, H b = none
  hok : HOk P w H s.heap
  bare : AllBare s.gens
/-- a call's end -/
noncomputable def CE (outer : List Env) (P : Program) (w : World) (H : Hp) (s : Shared) (Q : VK) (u : Value) (s' : Shared) : Prop :=
  ∃ v H', s'.os = s.os ∧ AllBare s'.gens ∧ Un (frs outer) [] H H' s.heap s'.heap ∧ HOk P w H' s'.heap ∧ RelV v u ∧ Q v H'
noncomputable def CR (CX : CXT) (outer : List Env) (P : Program) (w : World) (H : Hp) (s : Shared) (Q : VK) (E : XK) (r : Result) (s' : Shared) : Prop :=
  match r with
  | .ok (.ret u) => CE outer P w H s Q u s'
  | .ok _ => False
  | .error e => CX outer H s E e s'
structure FnOk (P : Program) (w : World) (K : PySem.W.Frag) (mg : Str → Option Value) (base : Heap) (CX : CXT) (k : Nat) (f : Addr) (fd : FuncData) (ps : List Str) (sp : Sp) : Prop where
  len : ∀ vs H Q E, sp vs H Q E → vs.length = ps.length
  run : ∀ (A : Around) (outer : List Env) (s : Shared) (H : Hp) (args : Args) (us : List Value) (vs : List V) (Q : VK) (E : XK), Room k A → Env0 P w K mg base A outer s H → BindsTo s fd args (ps.zip us) → Vals vs us → sp vs H Q E →
    codeAny (model P w) A (.call (.ref f) args) (CR CX outer P w H s Q E) s
/-- a weaker promise -/
theorem FnOk.imp {P : Program} {w : World} {K : PySem.W.Frag} {mg : Str → Option Value} {base : Heap} {CX : CXT} {k : Nat} {f : Addr} {fd : FuncData} {ps : List Str} {sp sp' : Sp} (F : FnOk P w K mg base CX k f fd ps sp)
    (h : ∀ vs H Q E, sp' vs H Q E → sp vs H Q E) : FnOk P w K mg base CX k f fd ps sp' :=
  ⟨fun vs H Q E q => F.len vs H Q E (h _ _ _ _ q), fun A outer s H args us vs Q E hr he hb hv hs => F.run A outer s H args us vs Q E hr he hb hv (h _ _ _ _ hs)⟩
section
variable {X : Cx} {pins : List (Addr × Obj)} {σ : St} {H : Hp} {s s' : Shared}
/-- from a body: what a callee wants -/
theorem Inv.env0 (I : Inv X pins σ H s) : Env0 X.prog X.w X.K X.mg X.base X.A X.stack s H :=
  ⟨I.ok.frames, I.ok.mod, I.bs, Nat.le_trans I.ok.bsz I.sz, I.stack, I.stkFree, I.hok, I.bare⟩
/-- behind a call -/
theorem Inv.after {Q : VK} {u : Value} (I : Inv X pins σ H s) (h : CE X.stack X.prog X.w H s Q u s') : EP X pins σ Q u s' := by
  obtain ⟨v, H', os, bare, un, hok, r, q⟩ := h
  obtain ⟨hh, g, d, t, os'⟩ := s'
  obtain rfl : os' = s.os := os
  exact ⟨v, H', I.call (h' := hh) (g' := g) (d' := d) (t' := t) (ch := []) un hok bare (fun b z => absurd z (by simp)), r, q⟩
end
/-- f(..): the written arguments, then the defaults dvs; E: what is wanted of an exception -/
noncomputable def tCall (sp : Sp) (dvs : List V) (E : XK) (t : TA) : TE := fun σ H Q => t σ H fun vs H1 => sp (vs ++ dvs) H1 Q E
/-- how the parameters are bound: us the positional arguments, kw the keywords' values by name, ds the defaults that fill up -/
noncomputable def Binds (K : PySem.W.Frag) (fd : FuncData) (ps : List Str) (ds : List Value) : Prop :=
  ∀ (s : Shared) (us : List Value), K.In s.heap → (us ++ ds).length = ps.length → BindsTo s fd ⟨us, []⟩ (ps.zip (us ++ ds))
/-- every parameter is given -/
theorem Binds.all {K : PySem.W.Frag} {fd : FuncData} {ps : List Str} (h : ∀ us : List Value, us.length = ps.length → bindArgs fd ⟨us, []⟩ = pure (ps.zip us)) : Binds K fd ps [] := fun s us _ hl => by
  rw [List.append_nil] at hl ⊢
  exact .of_eq (h us hl)
/-- an exception of a callee reaches what this body wants of exceptions -/
noncomputable def Passes (CX : CXT) (X : Cx) (E : XK) : Prop := ∀ (pins : List (Addr × Obj)) (σ : St) (H : Hp) (s : Shared) (e : Value) (s' : Shared), Inv X pins σ H s → CX X.stack H s E e s' → X.xe e s'
section
variable {X : Cx} {CX : CXT} {k : Nat} {f C : Addr} {fd : FuncData} {ps : List Str} {sp : Sp} {dvs : List V} {ds : List Value} {E : XK} {x m : Str} {p pos apos : Pos} {e o : Expr} {es : List Expr} {ta : TE} {t : TA}
/-- the callee runs -/
theorem run_fn {pins : List (Addr × Obj)} {σ : St} {H : Hp} {s : Shared} {Q : VK} {us : List Value} {vs : List V} (F : FnOk X.prog X.w X.K X.mg X.base CX k f fd ps sp) (hr : Room k X.A) (hb : Binds X.K fd ps ds) (hd : Vals dvs ds) (hx : Passes CX X E)
    (I : Inv X pins σ H s) (r : Vals vs us) (h : sp (vs ++ dvs) H Q E) : wpAny (model X.prog X.w) X.A (call (.ref f) us) (EP X pins σ Q) X.xe s := by
  have r2 : Vals (vs ++ dvs) (us ++ ds) := r.append hd
  have hl : (us ++ ds).length = ps.length := by rw [← r2.length]; exact F.len _ _ _ _ h
  refine wpAny_call (codeAny_mono (F.run X.A X.stack s H ⟨us, []⟩ (us ++ ds) (vs ++ dvs) Q E hr I.env0 (hb s us I.kIn hl) r2 h) fun r s' hq => ?_)
  cases r with
  | error e => exact hx pins σ H s e s' I hq
  | ok fl =>
    cases fl with
    | ret u => exact I.after hq
    | next => exact False.elim hq
    | brk => exact False.elim hq
    | cont => exact False.elim hq
theorem pe_call (F : FnOk X.prog X.w X.K X.mg X.base CX k f fd ps sp) (hr : Room k X.A) (hg : Gl X x) (hm : X.mg x = some (.ref f)) (hk : PySem.W.keepIn X.K (.ref f) = true) (hb : Binds X.K fd ps ds) (hd : Vals dvs ds) (hx : Passes CX X E)
    (ha : PA X (e :: es) t) (hdb : (x == ("__debug__" : Str)) = false := by decide) (he : starEach (e :: es) X.env = (false, eval e X.env) :: starEach es X.env := by rfl) (hpl : (backTo pos (starEach es X.env)).any (·.1) = false := by rfl) :
    PE X (.Call (.Name x p) (e :: es) [] pos) (tCall sp dvs E t) := by
  intro pins s σ H Q I h
  refine wpAny_Call_Name_kw (ld_glob I hg hm ?_ hdb)
  refine PySem.W.callWith_K (h₀ := X.base) I.ok.mod.kin hk (thn (ha pos pins s σ H _ I h) fun us s1 ⟨vs, H1, I1, r, q⟩ => ⟨I1.kIn, ?_⟩) he hpl
  exact run_fn F hr hb hd hx I1 r q
/-- what a class must have to be made -/
structure Mk (K : PySem.W.Frag) (C f : Addr) : Prop where
  makes : PySem.W.makesIn K C = true
  init : PySem.W.findIn K (.ref C) "__init__" = some (some (.ref f))
  fn : PySem.W.isFn K (.ref f) = true
  kp : PySem.W.keepIn K (.ref C) = true
end
section
variable {X : Cx} {CX : CXT} {k : Nat} {f C : Addr} {fd : FuncData} {ps ks : List Str} {sp : Sp} {E : XK} {x m : Str} {p pos apos kpos : Pos} {e o : Expr} {es : List Expr} {kws : List Keyword} {te ta : TE} {t tk : TA} {nm : Option Str}
/-- how a call with keywords binds: g puts the positional values us and the keywords' values ws (names ks) in the parameters' order, defaults among them -/
structure KBinds (K : PySem.W.Frag) (fd : FuncData) (ps ks : List Str) (g : List Value → List Value → List Value) (gV : List V → List V → List V) : Prop where
  to : ∀ (s : Shared) (us ws : List Value), K.In s.heap → (g us ws).length = ps.length → BindsTo s fd ⟨us, ks.zip ws⟩ (ps.zip (g us ws))
  rel : ∀ {vs : List V} {us : List Value} {zs : List V} {ws : List Value}, Vals vs us → Vals zs ws → Vals (gV vs zs) (g us ws)
variable {g : List Value → List Value → List Value} {gV : List V → List V → List V}
end
/-- names: the parameters first -/
structure FnScope (N P : List Str) (sc : Scope) : Prop where
  kind : sc.kind = .function
  co : sc.isCoroutine = false
  gen : sc.isGenerator = false
  nd : N.Nodup
  pre : N.take P.length = P
  par : ∀ x ∈ P, sc.names.lookup x = some .local ∨ sc.names.lookup x = some .cell
  nofree : ∀ y ∈ sc.names, y.2 ≠ .free
theorem bindL_out {kindOf : Str → Option NameKind} {x : Str} : ∀ {binds : List (Str × Value)} {m : Str → Option Value}, (∀ v, (x, v) ∉ binds) → bindL kindOf binds m x = m x
  | [], _, _ => rfl
  | (n, v) :: r, m, h => by
    unfold bindL
    rw [bindL_out fun w hw => h w (List.mem_cons_of_mem _ hw)]
    split
    · have : x ≠ n := by rintro rfl; exact h v List.mem_cons_self
      simp [this]
    · rfl
theorem bindC_out {kindOf : Str → Option NameKind} {x : Str} : ∀ {binds : List (Str × Value)} {m : Str → Option Value}, (∀ v, (x, v) ∉ binds) → bindC kindOf binds m x = m x
  | [], _, _ => rfl
  | (n, v) :: r, m, h => by
    unfold bindC
    rw [bindC_out fun w hw => h w (List.mem_cons_of_mem _ hw)]
    split
    · rfl
    · have : x ≠ n := by rintro rfl; exact h v List.mem_cons_self
      simp [this]
theorem bindL_get {kindOf : Str → Option NameKind} {x : Str} {v : Value} : ∀ {P : List Str} {vs : List Value} {i : Nat} {m : Str → Option Value}, P.Nodup → P[i]? = some x → vs[i]? = some v → kindOf x = some .local →
    bindL kindOf (P.zip vs) m x = some v
  | [], _, _, _, _, h, _, _ => by simp at h
  | _ :: _, [], _, _, _, _, h, _ => by simp at h
  | p :: P, w :: vs, 0, m, nd, h1, h2, hk => by
    simp at h1 h2; subst h1; subst h2
    show bindL kindOf ((p, w) :: P.zip vs) m p = _
    unfold bindL
    rw [bindL_out fun v hv => (List.nodup_cons.mp nd).1 (List.of_mem_zip hv).1, if_pos hk]
    simp
  | p :: P, w :: vs, i + 1, m, nd, h1, h2, hk => by
    show bindL kindOf ((p, w) :: P.zip vs) m x = _
    unfold bindL
    exact bindL_get (i := i) (List.nodup_cons.mp nd).2 (by simpa using h1) (by simpa using h2) hk
theorem bindC_get {kindOf : Str → Option NameKind} {x : Str} {v : Value} : ∀ {P : List Str} {vs : List Value} {i : Nat} {m : Str → Option Value}, P.Nodup → P[i]? = some x → vs[i]? = some v → kindOf x ≠ some .local →
    bindC kindOf (P.zip vs) m x = some v
  | [], _, _, _, _, h, _, _ => by simp at h
  | _ :: _, [], _, _, _, _, h, _ => by simp at h
  | p :: P, w :: vs, 0, m, nd, h1, h2, hk => by
    simp at h1 h2; subst h1; subst h2
    show bindC kindOf ((p, w) :: P.zip vs) m p = _
    unfold bindC
    rw [bindC_out fun v hv => (List.nodup_cons.mp nd).1 (List.of_mem_zip hv).1, if_neg hk]
    simp
  | p :: P, w :: vs, i + 1, m, nd, h1, h2, hk => by
    show bindC kindOf ((p, w) :: P.zip vs) m x = _
    unfold bindC
    exact bindC_get (i := i) (List.nodup_cons.mp nd).2 (by simpa using h1) (by simpa using h2) hk
/-- the names' values at the entry -/
noncomputable def start (N : List Str) (vs : List V) : St := vs.map some ++ List.replicate (N.length - vs.length) none
/-- the context of a def's body, at its entry; an exception leaves the frame, then lies as CX says -/
noncomputable def cxOf (CX : CXT) (P : Program) (w : World) (K : PySem.W.Frag) (mg : Str → Option Value) (base : Heap) (N : List Str) (qual : Str) (scope : Scope) (f : Addr) (cd : Value) (A : Around) (outer : List Env) (s : Shared) (H : Hp) (E : XK) : Cx where
  prog := P
  w := w
  K := K
  mg := mg
  base := base
  A := A.deeper (envOfC qual scope s.heap.objs.size f cd)
  N := N
  s₀ := s
  H₀ := H
  env := envOfC qual scope s.heap.objs.size f cd
  outer := outer
  stack := envOfC qual scope s.heap.objs.size f cd :: outer
  ex := []
  calm := true
  fn := fun _ => true
  pn := []
  xe := fun e s' => wpAny (model P w) (A.deeper (envOfC qual scope s.heap.objs.size f cd)) (leaving (envOfC qual scope s.heap.objs.size f cd) e) (fun _ s'' => CX outer H s E e s'') (fun e' s'' => CX outer H s E e' s'') s'
theorem cell_has {sc : Scope} {n : Nat} {x : Str} (h : sc.names.lookup x = some .cell) : ∃ c, (cellsFrom n sc.names []).lookup x = some c := by
  have q := PySem.W.cellsFrom_some sc.names n [] (.inl h)
  exact Option.isSome_iff_exists.mp q
theorem inv_start {CX : CXT} {P : Program} {w : World} {K : PySem.W.Frag} {mg : Str → Option Value} {base : Heap} {N ps : List Str} {qual : Str} {scope : Scope} {f : Addr} {cd : Value} {A : Around} {outer : List Env} {s s1 : Shared} {H : Hp} {E : XK} {us : List Value} {vs : List V}
    (S : FnScope N ps scope) (hd : A.handled = none) (e0 : Env0 P w K mg base A outer s H) (hl : vs.length = ps.length) (r : Vals vs us)
    (x : InCallC s s.heap.objs.size (bindL (envOfC qual scope s.heap.objs.size f cd).kindOf (ps.zip us) fun _ => none) (cellsFrom (s.heap.objs.size + 1) scope.names []) (bindC (envOfC qual scope s.heap.objs.size f cd).kindOf (ps.zip us) fun _ => none) s1) :
    Inv (cxOf CX P w K mg base N qual scope f cd A outer s H E) [] (start N vs) H s1 := by
  have hpl : ps.length ≤ N.length := by have := congrArg List.length S.pre; rw [List.length_take] at this; lia
  obtain ⟨h1, tk, rfl, hk⟩ := x.done
  have noA : ∀ b : Addr, b ∉ (cxOf CX P w K mg base N qual scope f cd A outer s H E).ex := fun b z => absurd (show b ∈ ([] : List Addr) from z) (by simp)
  refine ⟨⟨e0.mod, S.kind, rfl, rfl, Nat.le_refl _, fun y z c h1 h2 => ?_, fun y hy => ?_, fun y c _ h => ?_, fun _ => hd, Around.frames_deeper e0.frames, .inr ⟨rfl, rfl⟩, fun b z => absurd z (noA b), e0.bs, e0.bsz, fun b _ _ => noA b, fun b z => absurd z (noA b), e0.funs, e0.frf⟩,
    rfl, e0.bare, Un.kept hk, ⟨_, x.toInCall.ns, fun i y v h1 h2 h3 => ?_⟩, fun y c h => ⟨_, x.cell y c h⟩, e0.hok.fresh (Nat.le_refl _), fun y c h => ?_, fun p hp => absurd (show p ∈ ([] : List (Addr × Obj)) from hp) (by simp), e0.hok.kept hk, ?_⟩
  · exact name_of_addr x.apart (PySem.mem_of_lookup h1) (PySem.mem_of_lookup h2)
  · have hy : scope.names.lookup y = some .cell ∨ scope.names.lookup y = some .free := hy
    rcases hy with hy | hy
    · exact cell_has hy
    · exact absurd rfl (S.nofree _ (PySem.mem_of_lookup hy))
  · exact Nat.le_of_lt (x.above y c (PySem.mem_of_lookup h))
  · have hi : i < vs.length := by
      unfold start at h2
      by_cases hi : i < vs.length
      · exact hi
      · rw [List.getElem?_append_right (by simpa using hi)] at h2
        rw [List.getElem?_replicate] at h2
        split at h2 <;> cases h2
    have ha : vs[i]? = some v := by
      unfold start at h2
      rw [List.getElem?_append_left (by simpa using hi), List.getElem?_map] at h2
      cases e : vs[i]? with
      | none => rw [e] at h2; cases h2
      | some a => rw [e] at h2; cases h2; rfl
    obtain ⟨u, hu, rv⟩ := r.get ha
    have hp : ps[i]? = some y := by
      rw [← S.pre, List.getElem?_take_of_lt (by lia)]; exact h1
    have ndP : ps.Nodup := by rw [← S.pre]; exact S.nd.sublist (List.take_sublist _ _)
    refine ⟨u, rv, ?_⟩
    rcases S.par y (List.mem_of_getElem? hp) with k | k
    · exact .inl ⟨k, bindL_get ndP hp hu k⟩
    · obtain ⟨c, e⟩ := cell_has (n := s.heap.objs.size + 1) k
      refine .inr ⟨.inl k, c, e, ?_⟩
      have q := x.cell y c e
      rw [bindC_get ndP hp hu (by show scope.names.lookup y ≠ _; rw [k]; decide)] at q
      exact q
  · exact e0.hok.fresh (Nat.le_of_lt (x.above y c (PySem.mem_of_lookup h)))
  · unfold start
    show _ = N.length
    rw [List.length_append, List.length_map, List.length_replicate]
    lia
/-- THE RULE: a def (or a method) of the text, by its body. The body's reading t is chosen for each entry; it is run at the parameters' values -/
theorem fn_of {CX : CXT} {P : Program} {w : World} {K : PySem.W.Frag} {mg : Str → Option Value} {base : Heap} {k : Nat} {f : Addr} {name qual : Str} {params : Arguments} {body : List Stmt} {scope : Scope} {dV kV doc pm cdv ct oc : Value} {an od : Option Addr}
    {osl : Array (Option Value)} {N ps : List Str} {sp : Sp} (lk : K.lookup f = some ⟨oc, od, .func (PySem.W.fnOf name qual params body scope dV kV doc pm an cdv ct), osl⟩) (hcd : PySem.W.codeIn K cdv qual = true) (S : FnScope N ps scope)
    (len : ∀ vs H Q E, sp vs H Q E → vs.length = ps.length)
    (hbody : ∀ (A : Around) (outer : List Env) (s : Shared) (H : Hp) (vs : List V) (Q : VK) (E : XK), Room k (A.deeper (envOfC qual scope s.heap.objs.size f cdv)) → sp vs H Q E →
      ∃ t, PSs (cxOf CX P w K mg base N qual scope f cdv A outer s H E) body t ∧ t { nx := fun _ H' => Q .non H', rt := Q } (start N vs) H) :
    FnOk P w K mg base CX (k + 1) f (PySem.W.fnOf name qual params body scope dV kV doc pm an cdv ct) ps sp := by
  refine ⟨len, fun A outer s H args us vs Q E hr e0 hb r hsp => ?_⟩
  have hl := len _ _ _ _ hsp
  have KX : K.In s.heap := e0.mod.kin.keeps fun b o e => (e0.bs b o e).1
  have lim : s.heap.NoLimit := e0.mod.nolimit.keeps fun b o e => (e0.bs b o e).1
  have hkind : ∀ y ∈ ps.zip us, scope.names.lookup y.1 = some .local ∨ (scope.names.lookup y.1 = some .cell ∧ ((cellsFrom (s.heap.objs.size + 1) scope.names []).lookup y.1).isSome = true) := fun zz hy => by
    obtain ⟨n, v⟩ := zz
    rcases S.par n (List.of_mem_zip hy).1 with q | q
    · exact .inl q
    · exact .inr ⟨q, PySem.W.cellsFrom_some _ _ _ (.inl q)⟩
  refine codeAny_call_function hr.depth (KX _ _ lk) rfl S.co S.gen rfl (PySem.W.codeRec_of KX hcd) (hb _ _ _ _ ?_)
  refine wpAny_newFunctionEnv_cells S.kind hkind fun env he s1 x => ?_
  subst he
  refine ⟨lim.keeps x.toInCall.keep, codeAny_func ?_⟩
  obtain ⟨t, ht, hq⟩ := hbody A outer s H vs Q E (hr.deeper _) hsp
  have I : Inv (cxOf CX P w K mg base N qual scope f cdv A outer s H E) [] (start N vs) H s1 := inv_start S hr.hd e0 hl r x
  refine wpAny_mono (ht [] s1 (start N vs) H _ I hq) (fun fl s' hs => ?_) fun e s' hs => hs
  have fin : ∀ {σ' : St} {H' : Hp} {v : V} {u : Value}, Inv (cxOf CX P w K mg base N qual scope f cdv A outer s H E) [] σ' H' s' → RelV v u → Q v H' → CE outer P w H s Q u s' :=
    fun {σ' H' v u} J rv q => ⟨v, H', J.os, J.bare, J.base, J.hok, rv, q⟩
  cases fl with
  | ret u =>
    obtain ⟨v, σ', H', J, rv, q⟩ := hs
    exact fin J rv q
  | next =>
    obtain ⟨σ', H', J, q⟩ := hs
    exact fin (v := V.non) (u := Value.none) J rfl q
  | brk =>
    obtain ⟨_, _, _, q⟩ := hs
    exact False.elim q
  | cont =>
    obtain ⟨_, _, _, q⟩ := hs
    exact False.elim q
end L2
namespace L2
open PySem PySem.Spec PyProof.Rows
section
variable {X : Cx} {x : Str} {p pos : Pos} {e : Expr} {es : List Expr} {t : TA} {id T : String} {r : List V → Hp → VK → Prop}
noncomputable def tCB (r : List V → Hp → VK → Prop) (t : TA) : TE := fun σ H Q => t σ H fun vs H1 => r vs H1 Q
/-- f(e, ..), f a built-in function -/
theorem pe_callB (hc : CallR X (.builtin id) r) (hg : Gl X x) (hm : X.mg x = none) (hv : bootBuiltins x = some (.builtin id)) (ha : PA X (e :: es) t) (hn : x ≠ "__name__" := by decide) (hdb : (x == ("__debug__" : Str)) = false := by decide)
    (he : starEach (e :: es) X.env = (false, eval e X.env) :: starEach es X.env := by rfl) (hpl : (backTo pos (starEach es X.env)).any (·.1) = false := by rfl) : PE X (.Call (.Name x p) (e :: es) [] pos) (tCB r t) := by
  intro pins s σ H Q I h
  refine wpAny_Call_Name_kw (ld_blt I hg hm hv ?_ hn hdb)
  exact PyProof.Rows.callWith_builtin1 (thn (ha pos pins s σ H _ I h) fun us s1 ⟨vs, H1, I1, r1, q1⟩ => hc pins s1 σ H1 vs us Q I1 r1 q1) he hpl
/-- T(e, ..), T a built-in type -/
theorem pe_callTy (hc : CallR X (.type T) r) (hg : Gl X x) (hm : X.mg x = none) (hv : bootBuiltins x = some (.type T)) (ha : PA X (e :: es) t) (hn : x ≠ "__name__" := by decide) (hdb : (x == ("__debug__" : Str)) = false := by decide)
    (he : starEach (e :: es) X.env = (false, eval e X.env) :: starEach es X.env := by rfl) (hpl : (backTo pos (starEach es X.env)).any (·.1) = false := by rfl) : PE X (.Call (.Name x p) (e :: es) [] pos) (tCB r t) := by
  intro pins s σ H Q I h
  refine wpAny_Call_Name_kw (ld_blt I hg hm hv ?_ hn hdb)
  exact PyProof.Rows.callWith_type1 (thn (ha pos pins s σ H _ I h) fun us s1 ⟨vs, H1, I1, r1, q1⟩ => hc pins s1 σ H1 vs us Q I1 r1 q1) he hpl
end
end L2
namespace L2
open PySem PySem.Spec PyProof.Rows
section
variable {κ : Type} [DecidableEq κ]
noncomputable def valV (kvs : List (κ × V)) (k : κ) : Option V := (kvs.find? fun kv => decide (kv.1 = k)).map (·.2)
/-- in its place, or at the end -/
noncomputable def putK (kvs : List (κ × V)) (k : κ) (v : V) : List (κ × V) :=
  if (kvs.any fun kv => decide (kv.1 = k)) = true then kvs.map (fun kv => if kv.1 = k then (kv.1, v) else kv) else kvs ++ [(k, v)]
theorem valV_pos {p : κ × V} {r : List (κ × V)} {k : κ} (e : p.1 = k) : valV (p :: r) k = some p.2 := by simp [valV, List.find?_cons, e]
theorem valV_neg {p : κ × V} {r : List (κ × V)} {k : κ} (e : ¬ p.1 = k) : valV (p :: r) k = valV r k := by simp [valV, List.find?_cons, e]
theorem valV_any (k : κ) : ∀ kvs : List (κ × V), (kvs.any fun kv => decide (kv.1 = k)) = (valV kvs k).isSome
  | [] => rfl
  | p :: r => by
    rw [List.any_cons]
    by_cases e : p.1 = k
    · simp only [valV_pos e, decide_eq_true e, Bool.true_or, Option.isSome_some]
    · rw [valV_neg e, decide_eq_false e, Bool.false_or]; exact valV_any k r
theorem length_putK (kvs : List (κ × V)) (k : κ) (v : V) : (putK kvs k v).length ≤ kvs.length + 1 := by
  unfold putK
  split
  · rw [List.length_map]; lia
  · rw [List.length_append, List.length_cons, List.length_nil]; lia
theorem RelO.isSome_eq {o : Option V} {u : Option Value} (r : RelO o u) : o.isSome = u.isSome := by
  cases o with
  | none => cases u with
    | none => rfl
    | some _ => exact (show False from r).elim
  | some _ => cases u with
    | none => exact (show False from r).elim
    | some _ => rfl
/-- raw tables of the same keys -/
theorem KV.val {kvs : List (κ × V)} {vs : List (κ × Value)} (r : KV kvs vs) (k : κ) : RelO (valV kvs k) (valueAt vs k) := by
  unfold KV at r
  induction r with
  | nil => exact True.intro
  | @cons p q ps qs h t ih =>
    obtain ⟨h1, h2⟩ := h
    by_cases e : p.1 = k
    · have e' : q.1 = k := h1.symm.trans e
      have b : valueAt (q :: qs) k = some q.2 := by simp [valueAt, List.find?_cons, e']
      rw [valV_pos e, b]; exact h2
    · have e' : ¬ q.1 = k := fun z => e (h1.trans z)
      have b : valueAt (q :: qs) k = valueAt qs k := by simp [valueAt, List.find?_cons, e']
      rw [valV_neg e, b]; exact ih
theorem KV.any {kvs : List (κ × V)} {vs : List (κ × Value)} (r : KV kvs vs) (k : κ) : (kvs.any fun kv => decide (kv.1 = k)) = vs.any fun kv => decide (kv.1 = k) := by
  unfold KV at r
  induction r with
  | nil => rfl
  | cons h t ih => rw [List.any_cons, List.any_cons, ih, h.1]
theorem KV.repl {kvs : List (κ × V)} {vs : List (κ × Value)} (r : KV kvs vs) (k : κ) {y : V} {u : Value} (ry : RelV y u) :
    KV (kvs.map fun kv => if kv.1 = k then (kv.1, y) else kv) (vs.map fun kv => if kv.1 = k then (kv.1, u) else kv) := by
  unfold KV at r ⊢
  induction r with
  | nil => exact .nil
  | @cons p q ps qs h t ih =>
    rw [List.map_cons, List.map_cons]
    refine .cons ?_ ih
    obtain ⟨h1, h2⟩ := h
    by_cases e : p.1 = k
    · rw [if_pos e, if_pos (h1.symm.trans e)]; exact ⟨h1, ry⟩
    · rw [if_neg e, if_neg (fun z => e (h1.trans z))]; exact ⟨h1, h2⟩
theorem KV.put {kvs : List (κ × V)} {vs : List (κ × Value)} (r : KV kvs vs) (k : κ) {y : V} {u : Value} (ry : RelV y u) : KV (putK kvs k y) (stored vs k u) := by
  unfold putK stored
  rw [r.any k]
  by_cases e : (vs.any fun kv => decide (kv.1 = k)) = true
  · rw [if_pos e, if_pos e]; exact r.repl k ry
  · rw [if_neg e, if_neg e]; exact Paired.snoc r ⟨rfl, ry⟩
theorem KV.length {kvs : List (κ × V)} {vs : List (κ × Value)} (r : KV kvs vs) : kvs.length = vs.length := Paired.length r
end
theorem kV_is {P : Program} {w : World} {k : Key} {u : Value} (r : RelV (kV k) u) : (mixKind P w).is k u = true := by
  cases k with
  | inl i => obtain ⟨t, e⟩ := (show ∃ t, u = Value.int i t from r); subst e; exact mixKind_int P w i t
  | inr x => obtain ⟨t, e⟩ := (show ∃ t, u = Value.str x t from r); subst e; exact mixKind_str P w x t
theorem items_are {P : Program} {w : World} : ∀ {ks : List Key} {us : List Value}, Vals (ks.map kV) us → ItemsAre (mixKind P w) ks us
  | [], _, r => by rw [List.map_nil] at r; cases r; exact .nil
  | k :: ks, _, r => by
    rw [List.map_cons] at r
    cases r with
    | cons h t => exact .cons (kV_is h) (items_are t)
/-- raw entries of a dict with tuple keys -/
noncomputable abbrev KT (H : Hp) : List (List Key × V) → List (List Key × Addr × Value) → Prop := Paired fun p q => p.1 = q.1 ∧ H q.2.1 = some (.tup (p.1.map kV)) ∧ RelV p.2 q.2.2
theorem KT.val {H : Hp} {kvs : List (List Key × V)} {xs : List (List Key × Addr × Value)} (r : KT H kvs xs) (k : List Key) : RelO (valV kvs k) ((atKey xs k).map (·.2)) := by
  induction r with
  | nil => exact True.intro
  | @cons p q ps qs h t ih =>
    obtain ⟨h1, _, h2⟩ := h
    by_cases e : p.1 = k
    · have e' : q.1 = k := h1.symm.trans e
      have b : atKey (q :: qs) k = some q.2 := by simp [atKey, List.find?_cons, e']
      rw [valV_pos e, b]; exact h2
    · have e' : ¬ q.1 = k := fun z => e (h1.trans z)
      have b : atKey (q :: qs) k = atKey qs k := by simp [atKey, List.find?_cons, e']
      rw [valV_neg e, b]; exact ih
theorem KT.repl {H : Hp} {kvs : List (List Key × V)} {xs : List (List Key × Addr × Value)} (r : KT H kvs xs) (k : List Key) {y : V} {u : Value} (ry : RelV y u) :
    KT H (kvs.map fun kv => if kv.1 = k then (kv.1, y) else kv) (xs.map (putAt k u)) := by
  induction r with
  | nil => exact .nil
  | @cons p q ps qs h t ih =>
    rw [List.map_cons, List.map_cons]
    refine .cons ?_ ih
    obtain ⟨h1, h2, h3⟩ := h
    unfold putAt
    by_cases e : p.1 = k
    · rw [if_pos e, if_pos (h1.symm.trans e)]; exact ⟨h1, h2, ry⟩
    · rw [if_neg e, if_neg (fun z => e (h1.trans z))]; exact ⟨h1, h2, h3⟩
theorem KT.put {H : Hp} {kvs : List (List Key × V)} {xs : List (List Key × Addr × Value)} (r : KT H kvs xs) (k : List Key) {b : Addr} {y : V} {u : Value} (hb : H b = some (.tup (k.map kV))) (ry : RelV y u) :
    KT H (putK kvs k y) (storedH xs k b u) := by
  have e : (kvs.any fun kv => decide (kv.1 = k)) = (atKey xs k).isSome := by
    rw [valV_any, (r.val k).isSome_eq, Option.isSome_map]
  unfold putK storedH
  rw [e]
  by_cases q : (atKey xs k).isSome = true
  · rw [if_pos q, if_pos q]; exact r.repl k ry
  · rw [if_neg q, if_neg q]; exact Paired.snoc r ⟨rfl, hb, ry⟩
theorem KT.keeps {H H' : Hp} {kvs : List (List Key × V)} {xs : List (List Key × Addr × Value)} (r : KT H kvs xs) (ht : ∀ b ys, H b = some (.tup ys) → H' b = some (.tup ys)) : KT H' kvs xs :=
  Paired.mapP r fun _ _ z => ⟨z.1, ht _ _ z.2.1, z.2.2⟩
section
variable {P : Program} {w : World} {H : Hp} {h : Heap} {a : Addr}
theorem rd_of {u : HO} (ok : HOk P w H h) (e : Rd H a u) : ObjOk P w H h a u := e.ok ok
theorem dk_rd {kvs : List (Key × V)} (ok : HOk P w H h) (e : Rd H a (.dK kvs)) : kvs.length ≤ sizeLine ∧ (a == sysModules) = false ∧ ∃ vs, KV kvs vs ∧ h.DictOf (mixKind P w) a vs :=
  show ObjOk P w H h a (.dK kvs) from rd_of ok e
theorem dk_of {kvs : List (Key × V)} (ok : HOk P w H h) (e : H a = some (.dK kvs)) : kvs.length ≤ sizeLine ∧ (a == sysModules) = false ∧ ∃ vs, KV kvs vs ∧ h.DictOf (mixKind P w) a vs := dk_rd ok (.inl e)
/-- a tracked tuple of ints and texts is a key -/
theorem key_of {ks : List Key} (ok : HOk P w H h) (e : H a = some (.tup (ks.map kV))) : (tupleKind (mixKind P w)).is h ks a := by
  obtain ⟨_, its, r, o, h1, h2, _, n, h3⟩ := (show ObjOk P w H h a (.tup (ks.map kV)) from ok a _ e)
  exact ⟨o, its.toArray, n, h1, h2, h3, by simpa using items_are r⟩
theorem dt_rd {kvs : List (List Key × V)} (ok : HOk P w H h) (e : Rd H a (.dT kvs)) : kvs.length ≤ sizeLine ∧ (a == sysModules) = false ∧
    ∃ xs, KT H kvs xs ∧ h.DictOfH (tupleKind (mixKind P w)) a xs := by
  obtain ⟨z, y, xs, r, o, es, ep, h1, h2, h3, h4, h5⟩ := (show ObjOk P w H h a (.dT kvs) from rd_of ok e)
  refine ⟨z, y, xs, r, o, es, ep, h1, h2, h3, h4, fun x hx => ?_, h5⟩
  have all : ∀ {l : List (List Key × V)} {m : List (List Key × Addr × Value)}, KT H l m → ∀ x ∈ m, (tupleKind (mixKind P w)).is h x.1 x.2.1 := by
    intro l m q
    induction q with
    | nil => intro x hx; exact nomatch hx
    | @cons p q ps qs hq t ih =>
      intro x hx
      rcases List.mem_cons.mp hx with e | hx
      · subst e
        exact key_of ok (by rw [← hq.1]; exact hq.2.1)
      · exact ih x hx
  exact all r x hx
theorem dt_of {kvs : List (List Key × V)} (ok : HOk P w H h) (e : H a = some (.dT kvs)) : kvs.length ≤ sizeLine ∧ (a == sysModules) = false ∧
    ∃ xs, KT H kvs xs ∧ h.DictOfH (tupleKind (mixKind P w)) a xs := dt_rd ok (.inl e)
end
/-- what the dict at a holds at the key y -/
noncomputable def DGet (H : Hp) (a : Addr) (y : V) (r : Option V) : Prop :=
  (∃ kvs k, Rd H a (.dK kvs) ∧ y = kV k ∧ r = valV kvs k) ∨ ∃ kvs k b, Rd H a (.dT kvs) ∧ y = .ref b ∧ H b = some (.tup (k.map kV)) ∧ r = valV kvs k
/-- the heap behind a[y] = v -/
noncomputable def DPut (H : Hp) (a : Addr) (y v : V) (H' : Hp) : Prop :=
  (∃ kvs k, H a = some (.dK kvs) ∧ y = kV k ∧ kvs.length < sizeLine ∧ H' = upd H a (.dK (putK kvs k v))) ∨
  ∃ kvs k b, H a = some (.dT kvs) ∧ y = .ref b ∧ H b = some (.tup (k.map kV)) ∧ kvs.length < sizeLine ∧ H' = upd H a (.dT (putK kvs k v))
theorem DGet.k {H : Hp} {a : Addr} {kvs : List (Key × V)} {k : Key} (e : H a = some (.dK kvs)) : DGet H a (kV k) (valV kvs k) := .inl ⟨kvs, k, .inl e, rfl, rfl⟩
theorem DGet.t {H : Hp} {a b : Addr} {kvs : List (List Key × V)} {k : List Key} (e : H a = some (.dT kvs)) (eb : H b = some (.tup (k.map kV))) : DGet H a (.ref b) (valV kvs k) := .inr ⟨kvs, k, b, .inl e, rfl, eb, rfl⟩
theorem DPut.k {H : Hp} {a : Addr} {kvs : List (Key × V)} {k : Key} {v : V} (e : H a = some (.dK kvs)) (hl : kvs.length < sizeLine) : DPut H a (kV k) v (upd H a (.dK (putK kvs k v))) := .inl ⟨kvs, k, e, rfl, hl, rfl⟩
theorem DPut.t {H : Hp} {a b : Addr} {kvs : List (List Key × V)} {k : List Key} {v : V} (e : H a = some (.dT kvs)) (eb : H b = some (.tup (k.map kV))) (hl : kvs.length < sizeLine) :
    DPut H a (.ref b) v (upd H a (.dT (putK kvs k v))) := .inr ⟨kvs, k, b, e, rfl, eb, hl, rfl⟩
section
variable {X : Cx} {pins : List (Addr × Obj)} {σ : St} {H : Hp} {s : Shared} {a : Addr} {y v : V} {u r : Value} {o : Option V} {A : Around} {E : Value → Shared → Prop}
theorem Inv.big (I : Inv X pins σ H s) : sysModules < s.heap.objs.size := by
  have h : mainGlobals < s.heap.objs.size := (I.mod.glob.keeps I.bk).lt
  exact Nat.lt_trans (by decide) h
/-- d[y], there -/
theorem d_getItem {Q : Value → Shared → Prop} (hu : A.units + 1 < cLine) (I : Inv X pins σ H s) (g : DGet H a y (some v)) (ry : RelV y u) (h : ∀ w' s', Inv X pins σ H s' → RelV v w' → Q w' s') :
    wpAny (model X.prog X.w) A (getItem (.ref a) u) Q E s := by
  rcases g with ⟨kvs, k, e, ey, l⟩ | ⟨kvs, k, b, e, ey, eb, l⟩
  · subst ey
    obtain ⟨z, hd, vs, rel, dd⟩ := dk_rd I.hok e
    obtain ⟨w', hw, rw'⟩ := RelO.some_of (v := v) (o := valueAt vs k) (by rw [l]; exact rel.val k)
    exact wpAny_getItem_of (kV_is ry) dd.mapOf hw (h w' _ (I.tok _) rw')
  · subst ey
    cases (show u = Value.ref b from ry)
    obtain ⟨z, hd, xs, rel, dd⟩ := dt_rd I.hok e
    obtain ⟨w', hw, rw'⟩ := RelO.some_of (v := v) (o := (atKey xs k).map (·.2)) (by rw [l]; exact rel.val k)
    obtain ⟨p, hp, hp2⟩ := Option.map_eq_some_iff.mp hw
    refine wpAny_getItem_heap (tupleKind_room_in1 hu) (key_of I.hok eb) dd hp ?_
    rw [hp2]
    exact h w' _ (I.tok _) rw'
/-- y in d -/
theorem d_in {Q : Value → Shared → Prop} (hu : A.units + 1 < cLine) (I : Inv X pins σ H s) (g : DGet H a y o) (ry : RelV y u) (h : ∀ s', Inv X pins σ H s' → Q (.bool o.isSome) s') :
    wpAny (model X.prog X.w) A (compareOp .In u (.ref a)) Q E s := by
  rcases g with ⟨kvs, k, e, ey, l⟩ | ⟨kvs, k, b, e, ey, eb, l⟩
  · subst ey
    obtain ⟨z, hd, vs, rel, dd⟩ := dk_rd I.hok e
    refine wpAny_in_of (kV_is ry) hd dd.mapOf ?_
    rw [← (rel.val k).isSome_eq, ← l]
    exact h _ (I.tok _)
  · subst ey
    cases (show u = Value.ref b from ry)
    obtain ⟨z, hd, xs, rel, dd⟩ := dt_rd I.hok e
    refine wpAny_in_heap (tupleKind_room_in1 hu) (key_of I.hok eb) hd dd ?_
    have q := (rel.val k).isSome_eq
    rw [Option.isSome_map] at q
    rw [← q, ← l]
    exact h _ (I.tok _)
theorem d_notIn {Q : Value → Shared → Prop} (hu : A.units + 1 < cLine) (I : Inv X pins σ H s) (g : DGet H a y o) (ry : RelV y u) (h : ∀ s', Inv X pins σ H s' → Q (.bool (!o.isSome)) s') :
    wpAny (model X.prog X.w) A (compareOp .NotIn u (.ref a)) Q E s := by
  rcases g with ⟨kvs, k, e, ey, l⟩ | ⟨kvs, k, b, e, ey, eb, l⟩
  · subst ey
    obtain ⟨z, hd, vs, rel, dd⟩ := dk_rd I.hok e
    refine wpAny_notIn_of (kV_is ry) hd dd.mapOf ?_
    rw [← (rel.val k).isSome_eq, ← l]
    exact h _ (I.tok _)
  · subst ey
    cases (show u = Value.ref b from ry)
    obtain ⟨z, hd, xs, rel, dd⟩ := dt_rd I.hok e
    refine wpAny_notIn_heap (tupleKind_room_in1 hu) (key_of I.hok eb) hd dd ?_
    have q := (rel.val k).isSome_eq
    rw [Option.isSome_map] at q
    rw [← q, ← l]
    exact h _ (I.tok _)
/-- a dict's object is replaced -/
theorem d_write {h' : Heap} {t' : Nat} {ob : HO} (I : Inv X pins σ H s) (mu : Mut (H a)) (hs : Heap.SameBut a s.heap h') (he : ∃ q, h'.get? a = some q) (new : ObjOk X.prog X.w (upd H a ob) h' a ob) :
    Inv X pins σ (upd H a ob) { s with heap := h', toks := t' } :=
  I.write (x := a) (e := a) mu (.inl rfl) (fun b q hb z => (hs.2 b hb).trans z) he new
theorem dk_new {P : Program} {w : World} {H' : Hp} {h' : Heap} {kvs : List (Key × V)} {vs : List (Key × Value)} (z : kvs.length ≤ sizeLine) (hd : (a == sysModules) = false) (rel : KV kvs vs) (dd : h'.DictOf (mixKind P w) a vs) :
    ObjOk P w H' h' a (.dK kvs) := ⟨z, hd, vs, rel, dd⟩
/-- d[y] = v -/
theorem d_setItem {H' : Hp} {Q : Unit → Shared → Prop} (hu : A.units + 1 < cLine) (I : Inv X pins σ H s) (g : DPut H a y v H') (ry : RelV y u) (rv : RelV v r) (h : ∀ s', Inv X pins σ H' s' → Q () s') :
    wpAny (model X.prog X.w) A (setItem (.ref a) u r) Q E s := by
  rcases g with ⟨kvs, k, e, ey, l, eH⟩ | ⟨kvs, k, b, e, ey, eb, l, eH⟩
  · subst ey eH
    obtain ⟨z, hd, vs, rel, dd⟩ := dk_of I.hok e
    have hz : vs.length ≤ sizeLine := by rw [← rel.length]; exact z
    have hl : (putK kvs k v).length ≤ sizeLine := by have := length_putK kvs k v; lia
    refine wpAny_setItem_pairs (hsz := hz) (kV_is ry) dd fun h' dd' hs => h _ ?_
    have he : ∃ q, h'.get? a = some q := let ⟨q, _, _, hq, _⟩ := dd'; ⟨q, hq⟩
    exact d_write I (by rw [e]; exact True.intro) hs he (dk_new hl hd (rel.put k rv) dd')
  · subst ey eH
    cases (show u = Value.ref b from ry)
    obtain ⟨z, hd, xs, rel, dd⟩ := dt_of I.hok e
    have hz : xs.length ≤ sizeLine := by rw [← Paired.length rel]; exact z
    have hl : (putK kvs k v).length ≤ sizeLine := by have := length_putK kvs k v; lia
    refine wpAny_setItem_heap (hsz := hz) (tupleKind_room_in1 hu) (key_of I.hok eb) dd fun h' dd' hs => h _ ?_
    obtain ⟨q, es, ep, hq, h2, h3, h4, _, h5⟩ := dd'
    refine d_write I (by rw [e]; exact True.intro) hs ⟨q, hq⟩ ⟨hl, hd, _, (rel.put k eb rv).keeps fun c ys ec => ?_, q, es, ep, hq, h2, h3, h4, h5⟩
    rw [upd_ne (ne_of ec e (fun z => nomatch z))]
    exact ec
end
section
variable {X : Cx} {pins : List (Addr × Obj)} {σ : St} {H : Hp} {s : Shared} {a : Addr} {kvs : List (Key × V)} {k : Key} {u : Value} {A : Around} {E : Value → Shared → Prop}
/-- len(d) -/
theorem d_len {Q : Value → Shared → Prop} (I : Inv X pins σ H s) (e : Rd H a (.dK kvs)) (h : ∀ t s', Inv X pins σ H s' → Q (.int kvs.length t) s') : wpAny (model X.prog X.w) A (call (.builtin "len") [.ref a]) Q E s := by
  obtain ⟨z, hd, vs, rel, dd⟩ := dk_rd I.hok e
  refine call_len_dict hd dd (by rw [← rel.length]; rw [sizeLine_eq] at z; lia) ?_
  rw [← rel.length]
  exact h _ _ (I.tok _)
end
/-- the element of a subscription, not a slice -/
noncomputable def NoSl (i : Expr) : Prop := ∀ ov iv, subscripted i false ov iv = operate [ov, iv] (getItem ov iv)
theorem subD_of {prog : Program} {w : World} {A : Around} {E : Value → Shared → Prop} {s : Shared} {env : Env} {value slice : Expr} {pos : Pos} {T id : String} {Q : Value → Shared → Prop}
    (hl : typeLookup (.type T) "__getitem__" = pure (some (.builtin id))) (hs : NoSl slice)
    (h : wpAny (model prog w) A (eval value env) (fun o s₁ => wpAny (model prog w) A (eval slice env) (fun i s₂ => s₂.TypeIs o T ∧ wpAny (model prog w) A (getItem o i) Q E s₂) E s₁) E s) :
    wpAny (model prog w) A (eval (.Subscript value slice pos) env) Q E s := by
  refine Subscript_ (wpAny_mono h (fun o s₁ h₁ => wpAny_mono h₁ (fun i s₂ h₂ => ?_) fun _ _ x => x) fun _ _ x => x)
  obtain ⟨hT, h₂⟩ := h₂
  unfold subscriptTail
  refine wpAny_bind ?_
  rw [getitemInPython_of_ne hT.not_modules]
  refine wpAny_bind (wpAny_specialOf hT hl ?_)
  have fin : wpAny (model prog w) A (subscripted slice false o i) (fun r s₃ => wpAny (model prog w) A (letTemporaryGo value o r >>= fun _ => pure r) Q E s₃) E s₂ := by
    rw [hs o i]
    exact wpAny_operating (wpAny_mono h₂ (fun r s₃ h₃ => wpAny_bind (wpAny_letTemporaryGo (wpAny_pure h₃))) fun _ _ x => x)
  first
    | exact wpAny_pure (wpAny_bind fin)
    | exact wpAny_bind (wpAny_pure (wpAny_bind fin))
    | exact wpAny_bind fin
theorem dict_typeIs {X : Cx} {pins : List (Addr × Obj)} {σ : St} {H : Hp} {s : Shared} {a : Addr} {y : V} {o : Option V} (I : Inv X pins σ H s) (g : DGet H a y o) : s.TypeIs (.ref a) "dict" := by
  rcases g with ⟨kvs, k, e, _, _⟩ | ⟨kvs, k, b, e, _, _, _⟩
  · obtain ⟨_, _, vs, _, dd⟩ := dk_rd I.hok e
    exact dd.typeIs
  · obtain ⟨_, _, xs, _, dd⟩ := dt_rd I.hok e
    exact dd.typeIs
/-- d[y] -/
noncomputable def tDGet (td ty : TE) : TE := fun σ H Q => td σ H fun x H1 => ty σ H1 fun y H2 => ∃ a v, x = .ref a ∧ DGet H2 a y (some v) ∧ Q v H2
/-- y in d, y not in d -/
noncomputable def tDIn (ty td : TE) : TE := fun σ H Q => ty σ H fun y H1 => td σ H1 fun x H2 => ∃ a o, x = .ref a ∧ DGet H2 a y o ∧ Q (.bl o.isSome) H2
noncomputable def tDNotIn (ty td : TE) : TE := fun σ H Q => ty σ H fun y H1 => td σ H1 fun x H2 => ∃ a o, x = .ref a ∧ DGet H2 a y o ∧ Q (.bl (!o.isSome)) H2
/-- d[y] = v -/
noncomputable def sDPut (td ty tv : TE) : TS := fun D σ H => tv σ H fun v H1 => td σ H1 fun x H2 => ty σ H2 fun y H3 => ∃ a H4, x = .ref a ∧ DPut H3 a y v H4 ∧ D.nx σ H4
section
variable {X : Cx} {o i e value : Expr} {pos pos' tpos : Pos} {td ty tv : TE}
theorem pe_dget (hu : X.A.units + 1 < cLine) (ho : PE X o td) (hi : PE X i ty) (hs : NoSl i) : PE X (.Subscript o i pos) (tDGet td ty) := by
  intro pins s σ H Q I h
  refine subD_of PySem.F.slot_dict_getitem.lookup hs (thn (ho pins s σ H _ I h) fun u s1 ⟨x, H1, I1, rx, q1⟩ => thn (hi pins s1 σ H1 _ I1 q1) fun iv s2 zz => ?_)
  obtain ⟨y, H2, I2, ry, a, v, ex, g, q2⟩ := zz
  subst ex
  obtain rfl : u = Value.ref a := rx
  exact ⟨dict_typeIs I2 g, d_getItem hu I2 g ry fun w' s3 I3 rw' => ⟨v, H2, I3, rw', q2⟩⟩
theorem pc_din (hu : X.A.units + 1 < cLine) (hi : PE X i ty) (ho : PE X o td) : PC X .In i o (tDIn ty td) := by
  intro pins s σ H Q I h
  refine thn (hi pins s σ H _ I h) fun iv s1 ⟨y, H1, I1, ry, q1⟩ => thn (ho pins s1 σ H1 _ I1 q1) fun u s2 zz => ?_
  obtain ⟨x, H2, I2, rx, a, ov, ex, g, q2⟩ := zz
  subst ex
  obtain rfl : u = Value.ref a := rx
  exact d_in hu I2 g ry fun s3 I3 => ⟨.bl ov.isSome, H2, I3, rfl, q2⟩
theorem pc_dnotin (hu : X.A.units + 1 < cLine) (hi : PE X i ty) (ho : PE X o td) : PC X .NotIn i o (tDNotIn ty td) := by
  intro pins s σ H Q I h
  refine thn (hi pins s σ H _ I h) fun iv s1 ⟨y, H1, I1, ry, q1⟩ => thn (ho pins s1 σ H1 _ I1 q1) fun u s2 zz => ?_
  obtain ⟨x, H2, I2, rx, a, ov, ex, g, q2⟩ := zz
  subst ex
  obtain rfl : u = Value.ref a := rx
  exact d_notIn hu I2 g ry fun s3 I3 => ⟨.bl (!ov.isSome), H2, I3, rfl, q2⟩
theorem ps_dput (hu : X.A.units + 1 < cLine) (ho : PE X o td) (hi : PE X i ty) (hv : PE X value tv) (hs : swapsWith value (some (.Subscript o i pos')) pos.line X.env = pure false) :
    PS X (.Assign [.Subscript o i pos'] value pos) (sDPut td ty tv) := by
  intro pins s σ H D I h
  refine wpAny_Assign_Subscript (thn (hv pins s σ H _ I h) fun r s1 ⟨v, H1, I1, rv, q1⟩ => thn (ho pins s1 σ H1 _ I1 q1) fun u s2 ⟨x, H2, I2, rx, q2⟩ => thn (hi pins s2 σ H2 _ I2 q2) fun iv s3 ⟨y, H3, I3, ry, a, H4, ex, g, q3⟩ => ?_) hs
  subst ex
  obtain rfl : u = Value.ref a := rx
  exact d_setItem hu I3 g ry rv fun s4 I4 => ⟨σ, H4, I4, q3⟩
end
theorem dk_empty {P : Program} {w : World} {H : Hp} (h : Heap) (hb : sysModules < h.objs.size) : ObjOk P w H (h.push { cls := .type "dict", data := .dict #[] }) h.objs.size (.dK []) :=
  ⟨Nat.zero_le _, beq_eq_false_iff_ne.mpr (Ne.symm (Nat.ne_of_lt hb)), [], .nil, Heap.DictOf.new h⟩
/-- the pairs of a display, from the left -/
noncomputable def tPairs : List (TE × TE) → St → Hp → (List (V × V) → Hp → Prop) → Prop
  | [], _, H, Q => Q [] H
  | (tk, tv) :: r, σ, H, Q => tk σ H fun x H1 => tv σ H1 fun y H2 => tPairs r σ H2 fun ps H3 => Q ((x, y) :: ps) H3
noncomputable abbrev VV : List (V × V) → List (Value × Value) → Prop := Paired fun p q => RelV p.1 q.1 ∧ RelV p.2 q.2
noncomputable def PPs (X : Cx) (pos : Pos) (keys : List (Option Expr)) (values : List Expr) (trs : List (TE × TE)) : Prop :=
  ∀ (pins : List (Addr × Obj)) (s : Shared) (σ : St) (H : Hp) (Q : List (V × V) → Hp → Prop), Inv X pins σ H s → tPairs trs σ H Q →
    wpAny (model X.prog X.w) X.A (evalPairs (pairTrees keys values X.env pos)) (fun vs s' => ∃ ps H', Inv X pins σ H' s' ∧ VV ps vs ∧ Q ps H') X.xe s
theorem pps_nil {X : Cx} {pos : Pos} : PPs X pos [] [] [] := fun pins s σ H Q I h => pairTrees_nil_walk ⟨[], H, I, .nil, h⟩
theorem pps_cons {X : Cx} {pos : Pos} {k v : Expr} {ks : List (Option Expr)} {vs : List Expr} {tk tv : TE} {trs : List (TE × TE)} (hk : PE X k tk) (hv : PE X v tv) (hr : PPs X pos ks vs trs) :
    PPs X pos (some k :: ks) (v :: vs) ((tk, tv) :: trs) := fun pins s σ H Q I h =>
  pairTrees_cons_walk (thn (hk pins s σ H _ I h) fun u s1 ⟨x, H1, I1, rx, q1⟩ => thn (hv pins s1 σ H1 _ I1 q1) fun w2 s2 ⟨y, H2, I2, ry, q2⟩ =>
    thn (hr pins s2 σ H2 _ I2 q2) fun ws s3 ⟨ps, H3, I3, rel, q3⟩ => ⟨(x, y) :: ps, H3, I3, .cons ⟨rx, ry⟩ rel, q3⟩)
noncomputable def mergeK (kvs more : List (Key × V)) : List (Key × V) := more.foldl (fun acc kv => putK acc kv.1 kv.2) kvs
theorem KV.merge : ∀ {more : List (Key × V)} {rs : List (Key × Value)} {kvs : List (Key × V)} {vs : List (Key × Value)}, KV more rs → KV kvs vs → KV (mergeK kvs more) (merged vs rs) := by
  intro more rs kvs vs r
  unfold KV at r
  induction r generalizing kvs vs with
  | nil => intro q; exact q
  | @cons p q ps qs h t ih =>
    intro r0
    have e : KV (putK kvs p.1 p.2) (stored vs q.1 q.2) := by
      have := r0.put p.1 h.2
      rw [← h.1]; exact this
    exact ih e
theorem length_mergeK : ∀ (more kvs : List (Key × V)), (mergeK kvs more).length ≤ kvs.length + more.length
  | [], kvs => by show kvs.length ≤ kvs.length + 0; lia
  | p :: r, kvs => by
    have h1 := length_mergeK r (putK kvs p.1 p.2)
    have h2 := length_putK kvs p.1 p.2
    show (mergeK (putK kvs p.1 p.2) r).length ≤ _
    rw [List.length_cons]; lia
theorem carries_of {P : Program} {w : World} : ∀ {kvs : List (Key × V)} {ws : List (Value × Value)}, VV (kvs.map fun kv => (kV kv.1, kv.2)) ws → ∃ rs, Carries (mixKind P w) ws rs ∧ KV kvs rs
  | [], _, r => by rw [List.map_nil] at r; cases r; exact ⟨[], True.intro, .nil⟩
  | p :: kvs, _, r => by
    rw [List.map_cons] at r
    cases r with
    | @cons a b as bs h t =>
      obtain ⟨rs, c, q⟩ := carries_of (P := P) (w := w) t
      obtain ⟨b1, b2⟩ := b
      exact ⟨(p.1, b2) :: rs, ⟨kV_is h.1, rfl, c⟩, .cons ⟨rfl, h.2⟩ q⟩
/-- {k: v, ..} with keys ints and texts; the new dict stands empty while the pairs are made -/
noncomputable def tDisp (trs : List (TE × TE)) : TE := fun σ H Q => ∀ p, H p = none → tPairs trs σ (upd H p (.dK [])) fun ps H2 => H2 p = some (.dK []) ∧ ∃ kvs : List (Key × V), ps = kvs.map (fun kv => (kV kv.1, kv.2)) ∧ kvs.length ≤ 15 ∧ Q (.ref p) (upd H2 p (.dK (mergeK [] kvs)))
theorem pe_disp {X : Cx} {pos : Pos} {keys : List (Option Expr)} {values : List Expr} {trs : List (TE × TE)} (h : PPs X pos keys values trs) (hall : keys.all (·.isSome) = true) (hl : keys.length = values.length) (h0 : keys ≠ [])
    (h15 : keys.length ≤ 15) : PE X (.Dict keys values pos) (tDisp trs) := by
  intro pins s σ H Q I q
  have hn := I.hok.fresh (Nat.le_refl s.heap.objs.size)
  have I1 := I.laid (a := s.heap.objs.size) (o := .dK []) (h' := s.heap.push { cls := .type "dict", data := .dict #[] }) (t' := s.toks) (fun _ _ q => Heap.get?_push_of_some _ q) (Nat.le_refl _) (dk_empty s.heap I.big)
  refine wpAny_Dict_walk (knd := mixKind X.prog X.w) hall hl h0 h15 (thn (h pins _ σ _ _ I1 (q _ hn)) fun ws s2 zz => ?_)
  obtain ⟨ps, H2, I2, rel, e, kvs, ep, lk, q2⟩ := zz
  subst ep
  obtain ⟨rs, c, rk⟩ := carries_of (P := X.prog) (w := X.w) rel
  obtain ⟨z, hd, vs0, r0, dd⟩ := dk_of I2.hok e
  cases r0
  refine ⟨rs, c, dd, fun h' dd' hs => ⟨.ref s.heap.objs.size, _, ?_, rfl, q2⟩⟩
  have hz : (mergeK [] kvs).length ≤ sizeLine := by
    have h1 := length_mergeK kvs []
    rw [List.length_nil] at h1
    rw [sizeLine_eq]; lia
  have he : ∃ q, h'.get? s.heap.objs.size = some q := let ⟨q, _, _, hq, _⟩ := dd'; ⟨q, hq⟩
  exact d_write I2 (by rw [e]; exact True.intro) hs he (dk_new hz hd (rk.merge .nil) dd')
/-- a method call o.m(e) of a built-in, with one argument: what must be seen of the text -/
structure M1 (X : Cx) (o : Expr) (m : Str) (apos : Pos) (e : Expr) (cpos : Pos) : Prop where
  base : attributeBase o m X.env (eval o X.env) = eval o X.env
  few : ((backTo cpos (starEach [e] X.env)).all (fun x => !x.1) && (backToKw cpos (keywordEach [] X.env)).all (fun x => x.1.isSome)
    && decide (([e] : List Expr).length + ([] : List Keyword).length + (if ([] : List Keyword).isEmpty then 0 else 1) < 30)) = true
  line : (apos.endLine == cpos.line) = true
  trees : backTo cpos (starEach [e] X.env) = [(false, eval e X.env)]
structure M2 (X : Cx) (o : Expr) (m : Str) (apos : Pos) (e f : Expr) (cpos : Pos) : Prop where
  base : attributeBase o m X.env (eval o X.env) = eval o X.env
  few : ((backTo cpos (starEach [e, f] X.env)).all (fun x => !x.1) && (backToKw cpos (keywordEach [] X.env)).all (fun x => x.1.isSome)
    && decide (([e, f] : List Expr).length + ([] : List Keyword).length + (if ([] : List Keyword).isEmpty then 0 else 1) < 30)) = true
  line : (apos.endLine == cpos.line) = true
  trees : backTo cpos (starEach [e, f] X.env) = [(false, eval e X.env), (false, eval f X.env)]
end L2
namespace HT
open PySem PyProof.Rows
section
variable {prog : Program} {w : World} {A : Around} {E : Value → Shared → Prop} {s : Shared}
/-- t + u, t not empty -/
theorem cat_tup {t b : Addr} {vs ws : List Value} {Q : Value → Shared → Prop} (ht : IsTup s.heap t vs.toArray) (hb : IsTup s.heap b ws.toArray) (hv : vs ≠ [])
    (h1 : ws = [] → Q (.ref t) s) (h2 : ws ≠ [] → Q (.ref s.heap.objs.size) { s with heap := s.heap.push { cls := .type "tuple", data := .seq (vs ++ ws).toArray } })
    (hsz : vs.length + ws.length ≤ sizeLine) : wpAny (model prog w) A (binaryOp .Add (.ref t) (.ref b)) Q E s := by
  obtain ⟨⟨cls, dd, data, sl⟩, ho, hc, n, hd⟩ := id ht
  obtain ⟨⟨cls2, dd2, data2, sl2⟩, ho2, hc2, n2, hd2⟩ := id hb
  simp only at hc hd hc2 hd2
  subst hc hd hc2 hd2
  have e : vs.toArray ++ ws.toArray = (vs ++ ws).toArray := by simp
  by_cases hw : ws = []
  · exact concat_meets ⟨_, ho, rfl⟩ ⟨_, ho2, rfl⟩ noFill_tuple_add seq_tuple_add PySem.F.slot_tuple_add PySem.F.entry_tuple_add (PySem.F.args_tuple_add_2 _ _)
      (tuple_addW1 t b vs.toArray ws.toArray n n2 dd dd2 sl sl2 (by simpa using hv) (by simp [hw])) ⟨ho, ho2, h1 hw⟩
  · refine concat_meets ⟨_, ho, rfl⟩ ⟨_, ho2, rfl⟩ noFill_tuple_add seq_tuple_add PySem.F.slot_tuple_add PySem.F.entry_tuple_add (PySem.F.args_tuple_add_2 _ _)
      (tuple_addW2 t b vs.toArray ws.toArray n n2 dd dd2 sl sl2 (by simpa using hv) (by simpa using hw) (by rw [List.size_toArray, List.size_toArray]; exact hsz)) ⟨ho, ho2, ?_⟩
    rw [e]
    exact h2 hw
/-- a slice's bound as a place among n (d where it is left out) -/
noncomputable def sIx (n d : Nat) : Option Int → Nat
  | none => d
  | some v => if v < 0 then (v + (n : Int)).toNat else min v.toNat n
theorem sIx_le (n d : Nat) (hd : d ≤ n) (o : Option Int) : sIx n d o ≤ n := by
  cases o with
  | none => exact hd
  | some v =>
    show (if v < 0 then (v + (n : Int)).toNat else min v.toNat n) ≤ n
    by_cases hv : v < 0
    · rw [if_pos hv]; lia
    · rw [if_neg hv]; exact Nat.min_le_right _ _
theorem clip_eq (v : Int) (n d : Nat) : (if v < 0 then max (v + (n : Int)) 0 else min v (n : Int)) = ((sIx n d (some v) : Nat) : Int) := by
  show (if v < 0 then max (v + (n : Int)) 0 else min v (n : Int)) = (((if v < 0 then (v + (n : Int)).toNat else min v.toNat n) : Nat) : Int)
  by_cases hv : v < 0
  · simp only [if_pos hv]; lia
  · simp only [if_neg hv]; lia
theorem adjust_gen (lo hi : Option Int) (n : Nat) : Builtin.Slice.sliceAdjust lo hi 1 (n : Int) = (((sIx n 0 lo : Nat) : Int), ((sIx n n hi : Nat) : Int)) := by
  have h1 : ¬ ((1 : Int) < 0) := by lia
  unfold Builtin.Slice.sliceAdjust
  simp only [h1, if_false]
  refine Prod.ext ?_ ?_
  · cases lo with
    | none => rfl
    | some v => exact clip_eq v n 0
  · cases hi with
    | none => rfl
    | some v => exact clip_eq v n n
theorem places_gen (i j : Nat) : Builtin.Slice.slicePlaces (i : Int) (j : Int) 1 = j - i := by
  unfold Builtin.Slice.slicePlaces
  have h1 : (1 : Int) > 0 := by lia
  simp only [h1, if_true, Int.ediv_one]
  split <;> lia
theorem slicePart_ {v : Value} {o : Option Int} {Q : Option Int → Shared → Prop} (p : IsPart v o) (h : Q o s) : wpAny (model prog w) A (Builtin.Slice.slicePartIndex v) Q E s := by
  cases p with
  | none => exact slicePart_none h
  | int i t => exact slicePart_int h
theorem sliceApplied_gen {sl : Addr} {vl vu : Value} {lo hi : Option Int} {n : Nat} {Q : Int × Int × Nat → Shared → Prop} (hs : s.heap.IsSliceOf sl vl vu .none) (pl : IsPart vl lo) (pu : IsPart vu hi)
    (h : Q (((sIx n 0 lo : Nat) : Int), 1, sIx n n hi - sIx n 0 lo) s) : wpAny (model prog w) A (Builtin.Slice.sliceApplied (.ref sl) (pure (n : Int))) Q E s := by
  obtain ⟨os, hos, hcs, hds⟩ := id hs
  unfold Builtin.Slice.sliceApplied Builtin.Slice.sliceFields
  refine wpAny_bind (wpAny_bind (wpAny_field hos hds (x := vl) rfl (wpAny_bind (wpAny_field hos hds (x := vu) rfl (wpAny_bind (wpAny_field hos hds (x := .none) rfl (wpAny_pure ?_)))))))
  refine wpAny_bind (slicePart_none ?_)
  show wpAny _ _ (if ((1 : Int) == 0) = true then _ else _) _ _ s
  rw [if_neg (by decide)]
  refine wpAny_bind (slicePart_ pl (wpAny_bind (slicePart_ pu (wpAny_bind (wpAny_pure ?_)))))
  show wpAny _ _ (match Builtin.Slice.sliceAdjust lo hi 1 (n : Int) with | (lo, hi) => pure (lo, (1 : Int), Builtin.Slice.slicePlaces lo hi 1)) _ _ s
  rw [adjust_gen lo hi n]
  show wpAny _ _ (pure (((sIx n 0 lo : Nat) : Int), (1 : Int), Builtin.Slice.slicePlaces ((sIx n 0 lo : Nat) : Int) ((sIx n n hi : Nat) : Int) 1)) _ _ s
  rw [places_gen]
  exact wpAny_pure h
theorem pick_gen (xs : Array Value) (i k : Nat) : ((List.range k).filterMap fun (m : Nat) => xs[((i : Int) + (m : Int) * 1).toNat]?).toArray = ((xs.toList.drop i).take k).toArray := by
  have e : (fun (m : Nat) => xs[((i : Int) + (m : Int) * 1).toNat]?) = fun m => xs[i + m]? := by
    funext m
    have : ((i : Int) + (m : Int) * 1).toNat = i + m := by lia
    rw [this]
  rw [e]
  have := pick_run xs i k
  rw [List.filterMap_map] at this
  have e2 : ((fun x => xs[x]?) ∘ fun x => i + x) = fun m => xs[i + m]? := rfl
  rw [e2] at this
  rw [this]
theorem getItem_tuple_cut {t sl : Addr} {items : Array Value} {vl vu : Value} {lo hi : Option Int} {Q : Value → Shared → Prop} (ht : IsTup s.heap t items) (hs : s.heap.IsSliceOf sl vl vu .none) (pl : IsPart vl lo) (pu : IsPart vu hi)
    (hw : ¬ (sIx items.size 0 lo = 0 ∧ sIx items.size items.size hi = items.size))
    (h : Q (.ref s.heap.objs.size) { s with heap := s.heap.push { cls := .type "tuple", data := .seq ((items.toList.drop (sIx items.size 0 lo)).take (sIx items.size items.size hi - sIx items.size 0 lo)).toArray } })
    (hsz : items.size ≤ sizeLine) : wpAny (model prog w) A (getItem (.ref t) (.ref sl)) Q E s := by
  have htake : sizeOk (.seq ((items.toList.drop (sIx items.size 0 lo)).take (sIx items.size items.size hi - sIx items.size 0 lo)).toArray) := by
    show ((items.toList.drop (sIx items.size 0 lo)).take (sIx items.size items.size hi - sIx items.size 0 lo)).toArray.size ≤ sizeLine
    rw [List.size_toArray, List.length_take, List.length_drop, Array.length_toList]
    lia
  have hj : sIx items.size items.size hi ≤ items.size := sIx_le _ _ (Nat.le_refl _) hi
  obtain ⟨os, hos, hcs, hds⟩ := id hs
  have hTs : s.TypeIs (.ref sl) "slice" := ⟨os, hos, hcs⟩
  unfold getItem
  try with_reducible refine wpAny_holding ?_
  first | refine wpAny_bind (wpAny_pure ?_) | skip
  refine wpAny_bind (wpAny_sequenceKey ht.typeIs (by decide) ?_)
  refine wpAny_bind (wpAny_callSpecial?_slot (name := Str.ofString "__getitem__") ht.typeIs PyProof.Rows.slot_tuple_getitem
    (wpAny_call_entry PyProof.Rows.slot_tuple_getitem ht.typeIs entry_tuple_getitem ?_ (args_tuple_getitem _ _)))
  show wpAny _ _ (Builtin.Tuple.tupleItemsOf (.ref t) >>= _) _ _ s
  refine wpAny_bind (tupleItemsOf_ ht ?_)
  refine wpAny_bind (wpAny_typeOf hTs ?_)
  rw [if_pos (by decide)]
  refine wpAny_bind (sliceApplied_gen hs pl pu ?_)
  have hno : ¬ ((((sIx items.size 0 lo : Nat) : Int) == 0 && (1 : Int) == 1 && (sIx items.size items.size hi - sIx items.size 0 lo) == items.size) = true) := by
    intro q
    rw [Bool.and_eq_true, Bool.and_eq_true] at q
    have q1 : ((sIx items.size 0 lo : Nat) : Int) = 0 := eq_of_beq q.1.1
    have q2 : sIx items.size items.size hi - sIx items.size 0 lo = items.size := eq_of_beq q.2
    exact hw ⟨by lia, by lia⟩
  show wpAny _ _ (if (((sIx items.size 0 lo : Nat) : Int) == 0 && (1 : Int) == 1 && (sIx items.size items.size hi - sIx items.size 0 lo) == items.size) = true then _ else _) _ _ s
  rw [if_neg hno, pick_gen]
  first
    | exact wpAny_bind (m := Builtin.Tuple.tupleExact _) (wpAny_newObj_type (wpAny_pure ⟨_, rfl, wpAny_pure h⟩) htake)
    | exact wpAny_bind (m := Builtin.Tuple.tupleExact _) (wpAny_newObj_type (wpAny_bind (wpAny_pure (wpAny_pure ⟨_, rfl, wpAny_pure h⟩))) htake)
    | exact wpAny_bind (wpAny_bind (m := Builtin.Tuple.tupleExact _) (wpAny_newObj_type (wpAny_pure (wpAny_pure ⟨_, rfl, wpAny_pure h⟩)) htake))
    | exact wpAny_bind (wpAny_bind (m := Builtin.Tuple.tupleExact _) (wpAny_newObj_type (wpAny_pure ⟨_, rfl, wpAny_pure h⟩) htake))
end
end HT
namespace L2
open PySem PySem.Spec PyProof.Rows
noncomputable abbrev TO := St → Hp → (Option Int → Hp → Prop) → Prop
/-- a slice's part (left out, or an int) -/
noncomputable def PO (X : Cx) (e : Option Expr) (t : TO) : Prop :=
  ∀ (pins : List (Addr × Obj)) (s : Shared) (σ : St) (H : Hp) (Q : Option Int → Hp → Prop), Inv X pins σ H s → t σ H Q →
    wpAny (model X.prog X.w) X.A (evalPart e X.env) (fun u s' => ∃ o H', Inv X pins σ H' s' ∧ IsPart u o ∧ Q o H') X.xe s
noncomputable def tNoPart : TO := fun _ H Q => Q none H
noncomputable def tPart (t : TE) : TO := fun σ H Q => t σ H fun x H1 => ∃ i, x = .int i ∧ Q (some i) H1
section
variable {X : Cx} {e : Expr} {te : TE} {lo hi : Option Expr} {tl th : TO} {pos p2 : Pos}
theorem po_none : PO X none tNoPart := by
  intro pins s σ H Q I h
  rw [evalPart_none]
  exact wpAny_pure ⟨none, H, I, .none, h⟩
theorem po_some (h : PE X e te) : PO X (some e) (tPart te) := by
  intro pins s σ H Q I hw
  rw [evalPart_some]
  refine thn (h pins s σ H _ I hw) fun u s1 zz => ?_
  obtain ⟨x, H1, I1, r1, q1⟩ := zz
  obtain ⟨i, rfl, q⟩ := q1
  obtain ⟨t, rfl⟩ := r1
  exact ⟨some i, H1, I1, .int i t, q⟩
/-- what a slice of a value is, by values: the slice object stands at sl -/
noncomputable def SlR (X : Cx) (r : V → Option Int → Option Int → Hp → VK → Prop) : Prop :=
  ∀ (pins : List (Addr × Obj)) (s : Shared) (σ : St) (H : Hp) (x : V) (v vl vu : Value) (lo hi : Option Int) (sl : Addr) (Q : VK), Inv X pins σ H s → RelV x v → s.heap.IsSliceOf sl vl vu .none → IsPart vl lo → IsPart vu hi → r x lo hi H Q →
    ∃ T id, typeLookup (.type T) "__getitem__" = pure (some (.builtin id)) ∧ s.TypeIs v T ∧ wpAny (model X.prog X.w) X.A (getItem v (.ref sl)) (EP X pins σ Q) X.xe s
theorem SlR.or {r r' : V → Option Int → Option Int → Hp → VK → Prop} (h : SlR X r) (h' : SlR X r') : SlR X (fun x lo hi H Q => r x lo hi H Q ∨ r' x lo hi H Q) := by
  intro pins s σ H x v vl vu lo hi sl Q I rx hs pl pu q
  rcases q with q | q
  · exact h pins s σ H x v vl vu lo hi sl Q I rx hs pl pu q
  · exact h' pins s σ H x v vl vu lo hi sl Q I rx hs pl pu q
noncomputable def tSl (r : V → Option Int → Option Int → Hp → VK → Prop) (te : TE) (tl th : TO) : TE := fun σ H Q => te σ H fun x H1 => tl σ H1 fun l H2 => th σ H2 fun u H3 => r x l u H3 Q
/-- a[lo:hi], any a -/
theorem pe_slice {r : V → Option Int → Option Int → Hp → VK → Prop} (hr : SlR X r) (he : PE X e te) (hl : PO X lo tl) (hu : PO X hi th) : PE X (.Subscript e (.Slice lo hi none p2) pos) (tSl r te tl th) := by
  intro pins s σ H Q I h
  refine Subscript_ (thn (he pins s σ H _ I h) fun v s1 zz => ?_)
  obtain ⟨x, H1, I1, r1, q1⟩ := zz
  refine wpAny_Slice (thn (hl pins s1 σ H1 _ I1 q1) fun vl s2 ⟨l, H2, I2, pl, q2⟩ => thn (hu pins s2 σ H2 _ I2 q2) fun vu s3 zz => ?_)
  obtain ⟨u, H3, I3, pu, q3⟩ := zz
  rw [evalPart_none]
  refine wpAny_pure ?_
  have I4 : Inv X pins σ H3 { s3 with heap := s3.heap.push { cls := .type "slice", data := .fields #[vl, vu, .none] } } := I3.kept (t' := s3.toks) fun b ob q => Heap.get?_push_of_some _ q
  obtain ⟨T, id, hT, ht, hg⟩ := hr pins { s3 with heap := s3.heap.push { cls := .type "slice", data := .fields #[vl, vu, .none] } } σ H3 x v vl vu l u s3.heap.objs.size Q I4 r1 (Heap.IsSliceOf.new ..) pl pu q3
  show wpAny (model X.prog X.w) X.A (subscriptTail e (.Slice lo hi none p2) v (.ref s3.heap.objs.size)) (EP X pins σ Q) X.xe { s3 with heap := s3.heap.push { cls := .type "slice", data := .fields #[vl, vu, .none] } }
  exact tail_any (ops := [.ref s3.heap.objs.size, v]) ht hT hg (by with_unfolding_all rfl)
/-- the items of xs[lo:hi] -/
noncomputable def cutV (xs : List V) (lo hi : Option Int) : List V := (xs.drop (HT.sIx xs.length 0 lo)).take (HT.sIx xs.length xs.length hi - HT.sIx xs.length 0 lo)
theorem cutV_length (xs : List V) (lo hi : Option Int) : (cutV xs lo hi).length ≤ xs.length := by
  unfold cutV
  rw [List.length_take, List.length_drop]
  lia
/-- t[lo:hi], not the whole of it (the whole would be t itself) -/
noncomputable def rSlT (K : PySem.W.Frag) : V → Option Int → Option Int → Hp → VK → Prop := fun x lo hi H Q => ∃ a xs, x = .ref a ∧ SqT K H a xs ∧
  ¬ (HT.sIx xs.length 0 lo = 0 ∧ HT.sIx xs.length xs.length hi = xs.length) ∧ ∀ p, H p = none → Q (.ref p) (upd H p (.tup (cutV xs lo hi)))
theorem sl_tup : SlR X (rSlT X.K) := by
  intro pins s σ H x v vl vu lo hi sl Q I rx hs pl pu h
  obtain ⟨a, xs, rfl, hx, hw, q⟩ := h
  cases rx
  obtain ⟨its, r, ht, hz⟩ := I.tuple hx
  have hlen : its.toArray.size = xs.length := by rw [List.size_toArray]; exact r.length.symm
  refine ⟨"tuple", _, PyProof.Rows.slot_tuple_getitem.lookup, ht.typeIs, ?_⟩
  refine HT.getItem_tuple_cut ht hs pl pu (by rw [hlen]; exact hw) ?_ (by rw [hlen]; exact hz)
  rw [hlen]
  refine ⟨.ref s.heap.objs.size, _, I.laid (t' := s.toks) (o := .tup (cutV xs lo hi)) (fun b ob q => Heap.get?_push_of_some _ q) (Nat.le_refl _) ?_, rfl, q _ (I.hok.fresh (Nat.le_refl _))⟩
  exact ⟨Nat.le_trans (cutV_length xs lo hi) hz, _, (r.drop (HT.sIx xs.length 0 lo)).take (HT.sIx xs.length xs.length hi - HT.sIx xs.length 0 lo), IsTupP.mk' _ _⟩
/-- t + u, t not empty: u empty gives t itself -/
noncomputable def rCatT (K : PySem.W.Frag) : R2 := fun x y H Q => ∃ a b xs ys, x = .ref a ∧ y = .ref b ∧ SqT K H a xs ∧ SqT K H b ys ∧ xs ≠ [] ∧ xs.length + ys.length ≤ sizeLine ∧
  (ys = [] → Q (.ref a) H) ∧ (ys ≠ [] → ∀ p, H p = none → Q (.ref p) (upd H p (.tup (xs ++ ys))))
theorem Vals.nil_iff {xs : List V} {us : List Value} (r : Vals xs us) : us = [] ↔ xs = [] := by
  cases r with
  | nil => simp
  | cons _ _ => simp
theorem op_catT : OpR X (binaryOp .Add) (rCatT X.K) := by
  intro pins s σ H x y v u Q I rx ry h
  obtain ⟨a, b, xs, ys, rfl, rfl, ha, hb, hx, hz, q1, q2⟩ := h
  cases rx
  cases ry
  obtain ⟨its, r1, p1, _⟩ := I.tuple ha
  obtain ⟨its2, r2, p2, _⟩ := I.tuple hb
  refine HT.cat_tup p1 p2 (fun z => hx (r1.nil_iff.mp z)) (fun z => ⟨.ref a, H, I, rfl, q1 (r2.nil_iff.mp z)⟩) (fun z => ?_) (by rw [← r1.length, ← r2.length]; exact hz)
  refine ⟨.ref s.heap.objs.size, _, I.laid (t' := s.toks) (o := .tup (xs ++ ys)) (fun b ob q => Heap.get?_push_of_some _ q) (Nat.le_refl _) ?_, rfl, q2 (fun w => z (r2.nil_iff.mpr w)) _ (I.hok.fresh (Nat.le_refl _))⟩
  exact ⟨by rw [List.length_append]; exact hz, _, r1.append r2, IsTupP.mk' _ _⟩
end
end L2
namespace L2
open PySem PySem.Spec PyProof.Rows
/-- the place that an index of any sign means -/
noncomputable def ixN (n : Nat) (i : Int) : Option Nat := if 0 ≤ i then (if i < n then some i.toNat else none) else if -(n : Int) ≤ i then some (i + n).toNat else none
noncomputable def atI {α : Type} (xs : List α) (i : Int) : Option α := (ixN xs.length i).bind fun j => xs[j]?
theorem ixN_seq {n : Nat} {i : Int} {j : Nat} (h : ixN n i = some j) : seqIndex? i n = some j ∧ j < n ∧ -(n : Int) ≤ i ∧ i < n := by
  unfold ixN at h
  by_cases h0 : 0 ≤ i
  · rw [if_pos h0] at h
    by_cases h1 : i < n
    · rw [if_pos h1] at h
      have e : i.toNat = j := Option.some.inj h
      exact ⟨by rw [seqIndex_of h0 h1, e], by lia, by lia, h1⟩
    · rw [if_neg h1] at h; cases h
  · rw [if_neg h0] at h
    by_cases h1 : -(n : Int) ≤ i
    · rw [if_pos h1] at h
      have e : (i + n).toNat = j := Option.some.inj h
      exact ⟨by rw [seqIndex_neg (by lia) h1, e], by lia, h1, by lia⟩
    · rw [if_neg h1] at h; cases h
theorem atI_get {α : Type} {xs : List α} {i : Int} {v : α} (h : atI xs i = some v) : ∃ j, seqIndex? i xs.length = some j ∧ xs[j]? = some v ∧ j < xs.length ∧ -(xs.length : Int) ≤ i ∧ i < xs.length := by
  unfold atI at h
  cases e : ixN xs.length i with
  | none => rw [e] at h; cases h
  | some j =>
    rw [e] at h
    obtain ⟨h1, h2, h3, h4⟩ := ixN_seq e
    exact ⟨j, h1, h, h2, h3, h4⟩
theorem atI_nat {α : Type} {xs : List α} {j : Nat} {v : α} (h : xs[j]? = some v) : atI xs (j : Int) = some v := by
  have hj : j < xs.length := (List.getElem?_eq_some_iff.mp h).1
  have e : ixN xs.length (j : Int) = some j := by
    unfold ixN
    rw [if_pos (by lia), if_pos (by lia)]; simp
  unfold atI; rw [e]; exact h
/-- what stands as an index of a plain subscript -/
noncomputable def PlainIx (b : Expr) : Prop := ∀ o i, subscripted b false o i = operate [o, i] (getItem o i)
/-- a subscript by values -/
noncomputable def IxR (X : Cx) (r : R2) : Prop :=
  ∀ (value slice : Expr) (pins : List (Addr × Obj)) (s : Shared) (σ : St) (H : Hp) (x y : V) (v u : Value) (Q : VK), Inv X pins σ H s → RelV x v → RelV y u → r x y H Q →
    subscripted slice false v u = operate [v, u] (getItem v u) → wpAny (model X.prog X.w) X.A (subscriptTail value slice v u) (EP X pins σ Q) X.xe s
/-- a call of a builtin's method by values: the receiver, the arguments -/
noncomputable def MtR (X : Cx) (id : String) (r : V → List V → Hp → VK → Prop) : Prop :=
  ∀ (pins : List (Addr × Obj)) (s : Shared) (σ : St) (H : Hp) (x : V) (xs : List V) (v : Value) (us : List Value) (Q : VK), Inv X pins σ H s → RelV x v → Vals xs us → r x xs H Q →
    wpAny (model X.prog X.w) X.A (call (.builtin id) (v :: us)) (EP X pins σ Q) X.xe s
section
variable {X : Cx} {a b : Expr} {ta tb : TE} {pos : Pos}
theorem IxR.or {r r' : R2} (h : IxR X r) (h' : IxR X r') : IxR X (fun x y H Q => r x y H Q ∨ r' x y H Q) := by
  intro value slice pins s σ H x y v u Q I rx ry q hs
  rcases q with q | q
  · exact h value slice pins s σ H x y v u Q I rx ry q hs
  · exact h' value slice pins s σ H x y v u Q I rx ry q hs
theorem MtR.or {id : String} {r r' : V → List V → Hp → VK → Prop} (h : MtR X id r) (h' : MtR X id r') : MtR X id (fun x xs H Q => r x xs H Q ∨ r' x xs H Q) := by
  intro pins s σ H x xs v us Q I rx rs q
  rcases q with q | q
  · exact h pins s σ H x xs v us Q I rx rs q
  · exact h' pins s σ H x xs v us Q I rx rs q
/-- a[b] -/
theorem pe_ix {r : R2} (hr : IxR X r) (ha : PE X a ta) (hb : PE X b tb) (hs : PlainIx b) : PE X (.Subscript a b pos) (tOp r ta tb) := by
  intro pins s σ H Q I h
  exact Subscript_ (binT ha hb I h fun v u s2 x y H2 I2 rx ry q => hr a b pins s2 σ H2 x y v u Q I2 rx ry q (hs _ _))
noncomputable def rIxL (K : PySem.W.Frag) : R2 := fun x y H Q => ∃ p xs i v, x = .ref p ∧ y = .int i ∧ SqL K H p xs ∧ atI xs i = some v ∧ Q v H
noncomputable def rIxT (K : PySem.W.Frag) : R2 := fun x y H Q => ∃ p xs i v, x = .ref p ∧ y = .int i ∧ SqT K H p xs ∧ atI xs i = some v ∧ Q v H
noncomputable def rIxS : R2 := fun x y H Q => ∃ z i c, x = .str z ∧ y = .int i ∧ z.length ≤ sizeLine ∧ atI z.cps.toList i = some c ∧ Q (.str ⟨#[c]⟩) H
theorem ix_list : IxR X (rIxL X.K) := by
  intro value slice pins s σ H x y v u Q I rx ry h hs
  obtain ⟨p, xs, i, z, rfl, rfl, hq, he, q⟩ := h
  cases rx
  obtain ⟨t, rfl⟩ := ry
  obtain ⟨its, r, pl, hz⟩ := I.list hq
  obtain ⟨j, h1, h2, h3, h4, h5⟩ := atI_get he
  obtain ⟨w, ew, rw'⟩ := r.get h2
  have hl := r.length
  have hn := line63
  have fin : EP X pins σ Q w s := ⟨z, H, I, rw', q⟩
  by_cases h0 : 0 ≤ i
  · have hj : i.toNat = j := by
      rw [seqIndex_of h0 h5] at h1
      exact Option.some.inj h1
    exact item_listR pl.isList h0 (by lia) (by rw [hj]; simpa using ew) fin hs
  · have hj : (i + (its.toArray.size : Int)).toNat = j := by
      rw [seqIndex_neg (by lia) h4] at h1
      rw [List.size_toArray, ← hl]
      exact Option.some.inj h1
    exact subscriptTail_builtinR (x := w) pl.isList.typeIs slot_list_getitem.lookup
      (wpAny_getItem_list_neg (Q := fun r s' => r = w ∧ EP X pins σ Q r s') pl.isList (by lia) (by rw [List.size_toArray] <;> lia) (by lia) (by rw [hj]; simpa using ew) ⟨rfl, fin⟩) hs
theorem ix_tup : IxR X (rIxT X.K) := by
  intro value slice pins s σ H x y v u Q I rx ry h hs
  obtain ⟨p, xs, i, z, rfl, rfl, hq, he, q⟩ := h
  cases rx
  obtain ⟨t, rfl⟩ := ry
  obtain ⟨its, r, pl, hz⟩ := I.tuple hq
  obtain ⟨j, h1, h2, h3, h4, h5⟩ := atI_get he
  obtain ⟨w, ew, rw'⟩ := r.get h2
  have hl := r.length
  have hn := line63
  have fin : EP X pins σ Q w s := ⟨z, H, I, rw', q⟩
  exact subscriptTail_builtinR (x := w) pl.typeIs slot_tuple_getitem.lookup
    (getItem_tuple (j := j) (Q := fun r s' => r = w ∧ EP X pins σ Q r s') pl (by lia) (by lia) (by rw [List.size_toArray, ← hl]; exact h1) (by simpa using ew) ⟨rfl, fin⟩) hs
theorem ix_str : IxR X rIxS := by
  intro value slice pins s σ H x y v u Q I rx ry h hs
  obtain ⟨z, i, c, rfl, rfl, hz, he, q⟩ := h
  obtain ⟨t, rfl⟩ := rx
  obtain ⟨t', rfl⟩ := ry
  obtain ⟨j, h1, h2, h3, h4, h5⟩ := atI_get he
  have hl : z.cps.toList.length = z.length := by simp [Str.length]
  rw [hl] at h1 h4 h5
  have hn := line63
  exact tail_any (typeIs_str s z t) slot_str_getitem.lookup (getItem_str (c := c) (by
    have e1 : decide (i < -(2 ^ 63 : Int)) = false := decide_eq_false (by lia)
    have e2 : decide (i ≥ 2 ^ 63) = false := decide_eq_false (by lia)
    rw [e1, e2, Bool.or_false]) (by rw [h1]; simpa using h2) ⟨.str ⟨#[c]⟩, H, I.tok _, ⟨_, rfl⟩, q⟩) hs
/-- list, tuple or str -/
noncomputable def rIx (K : PySem.W.Frag) : R2 := fun x y H Q => rIxL K x y H Q ∨ rIxT K x y H Q ∨ rIxS x y H Q
theorem ix_seq : IxR X (rIx X.K) := ix_list.or (ix_tup.or ix_str)
/-- the list's object behind a store -/
theorem mapSeq_set (its : List Value) (n j : Nat) (u : Value) : Obj.mapSeq (·.setIfInBounds j u) { cls := .type "list", data := .seq its.toArray n } = { cls := .type "list", data := .seq (its.set j u).toArray n } := by
  simp [Obj.mapSeq]
theorem Inv.lst {pins : List (Addr × Obj)} {σ : St} {H : Hp} {s : Shared} {p : Addr} {xs : List V} (I : Inv X pins σ H s) (h : H p = some (.lst xs)) :
    ∃ (its : List Value) (n : Nat), Vals xs its ∧ s.heap.get? p = some { cls := .type "list", data := .seq its.toArray n } ∧ xs.length ≤ sizeLine := by
  obtain ⟨z, its, n, r, e⟩ := I.hok p _ h
  exact ⟨its, n, r, e, z⟩
/-- the list at p is written by an update of its object -/
theorem Inv.lstUpd {pins : List (Addr × Obj)} {σ : St} {H : Hp} {s : Shared} {p : Addr} {xs ys : List V} {its its' : List Value} {n n' : Nat} {f : Obj → Obj} (I : Inv X pins σ H s) (h : H p = some (.lst xs))
    (ho : s.heap.get? p = some { cls := .type "list", data := .seq its.toArray n }) (hf : f { cls := .type "list", data := .seq its.toArray n } = { cls := .type "list", data := .seq its'.toArray n' }) (r : Vals ys its') (hz : ys.length ≤ sizeLine) (t : Nat) :
    Inv X pins σ (upd H p (.lst ys)) { s with heap := s.heap.update p f, toks := t } := by
  have e : (s.heap.update p f).get? p = some { cls := .type "list", data := .seq its'.toArray n' } := by
    rw [Heap.get?_update_self f ho (by rw [hf] <;> rfl), hf]
  refine I.write (x := p) (e := p) (by rw [h]; trivial) (.inl rfl) (fun b u hb q => (Heap.get?_update_other _ _ (Ne.symm hb)).trans q) ⟨_, e⟩ ?_
  exact ⟨hz, its', n', r, e⟩
noncomputable def rSetL : V → V → V → Hp → (Hp → Prop) → Prop := fun o i v H Q => ∃ p xs k j, o = .ref p ∧ i = .int k ∧ H p = some (.lst xs) ∧ ixN xs.length k = some j ∧ Q (upd H p (.lst (xs.set j v)))
theorem set_list : PSet X rSetL := by
  intro pins s σ H o i v ov iv u Q I ro ri rv h
  obtain ⟨p, xs, k, j, rfl, rfl, hp, hj, q⟩ := h
  cases ro
  obtain ⟨t, rfl⟩ := ri
  obtain ⟨its, n, r, ho, hz⟩ := I.lst hp
  obtain ⟨h1, h2, h3, h4⟩ := ixN_seq hj
  have hl := r.length
  have hn := line63
  have I' : Inv X pins σ (upd H p (.lst (xs.set j v))) { s with heap := s.heap.update p (Obj.mapSeq (·.setIfInBounds j u)) } :=
    I.lstUpd hp ho (mapSeq_set its n j u) (r.set rv j) (by rw [List.length_set]; exact hz) s.toks
  by_cases h0 : 0 ≤ k
  · have hk : k.toNat = j := by
      rw [seqIndex_of h0 h4] at h1
      exact Option.some.inj h1
    exact PySem.W.ki_setAt ho h0 (by lia) (by rw [List.size_toArray, ← hl]; exact h4) (by rw [hk]; exact ⟨_, I', q⟩)
  · have hk : (k + (its.toArray.size : Int)).toNat = j := by
      rw [seqIndex_neg (by lia) h3] at h1
      rw [List.size_toArray, ← hl]
      exact Option.some.inj h1
    exact PySem.W.ki_setBack ho (by lia) (by rw [List.size_toArray, ← hl]; exact h3) (by lia) (by rw [hk]; exact ⟨_, I', q⟩)
theorem slice_bounds (lo hi : Option Int) (n : Nat) : (sliceBounds lo hi none n).1 = ((HT.sIx n 0 lo : Nat) : Int) ∧ (sliceBounds lo hi none n).2.1 = ((HT.sIx n n hi : Nat) : Int) ∧ (sliceBounds lo hi none n).2.2 = 1 := by
  refine ⟨?_, ?_, rfl⟩
  · cases lo with
    | none => simp [sliceBounds, HT.sIx]
    | some i =>
      simp only [sliceBounds, HT.sIx, Option.getD_none, show (1 : Int) > 0 by decide, if_true]
      by_cases h : i < 0
      · simp only [h, if_true] <;> lia
      · simp only [h, if_false] <;> lia
  · cases hi with
    | none => simp [sliceBounds, HT.sIx]
    | some i =>
      simp only [sliceBounds, HT.sIx, Option.getD_none, show (1 : Int) > 0 by decide, if_true]
      by_cases h : i < 0
      · simp only [h, if_true] <;> lia
      · simp only [h, if_false] <;> lia
theorem slicePick_cut (its : List Value) (lo hi : Option Int) : slicePick its.toArray lo hi none = ((its.drop (HT.sIx its.length 0 lo)).take (HT.sIx its.length its.length hi - HT.sIx its.length 0 lo)).toArray := by
  obtain ⟨h1, h2, h3⟩ := slice_bounds lo hi its.toArray.size
  unfold slicePick
  rw [h1, h2, h3]
  simp only [sliceRange_one, pick_run, List.size_toArray] <;> rfl
/-- xs[lo:hi] of a list: a new list -/
noncomputable def rSlL (K : PySem.W.Frag) : V → Option Int → Option Int → Hp → VK → Prop := fun x lo hi H Q => ∃ a xs, x = .ref a ∧ SqL K H a xs ∧ ∀ p, H p = none → Q (.ref p) (upd H p (.lst (cutV xs lo hi)))
theorem sl_list : SlR X (rSlL X.K) := by
  intro pins s σ H x v vl vu lo hi sl Q I rx hs pl pu h
  obtain ⟨a, xs, rfl, hx, q⟩ := h
  cases rx
  obtain ⟨its, r, ht, hz⟩ := I.list hx
  have hlen := r.length
  refine ⟨"list", _, slot_list_getitem.lookup, ht.isList.typeIs, ?_⟩
  refine wpAny_getItem_list_slice ht.isList hs pl pu .none (by simp) ?_ (by rw [List.size_toArray] <;> lia)
  rw [slicePick_cut, ← hlen]
  refine ⟨.ref s.heap.objs.size, _, I.laid (t' := s.toks) (o := .lst (cutV xs lo hi)) (fun b ob q => Heap.get?_push_of_some _ q) (Nat.le_refl _) ?_, rfl, q _ (I.hok.fresh (Nat.le_refl _))⟩
  exact ⟨Nat.le_trans (cutV_length xs lo hi) hz, _, 0, (r.drop (HT.sIx xs.length 0 lo)).take (HT.sIx xs.length xs.length hi - HT.sIx xs.length 0 lo), Heap.get?_push_size _ rfl⟩
noncomputable def flatV : V → Bool
  | .non => true
  | .bl _ => true
  | .int _ => true
  | .str _ => true
  | _ => false
/-- == of flat values -/
noncomputable def eqV : V → V → Bool
  | .non, .non => true
  | .bl a, .bl b => a == b
  | .bl a, .int b => (if a then 1 else 0) == b
  | .int a, .bl b => a == (if b then 1 else 0)
  | .int a, .int b => a == b
  | .str a, .str b => a == b
  | _, _ => false
theorem eqAt_V {A : Around} {s : Shared} {y x : V} {u v : Value} (ry : RelV y u) (rx : RelV x v) (fy : flatV y = true) (fx : flatV x = true) : SeqAt.EqAt A s u v (eqV y x) := by
  cases y with
  | non =>
    cases ry
    cases x with
    | non => cases rx; exact SeqAt.EqAt.same _
    | bl b => cases rx; exact SeqAt.EqAt.none_bool b
    | int b => obtain ⟨t, rfl⟩ := rx; exact SeqAt.EqAt.none_int b t
    | str b => obtain ⟨t, rfl⟩ := rx; exact SeqAt.EqAt.none_str b t
    | _ => exact absurd (show false = true from fx) Bool.false_ne_true
  | bl a =>
    cases ry
    cases x with
    | non => cases rx; exact SeqAt.EqAt.bool_none a
    | bl b => cases rx; exact SeqAt.EqAt.bool_bool a b
    | int b => obtain ⟨t, rfl⟩ := rx; exact SeqAt.EqAt.bool_int a b t
    | str b => obtain ⟨t, rfl⟩ := rx; exact SeqAt.EqAt.bool_str a b t
    | _ => exact absurd (show false = true from fx) Bool.false_ne_true
  | int a =>
    obtain ⟨t', rfl⟩ := ry
    cases x with
    | non => cases rx; exact SeqAt.EqAt.int_none a t'
    | bl b => cases rx; exact SeqAt.EqAt.int_bool a t' b
    | int b => obtain ⟨t, rfl⟩ := rx; exact SeqAt.EqAt.int_int a t' b t
    | str b => obtain ⟨t, rfl⟩ := rx; exact SeqAt.EqAt.int_str a t' b t
    | _ => exact absurd (show false = true from fx) Bool.false_ne_true
  | str a =>
    obtain ⟨t', rfl⟩ := ry
    cases x with
    | non => cases rx; exact SeqAt.EqAt.str_none a t'
    | bl b => cases rx; exact SeqAt.EqAt.str_bool a t' b
    | int b => obtain ⟨t, rfl⟩ := rx; exact SeqAt.EqAt.str_int a t' b t
    | str b => obtain ⟨t, rfl⟩ := rx; exact SeqAt.EqAt.str_str a t' b t
    | _ => exact absurd (show false = true from fx) Bool.false_ne_true
  | _ => exact absurd (show false = true from fy) Bool.false_ne_true
/-- the items' answers, read off the values (a value's own answer does not lean on its token) -/
noncomputable def eqU (x : V) (u : Value) : Bool := match u with
  | .none => eqV .non x
  | .bool b => eqV (.bl b) x
  | .int i _ => eqV (.int i) x
  | .str z _ => eqV (.str z) x
  | _ => false
theorem eqU_of {x y : V} {u : Value} (r : RelV y u) (f : flatV y = true) : eqU x u = eqV y x := by
  cases y with
  | non => cases r; rfl
  | bl b => cases r; rfl
  | int i => obtain ⟨t, rfl⟩ := r; rfl
  | str z => obtain ⟨t, rfl⟩ := r; rfl
  | _ => exact absurd (show false = true from f) Bool.false_ne_true
theorem any_eqU {x : V} : ∀ {xs : List V} {us : List Value}, Vals xs us → xs.all flatV = true → us.any (eqU x) = xs.any fun y => eqV y x
  | _, _, .nil, _ => rfl
  | y :: xs, u :: us, .cons r t, f => by
    rw [List.all_cons, Bool.and_eq_true] at f
    rw [List.any_cons, List.any_cons, eqU_of r f.1, any_eqU t f.2]
theorem mem_eqAt {A : Around} {s : Shared} {x : V} {v : Value} (rx : RelV x v) (fx : flatV x = true) : ∀ {xs : List V} {us : List Value}, Vals xs us → xs.all flatV = true → ∀ u ∈ us, SeqAt.EqAt A s u v (eqU x u)
  | _, _, .nil, _ => fun u hu => by cases hu
  | y :: xs, u :: us, .cons r t, f => fun u' hu => by
    rw [List.all_cons, Bool.and_eq_true] at f
    rcases List.mem_cons.mp hu with rfl | hu
    · rw [eqU_of r f.1]; exact eqAt_V r rx f.1 fx
    · exact mem_eqAt rx fx t f.2 u' hu
noncomputable def inV (x : V) (xs : List V) : Bool := xs.any fun y => eqV y x
/-- x in a list or tuple of flat items -/
noncomputable def rIn (K : PySem.W.Frag) (neg : Bool) : R2 := fun x y H Q => ∃ p xs, y = .ref p ∧ (SqL K H p xs ∨ SqT K H p xs) ∧ flatV x = true ∧ xs.all flatV = true ∧ Q (.bl (if neg then !inV x xs else inV x xs)) H
theorem op_in_seq : OpR X (compareOp .In) (rIn X.K false) := by
  intro pins s σ H x y v u Q I rx ry h
  obtain ⟨p, xs, rfl, hq, fx, fs, q⟩ := h
  cases ry
  rcases hq with hq | hq
  · obtain ⟨its, r, pl, hz⟩ := I.list hq
    refine SeqAt.in_listAt (eqU x) pl.isList (fun w hw => mem_eqAt rx fx r fs w (by simpa using hw)) ⟨.bl _, H, I, rfl, ?_⟩
    rw [show its.toArray.any (eqU x) = its.any (eqU x) by simp, any_eqU r fs]
    exact q
  · obtain ⟨its, r, pl, hz⟩ := I.tuple hq
    refine SeqAt.in_tupleAt (eqU x) pl (fun w hw => mem_eqAt rx fx r fs w (by simpa using hw)) ⟨.bl _, H, I, rfl, ?_⟩
    rw [show its.toArray.any (eqU x) = its.any (eqU x) by simp, any_eqU r fs]
    exact q
theorem op_notIn_seq : OpR X (compareOp .NotIn) (rIn X.K true) := by
  intro pins s σ H x y v u Q I rx ry h
  obtain ⟨p, xs, rfl, hq, fx, fs, q⟩ := h
  cases ry
  rcases hq with hq | hq
  · obtain ⟨its, r, pl, hz⟩ := I.list hq
    refine SeqAt.notIn_listAt (eqU x) pl.isList (fun w hw => mem_eqAt rx fx r fs w (by simpa using hw)) ⟨.bl _, H, I, rfl, ?_⟩
    rw [show its.toArray.any (eqU x) = its.any (eqU x) by simp, any_eqU r fs]
    exact q
  · obtain ⟨its, r, pl, hz⟩ := I.tuple hq
    refine SeqAt.notIn_tupleAt (eqU x) pl (fun w hw => mem_eqAt rx fx r fs w (by simpa using hw)) ⟨.bl _, H, I, rfl, ?_⟩
    rw [show its.toArray.any (eqU x) = its.any (eqU x) by simp, any_eqU r fs]
    exact q
theorem call_len_seq : CallR X (.builtin "len") (fun xs H Q => ∃ p ys, xs = [.ref p] ∧ (SqL X.K H p ys ∨ SqT X.K H p ys) ∧ Q (.int ys.length) H) := by
  intro pins s σ H xs us Q I r h
  obtain ⟨p, ys, rfl, hq, q⟩ := h
  obtain ⟨u, rfl, rx⟩ := vals1 r
  cases rx
  have hn := line63
  rcases hq with hq | hq
  · obtain ⟨its, r', pl, hz⟩ := I.list hq
    have hlen := r'.length
    exact Calls.call_len_list pl.isList (by simp only [List.size_toArray] <;> lia) ⟨.int ys.length, H, I.tok _, ⟨s.toks + 1, by rw [List.size_toArray, hlen]⟩, q⟩
  · obtain ⟨its, r', pl, hz⟩ := I.tuple hq
    have hlen := r'.length
    exact len_tuple pl (by simp only [List.size_toArray] <;> lia) ⟨.int ys.length, H, I.tok _, ⟨s.toks + 1, by rw [List.size_toArray, hlen]⟩, q⟩
theorem call_len_str : CallR X (.builtin "len") (fun xs H Q => ∃ z, xs = [.str z] ∧ z.length ≤ sizeLine ∧ Q (.int z.length) H) := by
  intro pins s σ H xs us Q I r h
  obtain ⟨z, rfl, hz, q⟩ := h
  obtain ⟨u, rfl, t, rfl⟩ := vals1 r
  have hn := line63
  exact len_str (by lia) ⟨.int z.length, H, I.tok _, ⟨_, rfl⟩, q⟩
theorem CallR.or {f : Value} {r r' : List V → Hp → VK → Prop} (h : CallR X f r) (h' : CallR X f r') : CallR X f (fun xs H Q => r xs H Q ∨ r' xs H Q) := by
  intro pins s σ H xs us Q I rs q
  rcases q with q | q
  · exact h pins s σ H xs us Q I rs q
  · exact h' pins s σ H xs us Q I rs q
/-- the value is of that builtin type -/
noncomputable def tyV (K : PySem.W.Frag) (T : String) (x : V) (H : Hp) : Prop := match x with
  | .str _ => T = "str"
  | .int _ => T = "int"
  | .ref p => (T = "list" ∧ ∃ xs, SqL K H p xs) ∨ (T = "tuple" ∧ ∃ o, K.lookup p = some o ∧ o.cls = .type "tuple" ∧ o.dict = none) ∨
      (T = "dict" ∧ ((∃ kvs, H p = some (.dK kvs)) ∨ ∃ kvs, H p = some (.dT kvs))) ∨ (T = "set" ∧ ∃ S n, H p = some (.set S n))
  | _ => False
theorem tyV_is {pins : List (Addr × Obj)} {σ : St} {H : Hp} {s : Shared} {T : String} {x : V} {v : Value} (I : Inv X pins σ H s) (r : RelV x v) (ty : tyV X.K T x H) :
    s.TypeIs v T ∧ ∀ a, v = .ref a → ∃ ob, s.heap.get? a = some ob ∧ ob.dict = none := by
  cases x with
  | str z =>
    obtain ⟨t, rfl⟩ := r
    cases (show T = "str" from ty)
    exact ⟨typeIs_str s z t, fun _ e => nomatch e⟩
  | int i =>
    obtain ⟨t, rfl⟩ := r
    cases (show T = "int" from ty)
    exact ⟨typeIs_int s i t, fun _ e => nomatch e⟩
  | ref p =>
    cases r
    rcases ty with ⟨rfl, xs, hq⟩ | ⟨rfl, o, hk, hc, hd⟩ | ⟨rfl, hk⟩ | ⟨rfl, S, n, hk⟩
    · obtain ⟨its, _, pl, _⟩ := I.list hq
      refine ⟨pl.isList.typeIs, fun a e => ?_⟩
      cases e
      obtain ⟨o, n, e, c, hd, _⟩ := pl
      exact ⟨o, e, hd⟩
    · refine ⟨⟨o, I.kIn p o hk, hc⟩, fun a e => ?_⟩
      cases e
      exact ⟨o, I.kIn _ o hk, hd⟩
    · have z : ∃ o, s.heap.get? p = some o ∧ o.ExactDict := by
        rcases hk with ⟨kvs, hk⟩ | ⟨kvs, hk⟩
        · obtain ⟨_, _, _, _, o, _, _, e, ex, _⟩ := I.hok p _ hk
          exact ⟨o, e, ex⟩
        · obtain ⟨_, _, _, _, o, _, _, e, ex, _⟩ := I.hok p _ hk
          exact ⟨o, e, ex⟩
      obtain ⟨o, e, ex⟩ := z
      refine ⟨⟨o, e, ex.1⟩, fun a e2 => ?_⟩
      cases e2
      exact ⟨o, e, ex.2.1⟩
    · obtain ⟨o, _, _, _, e, ex, _⟩ := I.hok p _ hk
      refine ⟨⟨o, e, ex.1⟩, fun a e2 => ?_⟩
      cases e2
      exact ⟨o, e, ex.2.1⟩
  | _ => exact False.elim ty
noncomputable def tBM0 (K : PySem.W.Frag) (T : String) (r : V → List V → Hp → VK → Prop) (to : TE) : TE := fun σ H Q => to σ H fun x H1 => tyV K T x H1 ∧ r x [] H1 Q
noncomputable def tBM (K : PySem.W.Frag) (T : String) (r : V → List V → Hp → VK → Prop) (to : TE) (t : TA) : TE := fun σ H Q => to σ H fun x H1 => tyV K T x H1 ∧ t σ H1 fun xs H2 => r x xs H2 Q
variable {o e : Expr} {es : List Expr} {to : TE} {t : TA} {name : Str} {apos cpos : Pos} {T id : String} {r : V → List V → Hp → VK → Prop}
theorem pe_bm0 (pa : PlainAttrs T) (slot : Slot T name id) (hty : typeOf (.builtin id) = pure (.type "method_descriptor")) (hm : MtR X id r) (ho : PE X o to)
    (hbase : attributeBase o name X.env (eval o X.env) = eval o X.env := by rfl) (hline : (apos.endLine == cpos.line) = true := by rfl) : PE X (.Call (.Attribute o name apos) [] [] cpos) (tBM0 X.K T r to) := by
  intro pins s σ H Q I h
  refine wpAny_Call_method0_late hbase hline (thn (ho pins s σ H _ I h) fun v s1 zz => ?_)
  obtain ⟨x, H1, I1, r1, ty, q1⟩ := zz
  obtain ⟨h1, h2⟩ := tyV_is I1 r1 ty
  exact ⟨T, id, pa, slot, hty, h1, h2, Calls.callWith_builtin rfl (PySem.evalArgs_none (hm pins s1 σ H1 x [] v [] Q I1 r1 .nil q1))⟩
theorem pe_bm (pa : PlainAttrs T) (slot : Slot T name id) (hty : typeOf (.builtin id) = pure (.type "method_descriptor")) (hm : MtR X id r) (ho : PE X o to) (ha : PA X (e :: es) t)
    (hbase : attributeBase o name X.env (eval o X.env) = eval o X.env := by rfl)
    (hfew : ((backTo cpos (starEach (e :: es) X.env)).all (fun x => !x.1) && (backToKw cpos (keywordEach [] X.env)).all (fun x => x.1.isSome)
      && decide ((e :: es).length + ([] : List Keyword).length + (if ([] : List Keyword).isEmpty then 0 else 1) < 30)) = true := by rfl)
    (hline : (apos.endLine == cpos.line) = true := by rfl) (hs : starEach (e :: es) X.env = (false, eval e X.env) :: starEach es X.env := by rfl) (hplain : (backTo cpos (starEach es X.env)).any (·.1) = false := by rfl) :
    PE X (.Call (.Attribute o name apos) (e :: es) [] cpos) (tBM X.K T r to t) := by
  intro pins s σ H Q I h
  refine wpAny_Call_method_late hbase hfew hline rfl (thn (ho pins s σ H _ I h) fun v s1 zz => ?_)
  obtain ⟨x, H1, I1, r1, ty, q1⟩ := zz
  obtain ⟨h1, h2⟩ := tyV_is I1 r1 ty
  refine ⟨T, id, pa, slot, hty, h1, h2, ?_⟩
  have hA := ha cpos pins s1 σ H1 _ I1 q1
  rw [hs] at hA ⊢
  refine Calls.callWith_builtin (by show (false || (backTo cpos (starEach es X.env)).any (·.1)) = false; rw [hplain] <;> rfl) (Calls.evalArgs_plain ?_)
  exact thn hA fun us s2 ⟨vs, H2, I2, r2, q2⟩ => hm pins s2 σ H2 x vs v us Q I2 r1 r2 q2
end
end L2
namespace L2
open PySem PySem.Spec PyProof.Rows
noncomputable def MtM (X : Cx) (id : String) (r : V → List V → Hp → VK → Prop) : Prop :=
  ∀ (pins : List (Addr × Obj)) (s : Shared) (σ : St) (H : Hp) (x : V) (xs : List V) (v : Value) (us : List Value) (Q : VK), Inv X pins σ H s → RelV x v → Vals xs us → r x xs H Q →
    wpAny (model X.prog X.w) X.A (call (.builtin id) (v :: us)) (EP X pins σ Q) X.xe s
theorem Vals.one : ∀ {x : V} {us : List Value}, Vals [x] us → ∃ u, us = [u] ∧ RelV x u := by
  intro x us h
  rcases h with _ | ⟨r, _ | _⟩
  exact ⟨_, rfl, r⟩
theorem Vals.zero : ∀ {us : List Value}, Vals [] us → us = []
  | _, .nil => rfl
theorem Vals.dropLast {xs : List V} {us : List Value} (h : Vals xs us) : Vals xs.dropLast us.dropLast := by
  induction h with
  | nil => exact .nil
  | cons r t ih =>
    cases t with
    | nil => exact .nil
    | cons q t' => exact .cons r ih
theorem Vals.reverse {xs : List V} {us : List Value} (h : Vals xs us) : Vals xs.reverse us.reverse := by
  induction h with
  | nil => exact .nil
  | cons r t ih => rw [List.reverse_cons, List.reverse_cons]; exact Vals.append ih (.cons r .nil)
theorem Vals.rep {xs : List V} {us : List Value} (h : Vals xs us) : ∀ k : Nat, Vals (List.replicate k xs).flatten (List.replicate k us).flatten
  | 0 => .nil
  | k + 1 => by
    rw [List.replicate_succ, List.replicate_succ, List.flatten_cons, List.flatten_cons]
    exact Vals.append h (Vals.rep h k)
theorem erase_last {α : Type} (l : List α) : l.eraseIdx (l.length - 1) = l.dropLast := by
  induction l with
  | nil => rfl
  | cons a r ih =>
    cases r with
    | nil => rfl
    | cons b r =>
      have e : (a :: b :: r).length - 1 = ((b :: r).length - 1) + 1 := by
        have h1 : (a :: b :: r).length = r.length + 2 := rfl
        have h2 : (b :: r).length = r.length + 1 := rfl
        lia
      rw [e, List.eraseIdx_cons_succ, ih]
      all_goals rfl
theorem foldl_rep (its : List Value) : ∀ (k : Nat) (acc : List Value),
    List.foldl (fun x1 x2 => x1 ++ x2) acc.toArray (List.replicate k its.toArray) = (acc ++ (List.replicate k its).flatten).toArray
  | 0, acc => by simp
  | k + 1, acc => by
    have e : acc.toArray ++ its.toArray = (acc ++ its).toArray := by simp
    have e2 : (acc ++ its) ++ (List.replicate k its).flatten = acc ++ (List.replicate (k + 1) its).flatten := by
      rw [List.replicate_succ, List.flatten_cons, List.append_assoc]
    rw [← e2, ← foldl_rep its k (acc ++ its), ← e, List.replicate_succ, List.foldl_cons]
section
variable {X : Cx} {pins : List (Addr × Obj)} {σ : St} {H : Hp} {s : Shared} {l b : Addr} {xs ys zs : List V}
theorem Inv.lset {its its' : List Value} {n : Nat} {f : Array Value → Array Value} {t' : Nat} (I : Inv X pins σ H s) (hH : H l = some (.lst xs))
    (e : s.heap.get? l = some { cls := .type "list", data := .seq its.toArray n }) (hf : f its.toArray = its'.toArray) (hv : Vals ys its') (hz : ys.length ≤ sizeLine) :
    Inv X pins σ (upd H l (.lst ys)) { s with heap := s.heap.update l (Obj.mapSeq f), toks := t' } := by
  have q := PySem.IsL.update e f
  rw [hf] at q
  refine I.write (x := l) (e := l) (by rw [hH]; exact trivial) (.inl rfl) (fun b' u hb hu => (Heap.get?_update_other s.heap (Obj.mapSeq f) (Ne.symm hb)).trans hu) ⟨_, q⟩ ?_
  exact ⟨hz, its', _, hv, q⟩
theorem Inv.lnew {its : List Value} {t' : Nat} (I : Inv X pins σ H s) (hv : Vals ys its) (hz : ys.length ≤ sizeLine) :
    Inv X pins σ (upd H s.heap.objs.size (.lst ys)) { s with heap := s.heap.push { cls := .type "list", data := .seq its.toArray }, toks := t' } :=
  I.laid (fun _ _ q => Heap.get?_push_of_some _ q) (Nat.le_refl _) ⟨hz, its, 0, hv, Heap.get?_push_size _ rfl⟩
theorem Inv.fresh (I : Inv X pins σ H s) : H s.heap.objs.size = none := I.hok.fresh (Nat.le_refl _)
theorem Inv.lstM (I : Inv X pins σ H s) (hH : H l = some (.lst xs)) : xs.length ≤ sizeLine ∧ ∃ (its : List Value) (n : Nat), Vals xs its ∧ xs.length = its.length ∧ s.heap.get? l = some { cls := .type "list", data := .seq its.toArray n } := by
  obtain ⟨z, its, n, r, e⟩ := I.hok l _ hH
  exact ⟨z, its, n, r, r.length, e⟩
theorem notLongL {n : Nat} (h : n ≤ sizeLine) : Builtin.List.listTooLong n = false := by
  unfold Builtin.List.listTooLong
  exact decide_eq_false (by lia)
end
section
variable {X : Cx}
noncomputable def rAppend : V → List V → Hp → VK → Prop := fun x vs H Q => ∃ l xs y, x = .ref l ∧ vs = [y] ∧ H l = some (.lst xs) ∧ xs.length < sizeLine ∧ Q .non (upd H l (.lst (xs ++ [y])))
theorem mt_append : MtM X "list.append" rAppend := by
  intro pins s σ H x vs v us Q I rx rv h
  obtain ⟨l, xs, y, rfl, rfl, hH, hz, q⟩ := h
  cases rx
  obtain ⟨u, rfl, ru⟩ := rv.one
  obtain ⟨z, its, n, r, hl, e⟩ := I.lstM hH
  refine call_meets F.slot_list_append ⟨_, e, rfl⟩ F.entry_list_append (F.args_list_append_2 _ _) (PySem.list_append l its.toArray n u (by rw [List.size_toArray]; lia)) ⟨e, ?_⟩
  refine ⟨.non, _, I.lset (its' := its ++ [u]) hH e (by simp) (r.append (.cons ru .nil)) ?_, rfl, q⟩
  rw [List.length_append, List.length_singleton]
  lia
noncomputable def rExtend : V → List V → Hp → VK → Prop := fun x vs H Q => ∃ l b xs zs, x = .ref l ∧ vs = [.ref b] ∧ H l = some (.lst xs) ∧ H b = some (.lst zs) ∧ xs.length + zs.length ≤ sizeLine ∧ Q .non (upd H l (.lst (xs ++ zs)))
theorem mt_extend : MtM X "list.extend" rExtend := by
  intro pins s σ H x vs v us Q I rx rv h
  obtain ⟨l, b, xs, zs, rfl, rfl, hH, hB, hz, q⟩ := h
  cases rx
  obtain ⟨u, rfl, ru⟩ := rv.one
  cases ru
  obtain ⟨z, its, n, r, hl, e⟩ := I.lstM hH
  obtain ⟨z2, its2, n2, r2, hl2, e2⟩ := I.lstM hB
  have hsz : its.toArray.size + its2.toArray.size ≤ sizeLine := by rw [List.size_toArray, List.size_toArray]; lia
  have hlong : ¬ (!its.toArray.isEmpty && Builtin.List.listTooLong (its.toArray.size + its2.toArray.size)) = true := by
    rw [notLongL hsz, Bool.and_false]
    exact Bool.false_ne_true
  refine call_meets F.slot_list_extend ⟨_, e, rfl⟩ F.entry_list_extend (F.args_list_extend_2 _ _)
    (AutoSeq1.list_extend_list_list_0 l its.toArray n b its2.toArray n2 hlong (by rw [List.size_toArray]; lia) (by lia)) ⟨e, e2, ?_⟩
  refine ⟨.non, _, I.lset (its' := its ++ its2) hH e (by simp) (r.append r2) ?_, rfl, q⟩
  rw [List.length_append]
  lia
noncomputable def rPop : V → List V → Hp → VK → Prop := fun x vs H Q => ∃ l xs y, x = .ref l ∧ vs = [] ∧ H l = some (.lst xs) ∧ xs[xs.length - 1]? = some y ∧ Q y (upd H l (.lst xs.dropLast))
theorem mt_pop : MtM X "list.pop" rPop := by
  intro pins s σ H x vs v us Q I rx rv h
  obtain ⟨l, xs, y, rfl, rfl, hH, hy, q⟩ := h
  cases rx
  have hus := rv.zero
  subst hus
  obtain ⟨z, its, n, r, hl, e⟩ := I.lstM hH
  obtain ⟨u, hu, ru⟩ := r.get hy
  have hy' : its.toArray[its.toArray.size - 1]? = some u := by
    show its.toArray[its.length - 1]? = some u
    rw [← Array.getElem?_toList, ← hl]
    exact hu
  refine call_meets F.slot_list_pop ⟨_, e, rfl⟩ F.entry_list_pop (F.args_list_pop_1 _) (MeetsSeq.list_pop_last l its.toArray n u hy' (by rw [List.size_toArray]; lia)) ⟨e, ?_⟩
  refine ⟨y, _, I.lset (its' := its.dropLast) hH e ?_ r.dropLast ?_, ru, q⟩
  · show its.toArray.eraseIdxIfInBounds (its.toArray.size - 1) = its.dropLast.toArray
    rw [List.size_toArray, List.eraseIdxIfInBounds_toArray, erase_last]
  · rw [List.length_dropLast]
    lia
noncomputable def rCat : R2 := fun x y H Q => ∃ l b xs zs, x = .ref l ∧ y = .ref b ∧ H l = some (.lst xs) ∧ H b = some (.lst zs) ∧ xs.length + zs.length ≤ sizeLine ∧ ∀ p, H p = none → Q (.ref p) (upd H p (.lst (xs ++ zs)))
theorem op_cat : OpR X (binaryOp .Add) rCat := by
  intro pins s σ H x y v u Q I rx ry h
  obtain ⟨l, b, xs, zs, rfl, rfl, hH, hB, hz, q⟩ := h
  cases rx
  cases ry
  obtain ⟨z, its, n, r, hl, e⟩ := I.lstM hH
  obtain ⟨z2, its2, n2, r2, hl2, e2⟩ := I.lstM hB
  refine PySem.P.add_list e e2 ?_ (by rw [List.size_toArray, List.size_toArray]; lia)
  have ea : its.toArray ++ its2.toArray = (its ++ its2).toArray := by simp
  rw [ea]
  exact ⟨.ref _, _, I.lnew (t' := s.toks) (r.append r2) (by rw [List.length_append]; lia), rfl, q _ I.fresh⟩
/-- a list times an int (a negative one is nothing) -/
noncomputable def rRep : R2 := fun x y H Q => ∃ l k xs, x = .ref l ∧ y = .int k ∧ H l = some (.lst xs) ∧ -(2 ^ 63) ≤ k ∧ k < 2 ^ 63 ∧ xs.length * k.toNat ≤ sizeLine ∧
  ∀ p, H p = none → Q (.ref p) (upd H p (.lst (List.replicate k.toNat xs).flatten))
theorem len_rep {α : Type} (xs : List α) (k : Nat) : (List.replicate k xs).flatten.length = k * xs.length := by
  induction k with
  | zero => simp
  | succ k ih => rw [List.replicate_succ, List.flatten_cons, List.length_append, ih, Nat.succ_mul, Nat.add_comm]
theorem op_rep : OpR X (binaryOp .Mult) rRep := by
  intro pins s σ H x y v u Q I rx ry h
  obtain ⟨l, k, xs, rfl, rfl, hH, h1, h2, hz, q⟩ := h
  cases rx
  obtain ⟨t, rfl⟩ := ry
  obtain ⟨z, its, n, r, hl, e⟩ := I.lstM hH
  have hlen : its.toArray.size * k.toNat ≤ sizeLine := by rw [List.size_toArray, ← hl]; exact hz
  have hcap : ¬ its.toArray.size * k.toNat > (2 ^ 63 - 1) / 8 := by
    have : (sizeLine : Nat) ≤ (2 ^ 63 - 1) / 8 := by decide
    lia
  have hfit : ¬ (!Builtin.List.listFitsIndex k) = true := by
    rw [fitsIndex_both h1 h2]
    exact Bool.false_ne_true
  have hlong : ¬ Builtin.List.listTooLong (its.toArray.size * k.toNat) = true := by
    rw [notLongL hlen]
    exact Bool.false_ne_true
  have hnew : List.foldl (fun x1 x2 => x1 ++ x2) #[] (List.replicate (if its.toArray.isEmpty = true then 0 else k.toNat) its.toArray) = (List.replicate k.toNat its).flatten.toArray := by
    have f0 : ∀ m : Nat, List.foldl (fun x1 x2 => x1 ++ x2) #[] (List.replicate m its.toArray) = (List.replicate m its).flatten.toArray := fun m => by
      have := foldl_rep its m []
      rw [List.nil_append] at this
      exact this
    rw [f0]
    cases its with
    | nil => simp
    | cons a r' => rw [if_neg (by simp)]
  refine wpAny_binaryOp_repeat_ref (T := "list") (U := "int") (by decide) ⟨_, e, rfl⟩ (fun s' => typeIs_int s' k t) noFill_list_mul F.fills_int_mul F.slot_int_rmul repeat_list F.slot_int_index.lookup
    (call_meets F.slot_int_rmul (typeIs_int s k t) F.entry_int_rmul (F.args_int_rmul_2 _ _) (int___rmul___int_list k t l its.toArray n)
      ⟨e, rfl, ⟨_, e, rfl⟩, call_meets F.slot_list_mul ⟨_, e, rfl⟩ F.entry_list_mul (F.args_list_mul_2 _ _) (AutoListH.list___mul___list_int_3 l its.toArray n k t hfit hcap hlong) ⟨e, ?_⟩⟩)
  rw [hnew]
  exact ⟨.ref _, _, I.lnew (t' := s.toks) (r.rep k.toNat) (by rw [len_rep, Nat.mul_comm]; exact hz), rfl, q _ I.fresh⟩
end
end L2
namespace Att
open PySem PySem.W PySem.Calls PyProof.Rows
theorem ints_of_wellAll {P : Params} {h : Heap} : ∀ (ns : List Int) (vs : List Value), WellAll P h vs (ns.map WData.int) → IntsAre vs ns := by
  intro ns
  induction ns with
  | nil =>
    intro vs w
    rw [List.map_nil] at w
    cases w
    exact .nil
  | cons n ns ih =>
    intro vs w
    rw [List.map_cons] at w
    cases w with
    | cons a b =>
      cases a
      exact .cons _ _ (ih _ b)
theorem script_of {l : OpenLaw} {n : Nat} (hn : l.most = some n) {P : Params} {h : Heap} {args : List WData} {vals : List Value}
    (hpre : l.row.toRowW.claim.pre args = true) (hwl : WellAll P h vals args) :
    ∃ a vs ns, vals = [Value.ref a] ∧ args = [WData.list (ns.map WData.int)] ∧ h.get? a = some { cls := .type "list", data := .seq vs.toArray } ∧ IntsAre vs ns ∧ ns.length ≤ n := by
  have hsh : WShape.hasAll [] args [.list .int] = true := (pre_splitW hpre).1
  have hc : l.pre.holds [] { args := args } = true := (pre_splitW hpre).2
  obtain ⟨d, r, rfl, h1, h2⟩ := hasAllW_cons hsh
  obtain rfl := hasAllW_nil h2
  obtain ⟨xs, rfl, h3⟩ := hasW_list h1
  obtain ⟨ns, rfl⟩ := items_int h3
  have hlen : ns.length ≤ n := by
    unfold OpenLaw.pre at hc
    have h4 : (WTm.not (.lt (.lit (.int (n : Int))) (.len (.arg 0)))).holds [] { args := [.list (ns.map .int)] } = true := by
      have h4 := (holds_andW hc).1
      rw [hn] at h4
      exact h4
    have h5 := condW_of h4 (w_not (w_lt w_lit (w_len_list (w_arg rfl))))
    rw [List.length_map] at h5
    refine Nat.le_of_not_lt fun q => ?_
    have q' : (n : Int) < ((ns.length : Nat) : Int) := by lia
    first
      | (rw [decide_eq_true q'] at h5; exact absurd h5 (by decide))
      | (simp at h5; lia)
  cases hwl with
  | cons w1 w2 =>
    cases w2
    cases w1 with
    | list ho hall => exact ⟨_, _, ns, rfl, rfl, ho, ints_of_wellAll ns _ hall, hlen⟩
theorem post_true (l : OpenLaw) (args : List WData) : l.row.toRowW.claim.post args (.bool true) args = true :=
  postW_of (r := l.row.toRowW) (X := (true == true))
    (show WShape.has [] (.bool true) .bool = true by first | rfl | decide | simp [WShape.has, WShape.arms, WShape.armsAll])
    (show (WTm.eq .res (.lit (.bool true))).value [] { args := args, res := some (.bool true), after := args } = some (.bool (true == true)) from w_eq_bool (w_res rfl) w_lit) rfl
/-- the same from a codeAny of the CALL (for a layer whose function contracts speak of calls) -/
theorem attach_call {l : OpenLaw} {n : Nat} {q : Program} {loose : List Str} {XP : (Str → Option Value) → Heap → Prop} {YP : World → Heap → Prop} {d : DefRec}
    (hn : l.most = some n) (hdf : d.params.defaults = [])
    (call : ∀ (w : World) (s₀ s₁ : Shared) (mg mb : Str → Option Value) (fa : Addr) (o : Obj) (pm cd doc : Value) (a : Addr) (vs : List Value) (ns : List Int),
      Ground q loose [] XP w s₀ mg mb s₁.heap → YP w s₁.heap →
      s₁.heap.get? fa = some o → o.data = .func (docDef d.name d.params d.body d.scope pm cd doc) → s₁.heap.CodeRec cd d.name → mg d.name = some (.ref fa) →
      s₁.heap.get? a = some { cls := .type "list", data := .seq vs.toArray } → IntsAre vs ns → ns.length ≤ n → s₁.gens = #[] →
      codeAny (model l.prog w) callerA (.call (.ref fa) ⟨[.ref a], []⟩) (fun r s' => r = .ok (.ret (.bool true)) ∧ OldK s₁.heap s'.heap ∧ s'.os = s₁.os ∧ AllBare s'.gens) s₁) :
    WalkO q loose XP YP l.row.toRowW d [] (fun f vs => PySem.call f vs) := by
  intro w s₀ s₁ mg mb G Y fa o pm cd doc dV kV ho hd hcd hD hmg hg args vals as hpre hlay hrd hwl hlo
  obtain rfl : dV = .none := Dflts.none hD hdf
  obtain rfl : kV = .none := Dflts.noKw hD
  obtain ⟨a, vs, ns, rfl, rfl, hobj, hints, hlen⟩ := script_of hn hpre hwl
  refine enter_call (codeAny_mono (call w s₀ s₁ mg mb fa o pm cd doc a vs ns G Y ho (fd_plain hd) hcd hmg hobj hints hlen hg) fun r s' hq => ?_)
  obtain ⟨rfl, h2, h3, h4⟩ := hq
  exact ⟨.inl ⟨.bool true, .bool true, [], rfl, fun _ => rfl, .bool true, post_true l _, fun _ => ⟨List.Pairwise.nil, fun _ hm => (nomatch hm)⟩⟩, h2, h3, h4⟩
end Att
namespace L2
open PySem PySem.Spec PyProof.Rows
theorem vals_ints : ∀ {vs : List Value} {ns : List Int}, IntsAre vs ns → Vals (ns.map V.int) vs
  | _, _, .nil => .nil
  | _, _, .cons n t h => .cons ⟨t, rfl⟩ (vals_ints h)
/-- nothing is tracked but the script, known to the object (or it is an object of the module) -/
noncomputable def Only (H : Hp) : Prop := ∀ b, H b = none ∨ ∃ o xs, H b = some (.frz o (.lst xs))
/-- THE HEAD: the law's promise, at the heap behind the top. F, the promise of the law's def, may use that base is part of the heap (so K.In base, base.Ns mainGlobals mg stand in Mod) -/
theorem law_call {P : Program} {w : World} {K : PySem.W.Frag} {mg mb : Str → Option Value} {CX : CXT} {k : Nat} {fa a : Addr} {fd : FuncData} {x : Str} {sp : Sp} {s₁ : Shared} {vs : List Value} {ns : List Int}
    (KX : K.In s₁.heap) (hns : s₁.heap.Ns mainGlobals mg) (hb : s₁.heap.Ns builtinsNs mb) (hbb : ∀ x : Str, x ≠ "__name__" → mb x = bootBuiltins x) (hlim : s₁.heap.NoLimit) (hg : s₁.gens = #[])
    (ha : s₁.heap.get? a = some { cls := .type "list", data := .seq vs.toArray }) (hi : IntsAre vs ns) (hl : ns.length ≤ sizeLine) (hr : Room k callerA)
    (F : ∀ base : Heap, K.In base → base.Ns mainGlobals mg → FnOk P w K mg base CX k fa fd [x] sp) (hbind : ∀ (s : Shared) (u : Value), BindsTo s fd ⟨[u], []⟩ [(x, u)])
    (hsp : ∀ H : Hp, Only H → SqL K H a (ns.map V.int) → sp [.ref a] H (fun v _ => v = .bl true) fun _ _ _ => False)
    (hCX : ∀ H e s', CX [] H s₁ (fun _ _ _ => False) e s' → False) :
    codeAny (model P w) callerA (.call (.ref fa) ⟨[.ref a], []⟩) (fun r s' => r = .ok (.ret (.bool true)) ∧ OldK s₁.heap s'.heap ∧ s'.os = s₁.os ∧ AllBare s'.gens) s₁ := by
  have rv := vals_ints hi
  have lenV := hi.length
  -- from an abstract heap in which nothing but the script may be tracked
  have core : ∀ H : Hp, Only H → SqL K H a (ns.map V.int) → HOk P w H s₁.heap → (∀ b, H b ≠ none → b = a) → (H a ≠ none → K.lookup a = none) →
      codeAny (model P w) callerA (.call (.ref fa) ⟨[.ref a], []⟩) (fun r s' => r = .ok (.ret (.bool true)) ∧ OldK s₁.heap s'.heap ∧ s'.os = s₁.os ∧ AllBare s'.gens) s₁ := by
    intro H hO hS hok hA hK
    have base_of : ∀ {b : Addr} {o : Obj}, s₁.heap.get? b = some o → H b = none → (hidT s₁.heap H).get? b = some o := fun e n => hidT_get e n
    have noA : ∀ {b : Addr} {o : Obj} {es : Array DictEntry} {ep : Nat}, s₁.heap.get? b = some o → o.data = .dict es ep → H b = none := fun {b o es ep} e d => by
      cases q : H b with
      | none => rfl
      | some u =>
        have e' : b = a := hA b (by rw [q]; simp)
        subst e'
        rw [ha] at e; cases e
        have d' : Data.seq vs.toArray _ = Data.dict es ep := d
        cases d'
    have nsK : ∀ {b : Addr} {m : Str → Option Value}, s₁.heap.Ns b m → (hidT s₁.heap H).Ns b m := fun {b m} ⟨o, es, ep, e, d, r⟩ => ⟨o, es, ep, base_of e (noA e d), d, r⟩
    have hKb : K.In (hidT s₁.heap H) := fun b o e => base_of (KX b o e) (by
      cases q : H b with
      | none => rfl
      | some u =>
        have e' : b = a := hA b (by rw [q]; simp)
        subst e'
        rw [hK (by rw [q]; simp)] at e; cases e)
    have hM : Mod K mg (hidT s₁.heap H) := ⟨hKb, nsK hns, ⟨mb, nsK hb, hbb⟩, let ⟨mc, h1, h2⟩ := hlim; ⟨mc, nsK h1, h2⟩⟩
    have e0 : Env0 P w K mg (hidT s₁.heap H) callerA [] s₁ H := ⟨rfl, hM, fun b o e => of_hidT e, Nat.le_of_eq (hidT_size _ _), trivial, fun b hb => absurd (show b ∈ ([] : List Addr) from hb) (by simp), hok, .of_eq hg⟩
    refine codeAny_mono ((F _ hKb (nsK hns)).run callerA [] s₁ H ⟨[.ref a], []⟩ [.ref a] [.ref a] _ _ hr e0 (hbind s₁ (.ref a)) (.cons rfl .nil) (hsp H hO hS)) fun r s' h => ?_
    cases r with
    | error e => exact (hCX H e s' h).elim
    | ok fl =>
      cases fl with
      | next => exact False.elim h
      | brk => exact False.elim h
      | cont => exact False.elim h
      | ret u =>
        obtain ⟨v, H', os, bare, un, hok', r', q⟩ := h
        have q' : v = .bl true := q
        subst q'
        obtain rfl : u = Value.bool true := r'
        refine ⟨rfl, OldK.of_keep fun b o e => ?_, os, bare⟩
        cases q : H b with
        | none => exact un.keep b o e q (by intro z; exact absurd (show b ∈ ([] : List Addr) from z) (by simp)) (by simp)
        | some u =>
          rcases hO b with z | ⟨ob, xs, z⟩
          · rw [q] at z; cases z
          · have z2 := un.frzs b ob _ z
            obtain ⟨e1, _⟩ := hok b _ z
            obtain ⟨e2, _⟩ := hok' b _ z2
            rw [e] at e1; cases e1
            exact e2
  cases hk : K.lookup a with
  | some o =>
    -- the script is one of the module's own objects
    have e := KX a o hk
    rw [ha] at e
    cases e
    refine core (fun _ => none) (fun _ => .inl rfl) (.inr ⟨_, vs.toArray, _, hk, rfl, rfl, rfl, by rw [List.size_toArray, lenV]; exact hl, by simpa using rv⟩) (fun b u z => by have z' : (none : Option HO) = some u := z; cases z') (fun b z => absurd rfl z) fun z => absurd rfl z
  | none =>
    refine core (fun b => if b = a then some (.frz { cls := .type "list", data := .seq vs.toArray } (.lst (ns.map V.int))) else none) (fun b => ?_) (.inl (.inr ⟨{ cls := .type "list", data := .seq vs.toArray }, if_pos rfl⟩)) (fun b u z => ?_) (fun b z => ?_) fun _ => hk
    · by_cases hb : b = a
      · exact .inr ⟨_, _, if_pos hb⟩
      · exact .inl (if_neg hb)
    · by_cases hb : b = a
      · have z' := (if_pos hb).symm.trans z
        cases z'
        subst hb
        exact ⟨ha, by rw [List.length_map]; exact hl, vs, _, rv, ha⟩
      · have z' := (if_neg hb).symm.trans z
        cases z'
    · by_cases hb : b = a
      · exact hb
      · exact absurd (if_neg hb) z
end L2
namespace L2
open PySem PySem.Spec PyProof.Rows
/-- the goal that k_head leaves (case hc), from the law's promise. F gives the function object fd (K's own) once, then the promise over every base -/
theorem walk_of {l : PySem.W.OpenLaw} {n k : Nat} {q : Program} {loose : List Str} {XP : (Str → Option Value) → Heap → Prop} {YP : World → Heap → Prop} {d : DefRec} {K : Params → PySem.W.Frag} {CX : World → CXT} {sp : World → Sp} {x : Str}
    (hn : l.most = some n) (hn2 : n ≤ sizeLine) (hdf : d.params.defaults = []) (hr : Room k callerA)
    (hY : ∀ (w : World) (h : Heap), YP w h → (K w.params).In h)
    (F : ∀ (w : World) (mg : Str → Option Value) (fa : Addr) (h : Heap), (K w.params).In h → h.Ns mainGlobals mg → mg d.name = some (.ref fa) →
      ∃ fd : FuncData, (∀ (s : Shared) (u : Value), BindsTo s fd ⟨[u], []⟩ [(x, u)]) ∧
        ∀ base : Heap, (K w.params).In base → base.Ns mainGlobals mg → FnOk l.prog w (K w.params) mg base (CX w) k fa fd [x] (sp w))
    (hsp : ∀ (w : World) (H : Hp) (a : Addr) (ns : List Int), ns.length ≤ n → Only H → SqL (K w.params) H a (ns.map V.int) → sp w [.ref a] H (fun v _ => v = .bl true) fun _ _ _ => False)
    (hCX : ∀ (w : World) (H : Hp) (s : Shared) (e : Value) (s' : Shared), CX w [] H s (fun _ _ _ => False) e s' → False) :
    PySem.W.WalkO q loose XP YP l.row.toRowW d [] (fun f vs => PySem.call f vs) := by
  refine Att.attach_call hn hdf fun w s₀ s₁ mg mb fa o pm cd doc a vs ns G Y ho hd hcd hmg hobj hints hlen hg => ?_
  have KX := hY w _ Y
  obtain ⟨fd, hb, hF⟩ := F w mg fa _ KX G.T.g hmg
  exact law_call KX G.T.g G.T.b G.T.builtins G.T.nolimit hg hobj hints (Nat.le_trans hlen hn2) hr hF hb (fun H hO hS => hsp w H a ns hlen hO hS) fun H e s' => hCX w H s₁ e s'
end L2
namespace L2
open PySem PySem.Spec PyProof.Rows
noncomputable def defArgs (s : Stmt) : Arguments := match s with
  | .FunctionDef _ a _ _ _ _ _ _ _ _ => a
  | _ => { posonlyargs := [], args := [], vararg := none, kwonlyargs := [], kw_defaults := [], kwarg := none, defaults := [] }
noncomputable def defBody (s : Stmt) : List Stmt := match s with
  | .FunctionDef _ _ b _ _ _ _ _ _ _ => b
  | _ => []
noncomputable def defScope (s : Stmt) : Scope := match s with
  | .FunctionDef _ _ _ _ _ _ sc _ _ _ => sc
  | _ => { kind := .function, names := [], isGenerator := false, isCoroutine := false }
noncomputable abbrev CX0 : CXT := fun _ _ _ _ _ _ => False
noncomputable abbrev E0 : XK := fun _ _ _ => False
theorem pass0 {X : Cx} : Passes CX0 X E0 := fun _ _ _ _ _ _ _ h => h.elim
structure Fun (K : PySem.W.Frag) (x qual : Str) (st : Stmt) (f : Addr) (fd : FuncData) : Prop where
  ex : ∃ (oc : Value) (od : Option Addr) (kV doc pm : Value) (an : Option Addr) (cdv ct : Value) (osl : Array (Option Value)),
    fd = PySem.W.fnOf x qual (defArgs st) (defBody st) (defScope st) .none kV doc pm an cdv ct ∧ K.lookup f = some ⟨oc, od, .func fd, osl⟩ ∧ PySem.W.codeIn K cdv qual = true
  kp : PySem.W.keepIn K (.ref f) = true
section
variable {P : Program} {w : World} {K : PySem.W.Frag} {mg : Str → Option Value} {base : Heap}
/-- THE RULE for a def: its body as a term of rules, and the reading of that term -/
theorem Fun.ok {x qual : Str} {st : Stmt} {f : Addr} {fd : FuncData} {N ps : List Str} {k : Nat} {sp : Sp} (F : Fun K x qual st f fd) (S : FnScope N ps (defScope st)) (len : ∀ vs H Q E, sp vs H Q E → vs.length = ps.length)
    (hbody : ∀ (cdv : Value) (A : Around) (outer : List Env) (s : Shared) (H : Hp) (vs : List V) (Q : VK) (E : XK), Room k (A.deeper (envOfC qual (defScope st) s.heap.objs.size f cdv)) → sp vs H Q E →
      ∃ t, PSs (cxOf CX0 P w K mg base N qual (defScope st) f cdv A outer s H E).nox (defBody st) t ∧ t { nx := fun _ H' => Q .non H', rt := Q } (start N vs) H) : FnOk P w K mg base CX0 (k + 1) f fd ps sp := by
  obtain ⟨oc, od, kV, doc, pm, an, cdv, ct, osl, rfl, lk, hcd⟩ := F.ex
  refine fn_of lk hcd S len fun A outer s H vs Q E hr hsp => ?_
  obtain ⟨t, h, q⟩ := hbody cdv A outer s H vs Q E hr hsp
  exact ⟨t, h.nox, q⟩
/-- how its arguments bind (no defaults): h is «fun _ _ _ _ _ _ us hl => match us, hl with | [_, _], _ => rfl», one _ a parameter -/
theorem Fun.binds {x qual : Str} {st : Stmt} {f : Addr} {fd : FuncData} {ps : List Str} (F : Fun K x qual st f fd)
    (h : ∀ (kV doc pm : Value) (an : Option Addr) (cdv ct : Value) (us : List Value), us.length = ps.length → bindArgs (PySem.W.fnOf x qual (defArgs st) (defBody st) (defScope st) .none kV doc pm an cdv ct) ⟨us, []⟩ = pure (ps.zip us)) : Binds K fd ps [] := by
  obtain ⟨oc, od, kV, doc, pm, an, cdv, ct, osl, rfl, lk, hcd⟩ := F.ex
  exact .all (h kV doc pm an cdv ct)
theorem fun_mk {x qual : Str} {st : Stmt} {f : Addr} {oc : Value} {od an : Option Addr} {osl : Array (Option Value)} {kV doc pm cdv ct : Value} (l : K.lookup f = some ⟨oc, od, .func (PySem.W.fnOf x qual (defArgs st) (defBody st) (defScope st) .none kV doc pm an cdv ct), osl⟩)
    (c : PySem.W.codeIn K cdv qual = true) (k : PySem.W.keepIn K (.ref f) = true) : Fun K x qual st f (PySem.W.fnOf x qual (defArgs st) (defBody st) (defScope st) .none kV doc pm an cdv ct) := ⟨⟨oc, od, kV, doc, pm, an, cdv, ct, osl, rfl, l, c⟩, k⟩
end
theorem hu_of {A : Around} {k : Nat} (hr : Room k A) : A.units + 1 < cLine := Nat.lt_of_le_of_lt (Nat.add_le_add_left (by decide : 1 ≤ 64) _) hr.units
section
variable {X : Cx}
/-- len of a dict -/
theorem call_lenD : CallR X (.builtin "len") (fun xs H Q => ∃ a kvs, xs = [V.ref a] ∧ H a = some (.dK kvs) ∧ Q (.int kvs.length) H) := by
  intro pins s σ H xs us Q I r h
  obtain ⟨a, kvs, rfl, ha, q⟩ := h
  obtain ⟨u, rfl, ru⟩ := vals1 r
  cases ru
  exact d_len I (.inl ha) fun t s' I' => ⟨.int kvs.length, H, I', ⟨t, rfl⟩, q⟩
end
/-- all that was tracked is as it was -/
noncomputable def Same (H H' : Hp) : Prop := ∀ b o, H b = some o → H' b = some o
theorem Same.free {H H' : Hp} (e : Same H H') {l : Addr} (h : H' l = Option.none) : H l = Option.none := by
  cases q : H l with
  | none => rfl
  | some o =>
    rw [e l o q] at h
    cases h
end L2
set_option maxHeartbeats 4000000
namespace PySem
noncomputable def clOf (names : List (Str × NameKind)) (env : Env) : List (Str × Addr) :=
  names.foldl (fun cs p => if p.2 == NameKind.free then (p.1, (env.cells.lookup p.1).getD 0) :: cs else cs) []
theorem closure_loop : ∀ (l : List (Str × NameKind)) (acc : List (Str × Addr)), (∀ p ∈ l, p.2 = .free → ∃ c, env.cells.lookup p.1 = some c) →
    (forIn l acc (fun (x : Str × NameKind) (cs : List (Str × Addr)) => match x with
      | (name, kind) => if (kind == NameKind.free) = true then (do let a ← cellOf env name; pure (ForInStep.yield ((name, a) :: cs)) : Sem _) else pure (ForInStep.yield cs))) =
    (pure (l.foldl (fun cs p => if p.2 == NameKind.free then (p.1, (env.cells.lookup p.1).getD 0) :: cs else cs) acc) : Sem _)
  | [], acc, _ => by simp
  | (n, k) :: r, acc, h => by
    have ih := fun a => closure_loop r a fun p hp => h p (List.mem_cons_of_mem _ hp)
    rw [List.forIn_cons]
    by_cases hk : k = .free
    · subst hk
      obtain ⟨c, e⟩ := h (n, .free) List.mem_cons_self rfl
      have e' : cellOf env n = pure c := by unfold cellOf; rw [e]
      show (if (NameKind.free == NameKind.free) = true then (do let a ← cellOf env n; pure (ForInStep.yield ((n, a) :: acc)) : Sem _) else pure (ForInStep.yield acc)) >>= _ = _
      rw [if_pos (by rfl), e', pure_bind, pure_bind]
      rw [List.foldl_cons]
      have e2 : (if ((n, NameKind.free).2 == NameKind.free) = true then ((n, NameKind.free).1, (env.cells.lookup (n, NameKind.free).1).getD 0) :: acc else acc) = (n, c) :: acc := by
        rw [if_pos (by rfl), e]; rfl
      rw [e2]
      exact ih _
    · have hb : (k == NameKind.free) = false := by simpa using hk
      simp only [hb, Bool.false_eq_true, if_false, pure_bind, ih, List.foldl_cons]
theorem closureFor_all  (h : ∀ p ∈ scope.names, p.2 = .free → ∃ c, env.cells.lookup p.1 = some c) : closureFor scope env = pure (clOf scope.names env) := by
  unfold closureFor clOf
  have := closure_loop scope.names [] h
  simp only [bind_pure]
  exact this
theorem mem_clOf {env : Env} : ∀ {l : List (Str × NameKind)} {acc : List (Str × Addr)} {y : Str} {c : Addr},
    (y, c) ∈ l.foldl (fun cs p => if p.2 == NameKind.free then (p.1, (env.cells.lookup p.1).getD 0) :: cs else cs) acc ↔ (y, c) ∈ acc ∨ ((y, NameKind.free) ∈ l ∧ c = (env.cells.lookup y).getD 0)
  | [], acc, y, c => by simp
  | (n, k) :: r, acc, y, c => by
    rw [List.foldl_cons, mem_clOf]
    by_cases hk : k = .free
    · subst hk
      simp only [beq_self_eq_true, if_true, List.mem_cons, Prod.mk.injEq]
      constructor
      · rintro ((⟨rfl, rfl⟩ | h) | ⟨h1, h2⟩)
        · exact .inr ⟨.inl ⟨rfl, trivial⟩, rfl⟩
        · exact .inl h
        · exact .inr ⟨.inr h1, h2⟩
      · rintro (h | ⟨⟨rfl, _⟩ | h1, h2⟩)
        · exact .inl (.inr h)
        · exact .inl (.inl ⟨rfl, h2⟩)
        · exact .inr ⟨h1, h2⟩
    · have hb : (k == NameKind.free) = false := by simpa using hk
      simp only [hb, Bool.false_eq_true, if_false, List.mem_cons, Prod.mk.injEq]
      constructor
      · rintro (h | ⟨h1, h2⟩)
        · exact .inl h
        · exact .inr ⟨.inr h1, h2⟩
      · rintro (h | ⟨⟨_, h⟩ | h1, h2⟩)
        · exact .inl h
        · exact absurd h.symm hk
        · exact .inr ⟨h1, h2⟩
theorem mem_of_lookupG {β : Type} : ∀ {l : List (Str × β)} {a : Str} {b : β}, l.lookup a = some b → (a, b) ∈ l
  | [], _, _, h => by simp at h
  | (k, v) :: l, a, b, h => by
    rw [List.lookup_cons] at h
    split at h
    · rename_i e
      cases h
      have : a = k := by simpa using e
      subst this
      exact List.mem_cons_self
    · exact List.mem_cons_of_mem _ (mem_of_lookupG h)
theorem lookup_of_mem {β : Type} : ∀ {l : List (Str × β)} {a : Str} {b : β}, (a, b) ∈ l → ∃ b', l.lookup a = some b'
  | [], _, _, h => by simp at h
  | (k, v) :: l, a, b, h => by
    rw [List.lookup_cons]
    split
    · exact ⟨v, rfl⟩
    · rename_i e
      rcases List.mem_cons.mp h with q | q
      · cases q
        simp at e
      · exact lookup_of_mem q
theorem relabel_lookup {env : Env} : ∀ {names : List (Str × NameKind)} {y : Str} {k : NameKind},
    (names.map fun (n, k) => if (k == NameKind.free && env.scope.kind == .function && env.kindOf n == some .cell) then (n, NameKind.cell) else (n, k)).lookup y = some k →
    names.lookup y = some k ∨ (names.lookup y = some .free ∧ k = .cell)
  | [], _, _, h => by simp at h
  | (n, k0) :: r, y, k, h => by
    rw [List.map_cons] at h
    by_cases hc : (k0 == NameKind.free && env.scope.kind == .function && env.kindOf n == some .cell) = true
    · simp only [hc, if_true] at h
      rw [List.lookup_cons] at h ⊢
      cases hy : y == n with
      | true =>
        rw [hy] at h
        cases h
        have : k0 = .free := by
          rw [Bool.and_eq_true, Bool.and_eq_true] at hc
          simpa using hc.1.1
        subst this
        exact .inr ⟨rfl, rfl⟩
      | false =>
        rw [hy] at h
        exact relabel_lookup h
    · rw [Bool.not_eq_true] at hc
      simp only [hc, Bool.false_eq_true, if_false] at h
      rw [List.lookup_cons] at h ⊢
      cases hy : y == n with
      | true =>
        rw [hy] at h
        exact .inl h
      | false =>
        rw [hy] at h
        exact relabel_lookup h
theorem relabel_free {env : Env} : ∀ {names : List (Str × NameKind)} {y : Str}, names.lookup y = some .free →
    (names.map fun (n, k) => if (k == NameKind.free && env.scope.kind == .function && env.kindOf n == some .cell) then (n, NameKind.cell) else (n, k)).lookup y = some .cell ∨
    (names.map fun (n, k) => if (k == NameKind.free && env.scope.kind == .function && env.kindOf n == some .cell) then (n, NameKind.cell) else (n, k)).lookup y = some .free
  | [], _, h => by simp at h
  | (n, k0) :: r, y, h => by
    rw [List.map_cons]
    rw [List.lookup_cons] at h
    cases hy : y == n with
    | true =>
      rw [hy] at h
      cases h
      by_cases hc : (NameKind.free == NameKind.free && env.scope.kind == .function && env.kindOf n == some .cell) = true
      · left; simp only [hc, if_true, List.lookup_cons, hy]
      · rw [Bool.not_eq_true] at hc
        right; simp only [hc, Bool.false_eq_true, if_false, List.lookup_cons, hy]
    | false =>
      rw [hy] at h
      have ih := relabel_free (env := env) h
      by_cases hc : (k0 == NameKind.free && env.scope.kind == .function && env.kindOf n == some .cell) = true
      · simp only [hc, if_true, List.lookup_cons, hy]; exact ih
      · rw [Bool.not_eq_true] at hc
        simp only [hc, Bool.false_eq_true, if_false, List.lookup_cons, hy]; exact ih
section
/-- what one turn of a comprehension over a list asks: the next one, let go, stored, tested, and its element appended -/
noncomputable def CompAsks (prog : Program) (w : World) (A : Around) (elt target : Expr) (ifs : List Expr) (env : Env) (it acc : Value) (last : Shared → Prop) (on : Shared → Prop) : Shared → Prop :=
  let no : Value → Shared → Prop := fun _ _ => False
  wpAny (model prog w) A (pyNext it) (fun r s1 => match r with
    | none => last s1
    | some v => wpAny (model prog w) A (letOwnedTupleGo target it v) (fun _ => wpAny (model prog w) A (assign target env v) (fun _ => wpAny (model prog w) A
        (forIn ifs true fun c r => if r = true then do let ok ← isTrue c env (eval c env); pure (ForInStep.yield ok) else pure (ForInStep.yield r))
        (fun ok s4 => if ok = true then wpAny (model prog w) A (eval elt env) (fun x => wpAny (model prog w) A (call (.builtin "list.append") [acc, x]) (fun _ => on) no) no s4 else on s4) no) no) no s1) no
theorem comp_turn {last on : Shared → Prop} {s : Shared} (h : CompAsks prog w A elt target ifs env it acc last on s) :
    wpAny (model prog w) A (compTurn (.ListComp elt [⟨target, iter, ifs, 0⟩] scope pos) 0 it acc env) (fun r t => r = .done .next ∧ last t ∨ r = .again (.compLoop (.ListComp elt [⟨target, iter, ifs, 0⟩] scope pos) 0 it acc env) ∧ on t) (fun _ _ => False) s := by
  have off : ∀ {R : Value → Shared → Prop} (e : Value) (t : Shared), False → R e t := fun _ _ f => f.elim
  rw [compTurn_list]
  refine wpAny_bind (wpAny_standAt (wpAny_bind (wpAny_mono h (fun r s1 k => ?_) off)))
  match r, k with
  | none, k => exact wpAny_pure (.inl ⟨rfl, k⟩)
  | some v, k =>
    refine wpAny_bind (wpAny_mono k (fun _ _ k => wpAny_bind (wpAny_mono k (fun _ _ k => wpAny_bind (wpAny_mono k (fun ok s4 k => ?_) off)) off)) off)
    match ok, k with
    | false, k => exact wpAny_pure (.inr ⟨rfl, k⟩)
    | true, k => exact wpAny_bind (wpAny_bind (wpAny_mono k (fun _ _ k => wpAny_bind (wpAny_mono k (fun _ _ k => wpAny_pure (wpAny_pure (.inr ⟨rfl, k⟩))) off)) off))
theorem codeAny_compLoop_any (I : Nat → Shared → Prop) (turn : ∀ n s, I n s → CompAsks prog w A elt target ifs env it acc (R (.ok .next)) (fun t => ∃ m, m < n ∧ I m t) s) (n : Nat) (h : I n s) :
    codeAny (model prog w) A (.compLoop (.ListComp elt [⟨target, iter, ifs, 0⟩] scope pos) 0 it acc env) R s := by
  refine codeAny_loop rfl I (fun n s k => wpAny_noted ?_) n h
  refine wpAny_mono (comp_turn (turn n s k)) (fun r t k => ?_) fun _ _ f => f.elim
  rcases k with ⟨rfl, k⟩ | ⟨rfl, k⟩
  · exact k
  · exact ⟨rfl, k⟩
end
end PySem
namespace L2
open PySem PySem.Spec PyProof.Rows
/-- what a comprehension's block stands on: its iterator's records, the state and the abstract heap ahead of it, its own names' address, the pins -/
structure CompAt where
  fp : List Addr
  s : Shared
  H : Hp
  C : Addr
  pins : List (Addr × Obj)
noncomputable def compCx (X : Cx) (scope : Scope) (N : List Str) (z : CompAt) : Cx :=
  { X with N := N, s₀ := z.s, H₀ := z.H, env := compEnvC scope (clOf scope.names X.env) z.C X.env, outer := X.stack, ex := z.fp, fn := fun _ => false, pn := X.pn ++ z.pins, xe := fun _ _ => False }
structure CompOk (X : Cx) (scope : Scope) (x : Str) (ys : List Str) (ix : List Nat) : Prop where
  kind : scope.kind = .function
  hx : scope.names.lookup x = some .local
  nocell : ∀ p ∈ scope.names, p.2 ≠ .cell
  names : ∀ p ∈ scope.names, p.2 = .local → scope.names.lookup p.1 = some .local
  fr : ∀ p ∈ scope.names, p.2 = .free → X.env.kindOf p.1 = some .cell ∨ X.env.kindOf p.1 = some .free
  len : ys.length = ix.length
  here : ∀ (j : Nat) (y : Str) (i : Nat), ys[j]? = some y → ix[j]? = some i → scope.names.lookup y = some .free ∧ X.N[i]? = some y
  nd : (x :: ys).Nodup
/-- the tests of a comprehension -/
noncomputable def PIfs (X : Cx) (ifs : List Expr) (t : TT) : Prop :=
  ∀ (pins : List (Addr × Obj)) (s : Shared) (σ : St) (H : Hp) (Q : Bool → Hp → Prop), Inv X pins σ H s → t σ H Q →
    wpAny (model X.prog X.w) X.A (forIn ifs true fun c r => if r = true then do let ok ← isTrue c X.env (eval c X.env); pure (ForInStep.yield ok) else pure (ForInStep.yield r)) (TP X pins σ Q) X.xe s
noncomputable def tNoIf : TT := fun _ H Q => Q true H
theorem pifs_nil : PIfs X [] tNoIf := fun pins s σ H Q I h => wpAny_tests_nil ⟨H, I, h⟩
theorem pifs_one  (h : PT X c t) : PIfs X [c] t := fun pins s σ H Q I q => wpAny_tests_one (h pins s σ H Q I q)
section
theorem comp_turned    (I : Inv X pins σ H s) (f : FpOk X pins H C) (hs : Heap.SameBut C s.heap h') : Inv X pins σ H { s with heap := h' } :=
  I.turned (fun b o hb e => (hs.2 b hb).trans e) f.1 f.2.1 f.2.2.2.1 f.2.2.2.2.1 f.2.2.2.2.2
end
noncomputable def Its (z : Str) : It := ⟨fun i _ => i < z.cps.size, fun i H x H' => H' = H ∧ ∃ c, z.cps[i]? = some c ∧ x = .str ⟨#[c]⟩, fun i _ => z.cps.size ≤ i⟩
theorem turn_str {P : Program} {w : World} {K : PySem.W.Frag} {tg : Expr} {ty : String} (hty : ty = "str_ascii_iterator" ∨ ty = "str_iterator") (z : Str) (t : Tok) (it : Addr) : Turn P w K tg (Its z) [it] it (fun i h => h.IsStrIter it ty z t i) where
  mem := by simp
  obj := fun i h st b hb => by
    have e : b = it := by simpa using hb
    subst e
    obtain ⟨o, e, c, d⟩ := st
    exact ⟨o, e, fun v q => by rw [d] at q; cases q⟩
  keep := fun i h h' st k => by
    obtain ⟨o, e, r⟩ := st
    exact ⟨o, k it (by simp) o e, r⟩
  item := by
    intro X hP hw hK hc i pins s σ H E I hf st hg
    subst hP hw hK
    obtain ⟨f0, f1, f2, f3, f4, f5⟩ := hf it (by simp)
    have hn : ["enumerate", "zip", "dict_itemiterator", "dict_reverseitemiterator", "odict_iterator", "itertools.zip_longest", "itertools.pairwise"].contains ty = false := by rcases hty with rfl | rfl <;> decide
    have fin : ∀ (v : Value) (h' : Heap) (tk : Nat), SignAt z i v → h'.IsStrIter it ty z t (i + 1) → (∀ b o, b ∉ [it] → s.heap.get? b = some o → h'.get? b = some o) →
        ∃ u, some v = some u ∧ wpAny (model X.prog X.w) X.A (letOwnedTupleGo tg (.ref it) u) (fun _ s2 => ∃ x H', Inv X pins σ H' s2 ∧ RelV x u ∧ (Its z).yld i H x H' ∧ s2.heap.IsStrIter it ty z t (i + 1) ∧ ∀ b ∈ [it], H' b = none) E { s with heap := h', toks := tk } := by
      intro v h' tk hv st' kk
      obtain ⟨c, u, hc', rfl⟩ := hv
      have I1 : Inv X pins σ H { s with heap := h', toks := tk } := I.turned (fun b o hb e => kk b o (by simpa using hb) e) f0 f1 f3 f4 f5
      obtain ⟨o, e, c1, d⟩ := id st'
      exact ⟨_, rfl, go_of e c1 d hn ⟨.str ⟨#[c]⟩, H, I1, ⟨u, rfl⟩, ⟨rfl, c, hc', rfl⟩, st', fun b hb => (hf b hb).1⟩⟩
    rcases hty with rfl | rfl
    · exact (Walks.strAscii (I.ok.hd hc) it z t).item i s _ _ hg st fin
    · exact (Walks.strWide (I.ok.hd hc) it z t).item i s _ _ hg st fin
  done := by
    intro X hP hw hK hc i pins s σ H E I hf st hg
    subst hP hw hK
    obtain ⟨f0, f1, f2, f3, f4, f5⟩ := hf it (by simp)
    have hx : z.cps[i]? = none := Array.getElem?_eq_none hg
    rcases hty with rfl | rfl
    · exact wpAny_pyNext_ascii_end (I.ok.hd hc) st hx fun h' eb => ⟨rfl, I.turned (fun b o hb e => eb b o hb e) f0 f1 f3 f4 f5⟩
    · exact wpAny_pyNext_wide_end (I.ok.hd hc) st hx fun h' eb => ⟨rfl, I.turned (fun b o hb e => eb b o hb e) f0 f1 f3 f4 f5⟩
  self := fun _ _ _ _ _ st h => by
    rcases hty with rfl | rfl
    · exact wpAny_pyIter_striter_ascii st h
    · exact wpAny_pyIter_striter_wide st h
section
noncomputable def iStr (tl : TE) : TI := fun σ H R => tl σ H fun x H1 => ∃ z, x = .str z ∧ R (Its z) H1
theorem pi_str {l : Expr} {tl : TE} (hl : PE X l tl) : PI X tg l (iStr tl) := by
  intro pins s σ H R I h
  refine thn (hl pins s σ H _ I h) fun v s1 zz => ?_
  obtain ⟨x, H1, I1, r1, q1⟩ := zz
  obtain ⟨z, e, q⟩ := q1
  subst e
  obtain ⟨t, rfl⟩ := r1
  have fin : ∀ ty : String, (ty = "str_ascii_iterator" ∨ ty = "str_iterator") → PIE X pins σ tg R (.ref s1.heap.objs.size) { s1 with heap := s1.heap.push { cls := .type ty, data := .fields #[.str z t, .int 0 0] } } := fun ty hty => by
    refine ⟨s1.heap.objs.size, [s1.heap.objs.size], _, _, H1, rfl, I1.kept fun b o e => Heap.get?_push_of_some _ e, turn_str hty z t _, ⟨_, Heap.get?_push_size _ rfl, rfl, rfl⟩, fun b hb => ?_, q⟩
    have e : b = s1.heap.objs.size := by simpa using hb
    subst e
    exact I1.fpOk (Nat.le_refl _) (I1.hok.fresh (Nat.le_refl _))
  cases ha : z.cps.all (· < 128)
  · exact wpAny_pyIter_wide ha (fin _ (.inr rfl))
  · exact wpAny_pyIter_ascii ha (fin _ (.inl rfl))
end
end L2
namespace PySem
open PyProof.Rows
theorem lri_no_len : typeLookup (.type "list_reverseiterator") "__len__" = pure none := by rw [typeLookup_type, builtinLookup_eq_fast]; kernel_rfl
theorem lri_hint : typeLookup (.type "list_reverseiterator") "__length_hint__" = pure (some (.builtin "list_reverseiterator.__length_hint__")) := by rw [typeLookup_type, builtinLookup_eq_fast]; kernel_rfl
section
/-- a reversed list's iterator: how long it is isn't asked at once -/
theorem rev_hint (hT : s.TypeIs (.ref r) "list_reverseiterator") (h : Q false s) : wpAny (model prog w) A (Builtin.List.listLengthHint (.ref r)) Q E s := by
  have isa : isSubtype (.type "list_reverseiterator") (.type "list_reverseiterator") = pure true := by rw [isSubtype_type]; kernel_rfl
  have cut : splitId "list_reverseiterator.__length_hint__" = some ("list_reverseiterator", "__length_hint__") := by decide +kernel
  unfold Builtin.List.listLengthHint
  refine wpAny_bind (wpAny_specialOf hT lri_no_len (wpAny_bind (wpAny_specialOf hT lri_hint ?_)))
  dsimp only
  rw [cut]
  refine wpAny_bind (wpAny_isInstance hT isa ?_)
  rw [if_neg (by decide), if_pos (by decide +kernel), if_neg (by decide +kernel)]
  exact wpAny_pure h
/-- a list, new -/
noncomputable def NewList (s : Shared) : Value → Shared → Prop := fun v t => v = .ref s.heap.objs.size ∧ t = { s with heap := s.heap.push { cls := .type "list", data := .seq #[] } }
/-- list(reversed(l)), the second call -/
theorem call_list_rev  (hh : A.handled = none) (hl : s.heap.IsList l items) (hne : l ≠ it) (hi : s.heap.IsRevIter it l ((items.size : Int) - 1)) (hn : items.size ≤ sizeLine)
    (hQ : ∀ h' tk acc c, (∀ b o, b ≠ it → s.heap.get? b = some o → h'.get? b = some o) → h'.get? s.heap.objs.size = some { cls := .type "list", dict := none, data := .seq acc c, slots := #[] } →
      ItemsOf (fun i v => items[items.size - 1 - i]? = some v) acc items.size → Q (.ref s.heap.objs.size) { s with heap := h', toks := tk }) :
    wpAny (model prog w) A (call (.type "list") [.ref it]) Q E s := by
  refine callType_codes (Q₁ := NewList s) PySem.F.called_list (PySem.F.typeCall_list_1 _) PySem.F.entry_list_init (code_list_new _ ⟨rfl, rfl⟩) ?_
  rintro _ _ ⟨rfl, rfl⟩
  have hS := Heap.get?_push_size s.heap (o := { cls := .type "list", data := .seq #[] }) rfl
  have below : ∀ {b o}, s.heap.get? b = some o → b < s.heap.objs.size := Heap.lt_size
  have hlt : l < s.heap.objs.size := hl.elim fun _ q => below q.1
  have hit : it < s.heap.objs.size := hi.elim fun _ q => below q.1
  refine ⟨⟨_, hS, rfl⟩, PySem.F.args_list_init_2 _ _, ?_⟩
  show wpAny _ _ (do let old ← Builtin.List.listItems (.ref s.heap.objs.size); Builtin.List.listUpdate (.ref s.heap.objs.size) (fun _ => #[]); letGo old.toList.reverse; Builtin.List.listExtendWith (.ref s.heap.objs.size) (.ref it) .none) _ _ _
  refine wpAny_bind ?_
  unfold Builtin.List.listItems
  refine wpAny_bind (wpAny_seqItems hS rfl (wpAny_pure ?_))
  show wpAny _ _ (updateSeq s.heap.objs.size (fun _ => #[]) >>= fun _ => letGo (#[] : Array Value).toList.reverse >>= fun _ => Builtin.List.listExtendWith (.ref s.heap.objs.size) (.ref it) .none) _ _ _
  refine wpAny_bind (wpAny_updateSeq hS rfl ?_)
  have hS₂ := Heap.get?_update_self (Obj.mapSeq (fun _ => (#[] : Array Value))) hS rfl
  generalize hh2 : (s.heap.push { cls := .type "list", data := .seq #[] }).update s.heap.objs.size (Obj.mapSeq (fun _ => (#[] : Array Value))) = h2 at hS₂ ⊢
  have oth : ∀ b o, s.heap.get? b = some o → h2.get? b = some o := fun b o e => by
    rw [← hh2]
    exact (Heap.get?_update_other _ _ (Nat.ne_of_gt (Heap.lt_size e))).trans (Heap.get?_push_of_some _ e)
  refine wpAny_bind (wpAny_letGo ?_)
  have hl2 : h2.IsList l items := hl.at fun o e => oth l o e
  have hi2 : h2.IsRevIter it l ((items.size : Int) - 1) := hi.at fun o e => oth it o e
  have hSI : s.heap.objs.size ≠ it := Nat.ne_of_gt hit
  have W := Walks.listRev (prog := prog) (w := w) (A := A.in1.in1) hh it l hne items
  have st : (fun i (h : Heap) => i ≤ items.size ∧ h.IsRevIter it l ((items.size : Int) - 1 - (i : Int)) ∧ h.IsList l items) 0 h2 := ⟨Nat.zero_le _, by simpa using hi2, hl2⟩
  unfold Builtin.List.listExtendWith
  have hT : ({ s with heap := h2 } : Shared).TypeIs (.ref it) "list_reverseiterator" := hi2.typeIs
  refine wpAny_bind (wpAny_typeOf hT ?_)
  have h1 : Builtin.List.listSameRef (.ref s.heap.objs.size) (.ref it) = false := by simp [Builtin.List.listSameRef, hSI]
  have h2' : (Value.type "list_reverseiterator" == Value.type "list") = false := by decide
  have h3 : (Value.type "list_reverseiterator" == Value.type "tuple") = false := by decide
  simp only [h1, h2', h3, Bool.or_false, Bool.false_eq_true, if_false]
  refine wpAny_bind (wpAny_pyIter_revIter hi2 ?_)
  refine wpAny_bind (wpAny_holding (rev_hint hT ?_))
  have hSf : s.heap.objs.size ∉ [it, l] := by simp only [List.mem_cons, List.not_mem_nil, or_false, not_or]; exact ⟨hSI, Nat.ne_of_gt hlt⟩
  have key : ∀ (h : Heap) (c₁ : Nat), (fun i (h : Heap) => i ≤ items.size ∧ h.IsRevIter it l ((items.size : Int) - 1 - (i : Int)) ∧ h.IsList l items) 0 h → (∀ b o, s.heap.get? b = some o → h.get? b = some o) →
      h.get? s.heap.objs.size = some { cls := .type "list", data := .seq #[] c₁ } → codeAny (model prog w) A.in1 (.builtin "list.extend.loop" ⟨[.ref s.heap.objs.size, .ref it, .none], []⟩) (wants (fun r s₂ => r = .none ∧ Q (.ref s.heap.objs.size) s₂) E) { s with heap := h } := by
    intro h c₁ hst hk hS₁
    refine codeAny_extend_loopS W.toS hn s.heap.objs.size hSf .none items.size 0 _ #[] c₁ rfl (Nat.zero_le _) hst hS₁ (ItemsOf.nil _) fun s' acc' c' hm hS' hacc => ?_
    rw [Moved.eq_with hm]
    refine ⟨rfl, hQ s'.heap s'.toks acc' c' (fun b o hb e => hm.heap b o (fun hmem => ?_) (hk b o e)) hS' hacc⟩
    rcases List.mem_cons.mp hmem with e' | hmem
    · exact absurd (Heap.lt_size e) (by rw [e']; exact Nat.lt_irrefl _)
    · exact hb (List.mem_singleton.mp hmem)
  refine wpAny_ite_split (fun _ => ?_) (fun _ => wpAny_pure ⟨plainId_quiet PySem.F.plain_extend_loop _, key _ _ st oth hS₂⟩)
  refine wpAny_bind (wpAny_rule ?_)
  refine wpAny_bind ?_
  show wpAny _ _ (updateSeq s.heap.objs.size (·.push .none) >>= fun _ => updateSeq s.heap.objs.size (·.pop)) _ _ _
  refine wpAny_bind (wpAny_updateSeq hS₂ rfl ?_)
  have hS₃ := Heap.get?_update_self (Obj.mapSeq (·.push Value.none)) hS₂ rfl
  refine wpAny_updateSeq hS₃ rfl ?_
  have hS₄ := Heap.get?_update_self (Obj.mapSeq (·.pop)) hS₃ rfl
  have oth2 := ((Heap.SameBut.update h2 s.heap.objs.size (Obj.mapSeq (·.push Value.none))).trans (Heap.SameBut.update _ _ (Obj.mapSeq (·.pop)))).extBut
  refine wpAny_pure ⟨plainId_quiet PySem.F.plain_extend_loop _, key _ _ ?_ (fun b o e => oth2 b o (Nat.ne_of_lt (Heap.lt_size e)) (oth b o e)) hS₄⟩
  exact W.frame 0 _ _ st fun b hb o e => oth2 b o (fun z => hSf (z ▸ hb)) e
end
end PySem
namespace L2
open PySem PySem.Spec PyProof.Rows
section
/-- list(reversed(e)) -/
theorem pe_listrev (hc : X.calm = true) (gl : Gl X "list") (ml : X.mg "list" = none) (gr : Gl X "reversed") (mr : X.mg "reversed" = none) (he : PE X e te)
    (hs1 : starEach [e] X.env = [(false, eval e X.env)] := by rfl)
    (hs2 : starEach [.Call (.Name "reversed" p2) [e] [] q2] X.env = [(false, eval (.Call (.Name "reversed" p2) [e] [] q2) X.env)] := by rfl) :
    PE X (.Call (.Name "list" p1) [.Call (.Name "reversed" p2) [e] [] q2] [] q1) (fun σ H Q => te σ H fun x H1 => ∃ l ys, x = .ref l ∧ SqL X.K H1 l ys ∧ ∀ p, H1 p = none → Q (.ref p) (upd H1 p (.lst ys.reverse))) := by
  intro pins s σ H Q I h
  refine Call_ (ld_blt I gl ml PyProof.Rows.boot_list (PyProof.Rows.callWith_type1 ?_ (by rw [hs2]; rfl) rfl))
  rw [hs2]
  show wpAny _ _ (spliced ((false, eval (.Call (.Name "reversed" p2) [e] [] q2) X.env) :: backTo q1 [])) _ _ s
  refine Calls.spliced_cons ?_
  refine Call_ (ld_blt I gr mr PyProof.Rows.boot_reversed (PyProof.Rows.callWith_type1 ?_ (by rw [hs1]; rfl) rfl))
  rw [hs1]
  show wpAny _ _ (spliced ((false, eval e X.env) :: backTo q2 [])) _ _ s
  refine Calls.spliced_cons (thn (he pins s σ H _ I h) fun u s1 ⟨x, H1, I1, r1, q1⟩ => Calls.spliced_nil ?_)
  obtain ⟨l, ys, e1, hq, q⟩ := q1
  subst e1
  cases r1
  obtain ⟨its, rv, p, hz⟩ := I1.list hq
  have hlen := rv.length
  refine call_reversed_list p.isList (Calls.spliced_nil ?_)
  have hl1 : (s1.heap.push (revObj l ((its.toArray.size : Int) - 1))).IsList l its.toArray := p.isList.push _
  have hlt : l < s1.heap.objs.size := by obtain ⟨_, e, _⟩ := p.isList; exact Heap.lt_size e
  refine call_list_rev (I1.ok.hd hc) hl1 (Nat.ne_of_lt hlt) ⟨_, Heap.get?_push_size _ rfl, rfl, rfl⟩ (by rw [List.size_toArray, ← hlen]; exact hz) fun h' tk acc c hk hD hacc => ?_
  have hk' : ∀ b o, s1.heap.get? b = some o → h'.get? b = some o := fun b o e => hk b o (Nat.ne_of_lt (Heap.lt_size e)) (Heap.get?_push_of_some _ e)
  have hsz : s1.heap.objs.size ≤ (s1.heap.push (revObj l ((its.toArray.size : Int) - 1))).objs.size := by rw [Heap.size_push]; exact Nat.le_succ _
  have hv : acc.toList = its.reverse := by
    refine List.ext_getElem? fun i => ?_
    by_cases hi : i < its.length
    · have hi2 : i < acc.size := by rw [hacc.1, List.size_toArray]; exact hi
      have e := hacc.2 i acc[i] (Array.getElem?_eq_getElem hi2)
      rw [List.getElem?_reverse hi, Array.getElem?_toList, Array.getElem?_eq_getElem hi2]
      simpa using e.symm
    · rw [List.getElem?_eq_none (by rw [Array.length_toList, hacc.1, List.size_toArray]; lia), List.getElem?_eq_none (by rw [List.length_reverse]; lia)]
  refine ⟨.ref _, _, I1.laid hk' hsz ?_, rfl, q _ (I1.hok.fresh hsz)⟩
  exact ⟨by rw [List.length_reverse]; exact hz, acc.toList, c, by rw [hv]; exact rv.reverse, by rw [Array.toArray_toList]; exact hD⟩
theorem op_fdivB : OpR X (binaryOp .FloorDiv) (rI (fun _ j => 0 < j ∧ j < 2 ^ 200) fun i j => .int (i / j)) := opI fun i j _ _ _ _ _ hc q => by
  have h0 : j ≠ 0 := by lia
  refine floordiv_int h0 ?_ (.inl (PyProof.noPylong_of_log2 ?_))
  · rw [Int.fdiv_eq_ediv_of_nonneg _ (by lia)]; exact q
  · have : j.natAbs < 2 ^ 200 := by lia
    have h1 : j.natAbs ≠ 0 := by lia
    exact Nat.lt_trans ((Nat.log2_lt h1).mpr this) (by decide)
theorem bools_of : ∀ {bs : List Bool} {us : List Value}, Vals (bs.map V.bl) us → us = bs.map Value.bool
  | [], _, r => by rw [List.map_nil] at r; cases r; rfl
  | b :: bs, _, r => by
    rw [List.map_cons] at r
    cases r with
    | cons r1 r2 => rw [List.map_cons, ← bools_of r2]; cases (show _ = Value.bool b from r1); rfl
theorem call_all (hc : X.calm = true) : CallR X (.builtin "all") (fun xs H Q => ∃ (p : Addr) (bs : List Bool), xs = [.ref p] ∧ SqL X.K H p (bs.map V.bl) ∧ Q (.bl (bs.all id)) H) := by
  intro pins s σ H xs us Q I r h
  obtain ⟨p, bs, rfl, hq, q⟩ := h
  obtain ⟨u, rfl, ru⟩ := vals1 r
  cases ru
  obtain ⟨its, rv, pl, hz⟩ := I.list hq
  have hits := bools_of rv
  have hlt : p < s.heap.objs.size := by obtain ⟨_, e, _⟩ := pl.isList; exact Heap.lt_size e
  refine call_all_walk (wpAny_pyIter_list pl.isList ?_)
  refine ⟨s.heap.objs.size, [s.heap.objs.size, p], [s.heap.objs.size], its.toArray.size, _, _, fun i => (bs[i]?).getD true, rfl, Walks.list (A := X.A.in1) (I.ok.hd hc) _ p (Nat.ne_of_lt hlt) its.toArray,
    ⟨⟨_, Heap.get?_push_size _ rfl, rfl, rfl⟩, pl.isList.push _⟩, fun i v s' Q' E' hP hQ => ?_, fun h' tk hk => ?_⟩
  · have e : (bs.map Value.bool)[i]? = some v := by rw [← hits]; simpa using hP
    rw [List.getElem?_map] at e
    cases eb : bs[i]? with
    | none => rw [eb] at e; cases e
    | some b =>
      rw [eb] at e
      cases (show Value.bool b = v from Option.some.inj e)
      simp only [eb, Option.getD_some] at hQ
      exact wpAny_truthy_bool hQ
  · have e : ((List.range its.toArray.size).all fun i => (bs[i]?).getD true) = bs.all id := by
      rw [List.size_toArray, hits, List.length_map]; exact PyProof.Rows.LSm.range_all bs
    rw [e]
    refine ⟨.bl (bs.all id), H, I.kept fun b o eo => hk b o (fun hm => ?_) (Heap.get?_push_of_some _ eo), rfl, q⟩
    rw [List.mem_singleton.mp hm] at eo
    exact Nat.lt_irrefl _ (Heap.lt_size eo)
theorem strs_of : ∀ {ys : List Str} {us : List Value}, Vals (ys.map V.str) us → StrsAre us ys
  | [], _, r => by rw [List.map_nil] at r; cases r; exact .nil
  | y :: ys, _, r => by
    rw [List.map_cons] at r
    cases r with
    | cons r1 r2 =>
      obtain ⟨t, rfl⟩ := r1
      exact .cons y t (strs_of r2)
noncomputable def rJoin (K : PySem.W.Frag) : V → List V → Hp → VK → Prop := fun x vs H Q => ∃ (z : Str) (p : Addr) (ys : List Str), x = .str z ∧ vs = [.ref p] ∧ SqL K H p (ys.map V.str) ∧ (ys.map (·.length)).sum + ys.length * z.length ≤ 16777216 ∧ Q (.str (Txt.join z ys)) H
theorem mt_join : MtR X "str.join" (rJoin X.K) := by
  intro pins s σ H x xs v us Q I rx r h
  obtain ⟨z, p, ys, rfl, rfl, hq, hz, q⟩ := h
  obtain ⟨t, rfl⟩ := rx
  obtain ⟨u, rfl, ru⟩ := vals1 r
  cases ru
  obtain ⟨its, rv, pl, _⟩ := I.list hq
  exact join_list pl.isList (strs_of (by simpa using rv)) hz fun t' k => ⟨.str (Txt.join z ys), H, I.tok _, ⟨_, rfl⟩, q⟩
end
end L2
namespace L2
open PySem PySem.Spec PyProof.Rows Builtin.Str
section
noncomputable def rSlS : V → Option Int → Option Int → Hp → VK → Prop := fun x lo hi H Q => ∃ z, x = .str z ∧ z.length ≤ sizeLine ∧ Q (.str (Txt.slice z lo hi)) H
theorem sl_str : SlR X rSlS := by
  intro pins s σ H x v vl vu lo hi sl Q I rx hs pl pu h
  obtain ⟨z, rfl, hz, q⟩ := h
  obtain ⟨t, rfl⟩ := rx
  refine ⟨"str", _, PySem.F.slot_str_getitem.lookup, typeIs_str _ _ _, ?_⟩
  cases pl with
  | none =>
    cases pu with
    | none => exact wpAny_getItem_str_slice (l := none) (u := none) (st := none) hs rfl (post_val_or_str ⟨Nat.le_trans (Txt.slice_le z _ _) hz, fun t' k => ⟨.str (Txt.slice z none none), H, I.tok _, ⟨_, rfl⟩, q⟩⟩)
    | int j uj => exact wpAny_getItem_str_slice (l := none) (u := some (j, uj)) (st := none) hs rfl (post_val_or_str ⟨Nat.le_trans (Txt.slice_le z _ _) hz, fun t' k => ⟨.str (Txt.slice z none (some j)), H, I.tok _, ⟨_, rfl⟩, q⟩⟩)
  | int i ui =>
    cases pu with
    | none => exact wpAny_getItem_str_slice (l := some (i, ui)) (u := none) (st := none) hs rfl (post_val_or_str ⟨Nat.le_trans (Txt.slice_le z _ _) hz, fun t' k => ⟨.str (Txt.slice z (some i) none), H, I.tok _, ⟨_, rfl⟩, q⟩⟩)
    | int j uj => exact wpAny_getItem_str_slice (l := some (i, ui)) (u := some (j, uj)) (st := none) hs rfl (post_val_or_str ⟨Nat.le_trans (Txt.slice_le z _ _) hz, fun t' k => ⟨.str (Txt.slice z (some i) (some j)), H, I.tok _, ⟨_, rfl⟩, q⟩⟩)
theorem op_mul_str : OpR X (binaryOp .Mult) (fun x y H Q => ∃ z n, x = .str z ∧ y = .int n ∧ MulOk z n ∧ Q (.str (Txt.mul z n)) H) := by
  intro pins s σ H x y v u Q I rx ry h
  obtain ⟨z, n, rfl, rfl, hm, q⟩ := h
  obtain ⟨t, rfl⟩ := rx
  obtain ⟨t', rfl⟩ := ry
  exact SB.mul hm fun t' k => ⟨.str (Txt.mul z n), H, I.tok _, ⟨_, rfl⟩, q⟩
theorem call_isinst : CallR X (.builtin "isinstance") (fun xs H Q => ∃ x t n b, xs = [x, .ty n] ∧ TyOf X.K H x t ∧ PySem.W.kitOne X.K t (.type n) = some b ∧ Q (.bl b) H) := by
  intro pins s σ H xs us Q I r h
  obtain ⟨x, t, n, b, rfl, ty, hk, q⟩ := h
  obtain ⟨u, w', rfl, ru, rw'⟩ := vals2 r
  cases (show w' = Value.type n from rw')
  exact isinst_ok I ru ty hk fun tk => ⟨.bl b, H, I.tok _, rfl, q⟩
noncomputable def eqVs : List V → List V → Bool
  | [], [] => true
  | x :: xs, y :: ys => eqV x y && eqVs xs ys
  | _, _ => false
theorem range_succ_all (n : Nat) (f : Nat → Bool) : (List.range (n + 1)).all f = (f 0 && (List.range n).all fun j => f (j + 1)) := by
  rw [List.range_succ_eq_map, List.all_cons, List.all_map]; rfl
noncomputable def rEqL (K : PySem.W.Frag) (neg : Bool) : R2 := fun x y H Q => ∃ a b xs ys, x = .ref a ∧ y = .ref b ∧ SqL K H a xs ∧ SqL K H b ys ∧ xs.all flatV = true ∧ ys.all flatV = true ∧ Q (.bl (if neg then !eqVs xs ys else eqVs xs ys)) H
end
noncomputable def Has (P : Program) (w : World) (K : PySem.W.Frag) (mg : Str → Option Value) (base : Heap) (x : Str) (k : Nat) (ps : List Str) (sp : Sp) : Prop :=
  ∃ (f : Addr) (fd : FuncData), mg x = some (.ref f) ∧ PySem.W.keepIn K (.ref f) = true ∧ Binds K fd ps [] ∧ FnOk P w K mg base CX0 k f fd ps sp
theorem pe_has     (h : Has X.prog X.w X.K X.mg X.base x k ps sp) (hr : Room k X.A) (hg : Gl X x) (ha : PA X (e :: es) t)
    (hdb : (x == ("__debug__" : Str)) = false := by decide) (he : starEach (e :: es) X.env = (false, eval e X.env) :: starEach es X.env := by rfl) (hpl : (backTo pos (starEach es X.env)).any (·.1) = false := by rfl) :
    PE X (.Call (.Name x p) (e :: es) [] pos) (tCall sp [] E0 t) := by
  obtain ⟨f, fd, hm, hk, hb, G⟩ := h
  exact pe_call G hr hg hm hk hb .nil pass0 ha hdb he hpl
end L2
namespace L2
open PySem PySem.Spec PyProof.Rows
noncomputable def inStN (n : Nat) (ix : List Nat) (σ : St) : St := List.replicate n none ++ ix.map fun i => (σ[i]?).getD none
structure CompOkN (X : Cx) (scope : Scope) (xs ys : List Str) (ix : List Nat) : Prop where
  kind : scope.kind = .function
  hx : ∀ x ∈ xs, scope.names.lookup x = some .local
  nocell : ∀ p ∈ scope.names, p.2 ≠ .cell
  names : ∀ p ∈ scope.names, p.2 = .local → scope.names.lookup p.1 = some .local
  fr : ∀ p ∈ scope.names, p.2 = .free → X.env.kindOf p.1 = some .cell ∨ X.env.kindOf p.1 = some .free
  len : ys.length = ix.length
  here : ∀ (j : Nat) (y : Str) (i : Nat), ys[j]? = some y → ix[j]? = some i → scope.names.lookup y = some .free ∧ X.N[i]? = some y
  nd : (xs ++ ys).Nodup
noncomputable def compChkN (osc : Scope) (N : List Str) (scope : Scope) (xs ys : List Str) (ix : List Nat) : Bool :=
  decide (scope.kind = .function) && xs.all (fun x => decide (scope.names.lookup x = some .local)) && scope.names.all (fun p => decide (p.2 ≠ .cell)) &&
  scope.names.all (fun p => decide (p.2 = .local → scope.names.lookup p.1 = some .local)) &&
  scope.names.all (fun p => decide (p.2 = .free → osc.names.lookup p.1 = some .cell ∨ osc.names.lookup p.1 = some .free)) &&
  decide (ys.length = ix.length) && (ys.zip ix).all (fun p => decide (scope.names.lookup p.1 = some .free ∧ N[p.2]? = some p.1)) && decide ((xs ++ ys).Nodup)
theorem compOkN_of   (hsc : X.env.scope = osc) (hN : X.N = N) (h : compChkN osc N scope xs ys ix = true) : CompOkN X scope xs ys ix := by
  unfold compChkN at h
  simp only [Bool.and_eq_true, List.all_eq_true, decide_eq_true_eq] at h
  obtain ⟨⟨⟨⟨⟨⟨⟨h1, h2⟩, h3⟩, h4⟩, h5⟩, h6⟩, h7⟩, h8⟩ := h
  refine ⟨h1, h2, h3, h4, fun p hp hf => ?_, h6, fun j y i e1 e2 => ?_, h8⟩
  · have := h5 p hp hf
    unfold Env.kindOf
    rw [hsc]
    exact this
  · rw [hN]
    refine h7 (y, i) ?_
    have : (ys.zip ix)[j]? = some (y, i) := by rw [List.getElem?_zip_eq_some]; exact ⟨e1, e2⟩
    exact List.mem_of_getElem? this
/-- a state that keeps what the block took from the def -/
noncomputable def KeepN (n : Nat) (ix : List Nat) (σ σ' : St) : Prop := σ'.length = n + ix.length ∧ ∀ (j : Nat) v, (inStN n ix σ)[j]? = some (some v) → σ'[j]? = some (some v)
theorem inStN_len (n : Nat) (ix : List Nat) (σ : St) : (inStN n ix σ).length = n + ix.length := by
  unfold inStN
  rw [List.length_append, List.length_replicate, List.length_map]
theorem inStN_lt   (h : j < n) (v : V) : (inStN n ix σ)[j]? ≠ some (some v) := by
  unfold inStN
  rw [List.getElem?_append_left (by rw [List.length_replicate]; exact h), List.getElem?_replicate, if_pos h]
  intro e
  have : (none : Option V) = some v := Option.some.inj e
  cases this
theorem comp_invN   (O : CompOkN X scope xs ys ix)    
    (I : Inv X pins σ H s) (hf : ∀ b ∈ fp, FpOk X pins H b) (hfl : ∀ b ∈ fp, b < s.heap.objs.size) (m : Str → Option Value)
    (hns : h'.Ns s.heap.objs.size m) (hk : ∀ b o, s.heap.get? b = some o → h'.get? b = some o) :
    Inv (compCx X scope (xs ++ ys) ⟨fp, s, H, s.heap.objs.size, pins⟩) [] (inStN xs.length ix σ) H { s with heap := h', toks := t' } := by
  have hC : H s.heap.objs.size = none := I.hok.fresh (Nat.le_refl _)
  have cl : ∀ y c, (clOf scope.names X.env).lookup y = some c → X.env.cells.lookup y = some c := fun y c e => by
    rcases (mem_clOf).mp (mem_of_lookupG e) with z | ⟨z, rfl⟩
    · simp at z
    · obtain ⟨c', e'⟩ := I.ok.has y (O.fr _ z rfl)
      rw [e']; rfl
  have clh : ∀ y, (y, NameKind.free) ∈ scope.names → ∃ c, (clOf scope.names X.env).lookup y = some c := fun y z => lookup_of_mem ((mem_clOf).mpr (.inr ⟨z, rfl⟩))
  refine ⟨⟨I.ok.mod, O.kind, I.ok.glob, I.ok.blt, Nat.le_refl _, fun y z c h1 h2 => I.ok.inj y z c (cl y c h1) (cl z c h2), fun y hy => ?_, fun y c h _ => ?_, I.ok.hd, I.ok.frames, .inl rfl,
    fun b hb => ⟨Nat.ne_of_lt (hfl b hb), fun y c e => (hf b hb).2.2.2.2.1 y c (cl y c e)⟩, I.bs, Nat.le_trans I.ok.bsz I.sz, fun b o e hb => ?_, fun b hb hb2 => ?_, I.stack, I.stkFree⟩,
    rfl, I.bare, Un.kept hk, ⟨m, hns, fun i y v e1 e2 vis => ?_⟩, fun y c e => ?_, hC, fun y c e => I.freeC y c (cl y c e), fun p hp => ?_, I.hok.kept hk, ?_⟩
  · rcases hy with h | h
    · rcases relabel_lookup h with q | ⟨q, _⟩
      · exact absurd rfl (O.nocell _ (mem_of_lookupG q))
      · exact clh y (mem_of_lookupG q)
    · rcases relabel_lookup h with q | ⟨q, e⟩
      · exact clh y (mem_of_lookupG q)
      · cases e
  · exact Bool.noConfusion (show false = true from h)
  · rcases (hf b hb).2.2.2.1 with z | z
    · exact I.ok.noex b o e z
    · exact absurd (Nat.lt_of_lt_of_le (Nat.lt_of_lt_of_le (Heap.lt_size e) I.ok.bsz) z) (Nat.lt_irrefl _)
  · exact (List.mem_cons.mp (I.stkSub b hb2)).elim (fun e => (hf b hb).2.1 e) fun z => (hf b hb).2.2.1 z
  · have hil : xs.length ≤ i := Nat.le_of_not_lt fun q => inStN_lt q v e2
    obtain ⟨j, rfl⟩ := Nat.exists_eq_add_of_le hil
    have ey : ys[j]? = some y := by
      have e1' : (xs ++ ys)[xs.length + j]? = some y := e1
      rw [List.getElem?_append_right (Nat.le_add_right _ _), Nat.add_sub_cancel_left] at e1'
      exact e1'
    have e2' : (ix.map fun i => (σ[i]?).getD none)[j]? = some (some v) := by
      have e2'' : (inStN xs.length ix σ)[xs.length + j]? = some (some v) := e2
      unfold inStN at e2''
      rw [List.getElem?_append_right (by rw [List.length_replicate]; exact Nat.le_add_right _ _), List.length_replicate, Nat.add_sub_cancel_left] at e2''
      exact e2''
    rw [List.getElem?_map] at e2'
    cases hi : ix[j]? with
    | none => rw [hi] at e2'; cases e2'
    | some i =>
      rw [hi] at e2'
      have e3 : (σ[i]?).getD none = some v := Option.some.inj e2'
      obtain ⟨hfree, hN⟩ := O.here j y i ey hi
      have ev : σ[i]? = some (some v) := by
        cases h : σ[i]? with
        | none => rw [h] at e3; cases e3
        | some q => rw [h] at e3; exact congrArg some e3
      obtain ⟨m', _, hl⟩ := I.loc
      have hkx := O.fr (y, .free) (mem_of_lookupG hfree) rfl
      obtain ⟨u, r, l⟩ := hl i y v hN ev (hkx.elim (fun z => .inr (.inl z)) fun z => .inr (.inr z))
      refine ⟨u, r, .inr ⟨relabel_free hfree, ?_⟩⟩
      obtain ⟨c, ec⟩ := clh y (mem_of_lookupG hfree)
      rcases l with ⟨k, _⟩ | ⟨_, c', ec', z⟩
      · rcases hkx with q | q
        · rw [q] at k; cases k
        · rw [q] at k; cases k
      · have : c = c' := Option.some.inj ((cl y c ec).symm.trans ec')
        subst this
        exact ⟨c, ec, z.keeps hk⟩
  · obtain ⟨v, z⟩ := I.cell y c (cl y c e)
    exact ⟨v, z.keeps hk⟩
  · have hp' : p ∈ (X.pn ++ pins) ++ ([] : List (Addr × Obj)) := hp
    rw [List.append_nil] at hp'
    obtain ⟨e, n, ne, nf, d⟩ := I.pin p hp'
    exact ⟨hk _ _ e, n, Nat.ne_of_lt (Heap.lt_size e), fun z => (List.mem_cons.mp (I.stkSub _ z)).elim ne nf, d⟩
  · show (inStN xs.length ix σ).length = (xs ++ ys).length
    rw [inStN_len, List.length_append, O.len]
/-- W: the invariant by the turn, a measure and the list so far -/
noncomputable def CompWG (n : Nat) (ix : List Nat) (J : It) (g : CompAt → TG) (tt : CompAt → TT) (te : CompAt → TE) (σ : St) (Q : VK) (H1 : Hp) : Prop :=
  ∀ D, H1 D = none → ∃ W : Nat → Nat → List V → Hp → Prop, (∃ m, W 0 m [] (upd H1 D (.lst []))) ∧ ∀ i m ys H2, W i m ys H2 → H2 D = some (.lst ys) ∧
    ((J.stop i H2 ∧ Q (.ref D) H2) ∨ (J.go i H2 ∧ ys.length < sizeLine ∧ ∃ N : List V → Hp → Prop, (∀ ys' H', N ys' H' → ∃ m', m' < m ∧ W (i + 1) m' ys' H') ∧
      ∀ x H3, J.yld i H2 x H3 → ∀ z, g z x (inStN n ix σ) H3 fun σ' H3' => KeepN n ix σ σ' ∧ tt z σ' H3' fun b H4 =>
        if b = true then te z σ' H4 fun y H5 => H5 D = some (.lst ys) ∧ N (ys ++ [y]) (upd H5 D (.lst (ys ++ [y]))) else N ys H4))
theorem comp_blockN   (O : CompOkN X scope xs ys ix) (hc : X.calm = true)   {g : CompAt → TG} {tt : CompAt → TT} {te : CompAt → TE}
    (hg : ∀ z, PG (compCx X scope (xs ++ ys) z) tg (g z)) (hi : ∀ z, PIfs (compCx X scope (xs ++ ys) z) ifs (tt z)) (he : ∀ z, PE (compCx X scope (xs ++ ys) z) elt (te z))
    {σ : St} {H : Hp}   {tn : Nat → Heap → Prop} (I2 : Inv X pins σ H s2) (T : Turn X.prog X.w X.K tg J fp it tn) (st : tn 0 s2.heap)
    (hf : ∀ b ∈ fp, FpOk X pins H b) {Q : VK} (hw : CompWG xs.length ix J g tt te σ Q H) {RR : Value → Addr → Result → Shared → Prop} {E : Value → Shared → Prop}
    (hRR : ∀ D C m' H' s', Inv X pins σ H' s' → s'.heap.Ns C m' → FpOk X pins H' C → Q (.ref D) H' → RR (.ref D) C (.ok .next) s') :
    wpAny (model X.prog X.w) X.A (newList []) (fun acc s₃ => wpAny (model X.prog X.w) X.A (newFunctionEnv scope X.env.globals (clOf scope.names X.env) [] X.env.qual none .none (some X.env)) (fun cenv s₄ =>
      codeAny (model X.prog X.w) X.A (.compStart (.ListComp elt [⟨tg, iter, ifs, 0⟩] scope pos) 0 (.ref it) acc { cenv with scope := relabel scope X.env }) (RR acc cenv.locals) s₄) E s₃) E s2 := by
  refine wpAny_newObj_type (wpAny_newFunctionEnv O.nocell (by intro y hy; simp at hy) (fun h₁ hns₁ hsb₁ => ?_) O.kind)
  dsimp only at hns₁ hsb₁ ⊢
  have hDn : H s2.heap.objs.size = none := I2.hok.fresh (Nat.le_refl _)
  obtain ⟨W, ⟨m0, w0⟩, turn⟩ := hw s2.heap.objs.size hDn
  have flt : ∀ b ∈ fp, b < s2.heap.objs.size := fun b hb => by
    obtain ⟨o, e, _⟩ := T.obj 0 _ st b hb
    exact Heap.lt_size e
  obtain ⟨s3, hs3⟩ : ∃ s3 : Shared, s3 = { s2 with heap := s2.heap.push { cls := .type "list", data := .seq ([] : List Value).toArray } } := ⟨_, rfl⟩
  have hh3 : s3.heap = s2.heap.push { cls := .type "list", data := .seq ([] : List Value).toArray } := by rw [hs3]
  have I3 : Inv X pins σ (upd H s2.heap.objs.size (.lst [])) s3 := by
    rw [hs3]
    exact I2.laid (fun b u e => Heap.get?_push_of_some _ e) (Nat.le_refl _) (show ObjOk X.prog X.w _ _ _ (.lst []) from ⟨Nat.zero_le _, [], 0, .nil, Heap.get?_push_size _ rfl⟩)
  have hns₂ : h₁.Ns s3.heap.objs.size fun x => ([] : List (Str × Value)).reverse.lookup x := by rw [hh3]; exact hns₁
  have hsb₂ : Heap.SameBut s3.heap.objs.size (s3.heap.push { cls := .type (if (some X.env).isSome then "dict" else "frame"), data := .dict #[] }) h₁ := by rw [hh3]; exact hsb₁
  have hf3 : ∀ b ∈ fp, FpOk X pins (upd H s2.heap.objs.size (.lst [])) b := fun b hb => ⟨by rw [upd_ne (Nat.ne_of_lt (flt b hb))]; exact (hf b hb).1, (hf b hb).2⟩
  have hsz : s3.heap.objs.size = s2.heap.objs.size + 1 := by rw [hh3, Heap.size_push]
  have flt3 : ∀ b ∈ fp, b < s3.heap.objs.size := fun b hb => by rw [hsz]; exact Nat.lt_succ_of_lt (flt b hb)
  have hk : ∀ b o, s3.heap.get? b = some o → h₁.get? b = some o := fun b o e => hsb₂.extBut b o (Nat.ne_of_lt (Heap.lt_size e)) (Heap.get?_push_of_some _ e)
  have hk2 : ∀ b o, s2.heap.get? b = some o → h₁.get? b = some o := fun b o e => hk b o (by rw [hh3]; exact Heap.get?_push_of_some _ e)
  have st1 : tn 0 h₁ := T.keep _ _ _ st fun b hb o e => hk2 b o e
  let z : CompAt := ⟨fp, s3, upd H s2.heap.objs.size (.lst []), s3.heap.objs.size, pins⟩
  have cl : ∀ y c, (clOf scope.names X.env).lookup y = some c → X.env.cells.lookup y = some c := fun y c e => by
    rcases (mem_clOf).mp (mem_of_lookupG e) with q | ⟨q, rfl⟩
    · simp at q
    · obtain ⟨c', e'⟩ := I2.ok.has y (O.fr _ q rfl)
      rw [e']; rfl
  -- the iterator's records, as the block sees them
  have fpy : ∀ {H' : Hp}, (∀ b ∈ fp, H' b = none) → ∀ b ∈ fp, FpOk (compCx X scope (xs ++ ys) z) [] H' b := fun hn b hb => by
    refine ⟨hn b hb, Nat.ne_of_lt (flt3 b hb), fun hb2 => ?_, .inl hb, fun y c e => (hf b hb).2.2.2.2.1 y c (cl y c e), fun p hp => ?_⟩
    · exact (List.mem_cons.mp (I3.stkSub b hb2)).elim (fun e => (hf b hb).2.1 e) fun q => (hf b hb).2.2.1 q
    · have hp' : p ∈ (X.pn ++ pins) ++ ([] : List (Addr × Obj)) := hp
      rw [List.append_nil] at hp'
      exact (hf b hb).2.2.2.2.2 p hp'
  -- back to the def
  have back : ∀ {pl : List (Addr × Obj)} {σ' : St} {H' : Hp} {s' : Shared}, Inv (compCx X scope (xs ++ ys) z) pl σ' H' s' → Inv X pins σ H' s' ∧ FpOk X pins H' s3.heap.objs.size := fun {pl σ' H' s'} IY => by
    have I' : Inv X pins σ H' s' := I3.call' IY.os IY.base IY.hok IY.bare fun b hb => ⟨(hf b hb).2.2.2.1, (hf b hb).2.1, (hf b hb).2.2.2.2.1, (hf b hb).2.2.2.2.2⟩
    exact ⟨I', I3.fpOk (Nat.le_refl _) IY.free⟩
  have loop : ∀ t' : Nat, codeAny (model X.prog X.w) X.A (.compLoop (.ListComp elt [⟨tg, iter, ifs, 0⟩] scope pos) 0 (.ref it) (.ref s2.heap.objs.size) (compCx X scope (xs ++ ys) z).env) (RR (.ref s2.heap.objs.size) s3.heap.objs.size) { s3 with heap := h₁, toks := t' } := by
    intro t'
    have IY := comp_invN (t' := t') O I3 hf3 flt3 _ hns₂ hk
    refine codeAny_compLoop_any (fun n s' => ∃ i vs H', Inv (compCx X scope (xs ++ ys) z) [] (inStN xs.length ix σ) H' s' ∧ tn i s'.heap ∧ (∀ b ∈ fp, H' b = none) ∧ W i n vs H') ?_ m0 ⟨0, [], _, IY, st1, fun b hb => (hf3 b hb).1, w0⟩
    rintro n s5 ⟨i, vs, H5, I5, st5, fr5, w5⟩
    obtain ⟨hD, stop | go⟩ := turn i n vs H5 w5
    · refine thn (T.done (compCx X scope (xs ++ ys) z) rfl rfl rfl hc i [] s5 _ H5 _ I5 (fpy fr5) st5 stop.1) fun r s6 zz => ?_
      obtain ⟨hr, I6⟩ := zz
      subst hr
      obtain ⟨m6, n6, _⟩ := I6.loc
      exact hRR _ _ m6 H5 s6 (back I6).1 n6 (back I6).2 stop.2
    · obtain ⟨hgo, hl, N, hN, step⟩ := go
      refine thn (T.item (compCx X scope (xs ++ ys) z) rfl rfl rfl hc i [] s5 _ H5 _ I5 (fpy fr5) st5 hgo) fun r s6 zz => ?_
      obtain ⟨u, hr, h6⟩ := zz
      subst hr
      refine thn h6 fun _ s7 zz => ?_
      obtain ⟨xv, H7, I7, r7, y7, st7, fr7⟩ := zz
      have I7' := I7.pinned (fpy fr7) (T.obj _ _ st7)
      have q7 := step xv H7 y7 z
      refine thn (hg z _ s7 _ H7 xv u _ I7' r7 q7) fun _ s8 q8 => ?_
      obtain ⟨σ8, H8, I8, k8, q8⟩ := q8
      have wk : ∀ {H' : Hp} {s' : Shared}, Inv (compCx X scope (xs ++ ys) z) ([] ++ pinsAt fp s7.heap) σ8 H' s' → Inv (compCx X scope (xs ++ ys) z) [] (inStN xs.length ix σ) H' s' ∧ tn (i + 1) s'.heap ∧ ∀ b ∈ fp, H' b = none := fun {H' s'} IW => by
        refine ⟨(IW.unpinned).weak (by rw [inStN_len]; exact k8.1.symm) k8.2, T.keep _ _ _ st7 fun b hb o e => (IW.pin (b, o) (List.mem_append_right _ (List.mem_append_right _ (mem_pinsAt hb e)))).1, fun b hb => ?_⟩
        obtain ⟨o, e, d⟩ := T.obj _ _ st7 b hb
        exact (IW.pin (b, o) (List.mem_append_right _ (List.mem_append_right _ (mem_pinsAt hb e)))).2.1
      refine thn (hi z _ s8 _ H8 _ I8 q8) fun ok s9 zz => ?_
      obtain ⟨H9, I9, q9⟩ := zz
      cases ok with
      | false =>
        rw [if_neg Bool.false_ne_true] at q9
        rw [if_neg Bool.false_ne_true]
        obtain ⟨m', hm, w9⟩ := hN _ _ q9
        exact ⟨m', hm, i + 1, vs, H9, (wk I9).1, (wk I9).2.1, (wk I9).2.2, w9⟩
      | true =>
        rw [if_pos rfl] at q9
        rw [if_pos rfl]
        refine thn (he z _ s9 _ H9 _ I9 q9) fun yv s10 zz => ?_
        obtain ⟨y, H10, I10, r10, hD10, n10⟩ := zz
        obtain ⟨m', hm, w10⟩ := hN _ _ n10
        have ap := mt_append _ s10 _ H10 (.ref s2.heap.objs.size) [y] (.ref s2.heap.objs.size) [yv] (fun v H' => H' = upd H10 s2.heap.objs.size (.lst (vs ++ [y]))) I10 rfl (.cons r10 .nil) ⟨s2.heap.objs.size, vs, y, rfl, rfl, hD10, hl, rfl⟩
        refine thn ap fun _ s11 zz => ?_
        obtain ⟨_, H11, I11, _, e11⟩ := zz
        subst e11
        exact ⟨m', hm, i + 1, vs ++ [y], _, (wk I11).1, (wk I11).2.1, (wk I11).2.2, w10⟩
  subst hs3
  exact codeAny_compStart_list (loop _) (T.self X.A 0 _ _ _ st1 (loop _))
/-- [elt for TARGET in iter if ..], as a value -/
noncomputable def tCompG (n : Nat) (ix : List Nat) (wi : TI) (g : CompAt → TG) (tt : CompAt → TT) (te : CompAt → TE) : TE := fun σ H Q => wi σ H fun J H1 => CompWG n ix J g tt te σ Q H1
section
variable {X : Cx} {scope : Scope} {xs ys : List Str} {ix : List Nat} {elt iter tg : Expr} {ifs : List Expr} {pos : Pos} {wi : TI} {g : CompAt → TG} {tt : CompAt → TT} {te : CompAt → TE}
theorem pe_compG (O : CompOkN X scope xs ys ix) (hc : X.calm = true) (hit : PI X tg iter wi) (hg : ∀ z, PG (compCx X scope (xs ++ ys) z) tg (g z))
    (hi : ∀ z, PIfs (compCx X scope (xs ++ ys) z) ifs (tt z)) (he : ∀ z, PE (compCx X scope (xs ++ ys) z) elt (te z)) (hs : ∀ v, foldedSetIterable iter X.env v = pure v := by intro _; rfl) :
    PE X (.ListComp elt [⟨tg, iter, ifs, 0⟩] scope pos) (tCompG xs.length ix wi g tt te) := by
  intro pins s σ H Q I h
  rw [eval_ListComp]
  refine wpAny_comprehension_free rfl hs (closureFor_all fun p hp hf => I.ok.has p.1 (O.fr p hp hf)) O.kind O.names (thn (hit pins s σ H _ I h) fun v s1 h1 => thn h1 fun itv s2 h2 => ?_)
  obtain ⟨it, fp, tn, J, H2, e, I2, T, st2, f2, hw⟩ := h2
  subst e
  refine comp_blockN O hc hg hi he I2 T st2 f2 hw ?_
  intro D C m' H' s' I' n' fC q
  exact ⟨m', n', fun h' hs' => ⟨.ref D, H', comp_turned I' fC hs', rfl, q⟩⟩
theorem pg_own   (O : CompOkN X scope xs ys ix) (hi : xs[i]? = some x) : PG (compCx X scope (xs ++ ys) z) (.Name x p) (gName i) := by
  have hm : x ∈ xs := List.mem_of_getElem? hi
  have hl : i < xs.length := (List.getElem?_eq_some_iff.mp hi).1
  exact pg_name O.nd (by show (xs ++ ys)[i]? = some x; rw [List.getElem?_append_left hl]; exact hi) (.inl (lookup_relabel_local (O.hx x hm))) (.inr (lookup_relabel_local (O.hx x hm)))
end
end L2
namespace PySem
open Sem
open PySem.AutoSeq1 in
/-- l.extend(t): the tuple may carry a dict and slots of its own -/
theorem extend_tuple_any (p : Addr) (xs : Array Value) (m : Nat) (q : Addr) (ys : Array Value) (m2 : Nat) (qd : Option Addr) (qs : Array (Option Value))
    (short : ¬(!xs.isEmpty && Builtin.List.listTooLong (xs.size + ys.size)) = true) (hx : xs.size ≤ sizeLine) (hxy : xs.size + ys.size ≤ sizeLine + 1) :
    Meets (Builtin.«list.extend» ⟨[.ref p, .ref q], []⟩) (fun _ R st =>
      st.heap.get? p = some { cls := .type "list", dict := none, data := .seq xs m, slots := #[] } ∧
      st.heap.get? q = some { cls := .type "tuple", dict := qd, data := .seq ys m2, slots := qs } ∧
      R (.ok (.ret Value.none)) { st with heap := st.heap.update p (Obj.mapSeq fun zs => zs ++ ys), toks := st.toks }) := by
  refine .of_wp fun prog w A R st g => ?_
  obtain ⟨heap0, gens0, drawn0, toks0, os0⟩ := st
  obtain ⟨gp, gq, gR⟩ := g
  have a1 := idx_int
  have a2 := sub_tuple_tuple
  have a3 := sub_list_list
  have a4 := sub_tuple_list
  have a5 := sub_list_tuple
  have both : (xs ++ ys).size ≤ sizeLine + 1 := by
    rw [Array.size_append]
    exact hxy
  wp_walk using (wpAny_updateSeq gp rfl), wpAny_loadPart' gp, wpAny_loadPart' gq
  exact ⟨_, rfl, gR⟩
end PySem
namespace HT
open PySem PySem.Spec PyProof.Rows
section
variable {prog : Program} {w : World} {A : Around} {E : Value → Shared → Prop} {s : Shared}
theorem adjust_rev (n : Nat) : Builtin.Slice.sliceAdjust none none (-1) (n : Int) = ((n : Int) - 1, -1) := rfl
theorem places_rev (n : Nat) : Builtin.Slice.slicePlaces ((n : Int) - 1) (-1) (-1) = n := by
  unfold Builtin.Slice.slicePlaces
  rw [if_neg (by decide)]
  by_cases h : n = 0
  · subst h; decide
  · rw [if_pos (by lia)]
    have : ((n : Int) - 1 - -1 - 1) / (- -1) = (n : Int) - 1 := by
      have e : (- -1 : Int) = 1 := by decide
      rw [e, Int.ediv_one]; lia
    rw [this]; lia
theorem sliceApplied_rev {sl : Addr} {n : Nat} {t : Tok} {Q : Int × Int × Nat → Shared → Prop} (hs : s.heap.IsSliceOf sl .none .none (.int (-1) t))
    (h : Q ((n : Int) - 1, -1, n) s) : wpAny (model prog w) A (Builtin.Slice.sliceApplied (.ref sl) (pure (n : Int))) Q E s := by
  obtain ⟨os, hos, hcs, hds⟩ := id hs
  unfold Builtin.Slice.sliceApplied Builtin.Slice.sliceFields
  refine wpAny_bind (wpAny_bind (wpAny_field hos hds rfl (wpAny_bind (wpAny_field hos hds rfl (wpAny_bind (wpAny_field hos hds rfl (wpAny_pure ?_)))))))
  refine wpAny_bind (slicePart_int ?_)
  show wpAny _ _ (if ((-1 : Int) == 0) = true then _ else _) _ _ s
  rw [if_neg (by decide)]
  refine wpAny_bind (slicePart_none (wpAny_bind (slicePart_none (wpAny_bind (wpAny_pure ?_)))))
  show wpAny _ _ (match Builtin.Slice.sliceAdjust none none (-1) (n : Int) with | (lo, hi) => pure (lo, (-1 : Int), Builtin.Slice.slicePlaces lo hi (-1))) _ _ s
  rw [adjust_rev n]
  show wpAny _ _ (pure ((n : Int) - 1, (-1 : Int), Builtin.Slice.slicePlaces ((n : Int) - 1) (-1) (-1))) _ _ s
  rw [places_rev]
  exact wpAny_pure h
theorem fm_congr {α β : Type} {f g : α → Option β} : ∀ {l : List α}, (∀ a ∈ l, f a = g a) → l.filterMap f = l.filterMap g
  | [], _ => rfl
  | a :: r, h => by
    rw [List.filterMap_cons, List.filterMap_cons, h a List.mem_cons_self, fm_congr fun b hb => h b (List.mem_cons_of_mem _ hb)]
theorem pick_rev (xs : Array Value) : ((List.range xs.size).filterMap fun (m : Nat) => xs[((xs.size : Int) - 1 + (m : Int) * -1).toNat]?).toArray = xs.toList.reverse.toArray := by
  congr 1
  have e : ∀ m ∈ List.range xs.size, xs[((xs.size : Int) - 1 + (m : Int) * -1).toNat]? = xs.toList.reverse[m]? := by
    intro m hm
    have hm' := List.mem_range.mp hm
    have : ((xs.size : Int) - 1 + (m : Int) * -1).toNat = xs.size - 1 - m := by lia
    rw [this, List.getElem?_reverse (by rw [Array.length_toList]; exact hm'), Array.length_toList, Array.getElem?_toList]
  rw [fm_congr e]
  have hl : xs.size = xs.toList.reverse.length := by rw [List.length_reverse, Array.length_toList]
  rw [hl]
  generalize xs.toList.reverse = zs
  induction zs with
  | nil => rfl
  | cons z r ih =>
    rw [List.length_cons, List.range_succ_eq_map, List.filterMap_cons]
    show z :: _ = _
    rw [List.filterMap_map]
    show z :: List.filterMap (fun m => (z :: r)[m + 1]?) (List.range r.length) = _
    have : (fun m => (z :: r)[m + 1]?) = fun m => r[m]? := by funext m; rfl
    rw [this, ih]
theorem getItem_tuple_rev   (ht : IsTup s.heap t items) (hs : s.heap.IsSliceOf sl .none .none (.int (-1) tk))
    (h : Q (.ref s.heap.objs.size) { s with heap := s.heap.push { cls := .type "tuple", data := .seq items.toList.reverse.toArray } })
    (hsz : items.size ≤ sizeLine) : wpAny (model prog w) A (getItem (.ref t) (.ref sl)) Q E s := by
  have htake : sizeOk (.seq items.toList.reverse.toArray) := by
    show items.toList.reverse.toArray.size ≤ sizeLine
    rw [List.size_toArray, List.length_reverse, Array.length_toList]
    exact hsz
  obtain ⟨os, hos, hcs, hds⟩ := id hs
  have hTs : s.TypeIs (.ref sl) "slice" := ⟨os, hos, hcs⟩
  unfold getItem
  try with_reducible refine wpAny_holding ?_
  first | refine wpAny_bind (wpAny_pure ?_) | skip
  refine wpAny_bind (wpAny_sequenceKey ht.typeIs (by decide) ?_)
  refine wpAny_bind (wpAny_callSpecial?_slot ht.typeIs PyProof.Rows.slot_tuple_getitem
    (wpAny_call_entry PyProof.Rows.slot_tuple_getitem ht.typeIs entry_tuple_getitem ?_ (args_tuple_getitem _ _)))
  show wpAny _ _ (Builtin.Tuple.tupleItemsOf (.ref t) >>= _) _ _ s
  refine wpAny_bind (tupleItemsOf_ ht ?_)
  refine wpAny_bind (wpAny_typeOf hTs ?_)
  rw [if_pos (by decide)]
  refine wpAny_bind (sliceApplied_rev hs ?_)
  have hno : ¬ ((((items.size : Int) - 1) == 0 && (-1 : Int) == 1 && items.size == items.size) = true) := by
    intro q
    rw [Bool.and_eq_true, Bool.and_eq_true] at q
    exact absurd q.1.2 (by decide)
  show wpAny _ _ (if (((items.size : Int) - 1) == 0 && (-1 : Int) == 1 && items.size == items.size) = true then _ else _) _ _ s
  rw [if_neg hno, pick_rev]
  first
    | exact wpAny_bind (wpAny_newObj_type (wpAny_pure ⟨_, rfl, wpAny_pure h⟩) htake)
    | exact wpAny_bind (wpAny_newObj_type (wpAny_bind (wpAny_pure (wpAny_pure ⟨_, rfl, wpAny_pure h⟩))) htake)
    | exact wpAny_bind (wpAny_bind (wpAny_newObj_type (wpAny_pure (wpAny_pure ⟨_, rfl, wpAny_pure h⟩)) htake))
    | exact wpAny_bind (wpAny_bind (wpAny_newObj_type (wpAny_pure ⟨_, rfl, wpAny_pure h⟩) htake))
end
end HT
namespace L2
open PySem PySem.Spec PyProof.Rows
section
variable {X : Cx} {e st : Expr} {te : TE} {p2 pos : Pos}
/-- t[::-1] of a tuple; the step by any expression that tells -1 -/
noncomputable def tRevT (K : PySem.W.Frag) (te : TE) : TE := fun σ H Q => te σ H fun x H1 => ∃ a xs, x = .ref a ∧ SqT K H1 a xs ∧ ∀ p, H1 p = none → Q (.ref p) (upd H1 p (.tup xs.reverse))
theorem pe_revT {ts : TE} (he : PE X e te) (hst : PE X st ts) (hv : ∀ σ H Q, Q (.int (-1)) H → ts σ H Q) : PE X (.Subscript e (.Slice none none (some st) p2) pos) (tRevT X.K te) := by
  intro pins s σ H Q I h
  refine Subscript_ (thn (he pins s σ H _ I h) fun v s1 zz => ?_)
  obtain ⟨x, H1, I1, r1, q1⟩ := zz
  obtain ⟨a, xs, rfl, hq, q⟩ := q1
  cases r1
  refine wpAny_Slice ?_
  rw [evalPart_none]
  refine wpAny_pure (wpAny_pure ?_)
  rw [evalPart_some]
  refine thn (hst pins s1 σ H1 (fun v H' => v = .int (-1) ∧ H' = H1) I1 (hv _ _ _ ⟨rfl, rfl⟩)) fun vs s2 zz => ?_
  obtain ⟨y, H2, I2, r2, e2, e3⟩ := zz
  subst e2 e3
  obtain ⟨tk, rfl⟩ := r2
  have I4 : Inv X pins σ _ { s2 with heap := s2.heap.push { cls := .type "slice", data := .fields #[.none, .none, .int (-1) tk] } } := I2.kept fun b ob q => Heap.get?_push_of_some _ q
  obtain ⟨its, r, ht, hz⟩ := I4.tuple hq
  have hlen : its.toArray.size = xs.length := by rw [List.size_toArray]; exact r.length.symm
  show wpAny (model X.prog X.w) X.A (subscriptTail e (.Slice none none (some st) p2) (.ref a) (.ref s2.heap.objs.size)) (EP X pins σ Q) X.xe { s2 with heap := s2.heap.push { cls := .type "slice", data := .fields #[.none, .none, .int (-1) tk] } }
  refine tail_any ht.typeIs PyProof.Rows.slot_tuple_getitem.lookup ?_ (by with_unfolding_all rfl)
  refine HT.getItem_tuple_rev ht (Heap.IsSliceOf.new ..) ?_ (by rw [hlen]; exact hz)
  refine ⟨.ref _, _, I4.laid (fun b ob q => Heap.get?_push_of_some _ q) (Nat.le_refl _) ?_, rfl, q _ (I4.hok.fresh (Nat.le_refl _))⟩
  exact ⟨by rw [List.length_reverse]; exact hz, _, r.reverse, IsTupP.mk' _ _⟩
/-- l.extend(t), t a tuple -/
noncomputable def rExtendT (K : PySem.W.Frag) : V → List V → Hp → VK → Prop := fun x vs H Q => ∃ l b xs zs, x = .ref l ∧ vs = [.ref b] ∧ H l = some (.lst xs) ∧ SqT K H b zs ∧ xs.length + zs.length ≤ sizeLine ∧ Q .non (upd H l (.lst (xs ++ zs)))
theorem mt_extendT : MtM X "list.extend" (rExtendT X.K) := by
  intro pins s σ H x vs v us Q I rx rv h
  obtain ⟨l, b, xs, zs, rfl, rfl, hH, hB, hz, q⟩ := h
  cases rx
  obtain ⟨u, rfl, ru⟩ := rv.one
  cases ru
  obtain ⟨z, its, n, r, hl, e⟩ := I.lstM hH
  obtain ⟨its2, r2, ht, hl2⟩ := I.tuple hB
  obtain ⟨⟨oc, od, oda, os⟩, e2, rfl, n2, rfl⟩ := id ht
  have hsz : its.toArray.size + its2.toArray.size ≤ sizeLine := by rw [List.size_toArray, List.size_toArray, ← r.length, ← r2.length]; lia
  have hlong : ¬ (!its.toArray.isEmpty && Builtin.List.listTooLong (its.toArray.size + its2.toArray.size)) = true := by
    rw [notLongL hsz, Bool.and_false]
    exact Bool.false_ne_true
  refine call_meets F.slot_list_extend ⟨_, e, rfl⟩ F.entry_list_extend (F.args_list_extend_2 _ _)
    (PySem.extend_tuple_any l its.toArray n b its2.toArray n2 od os hlong (by rw [List.size_toArray]; lia) (by lia)) ⟨e, e2, ?_⟩
  refine ⟨.non, _, I.lset hH e (by simp) (r.append r2) ?_, rfl, q⟩
  rw [List.length_append]
  lia
end
end L2
namespace My
inductive F2 {α β : Type} (R : α → β → Prop) : List α → List β → Prop
  | nil : F2 R [] []
  | cons {a : α} {b : β} {as : List α} {bs : List β} : R a b → F2 R as bs → F2 R (a :: as) (b :: bs)
end My
namespace HT
open PySem PySem.Spec PyProof.Rows
section
theorem getItem_tuple_whole {t sl : Addr} {items : Array Value} {vl vu : Value} {lo hi : Option Int} {Q : Value → Shared → Prop} (ht : IsTup s.heap t items) (hs : s.heap.IsSliceOf sl vl vu .none) (pl : IsPart vl lo) (pu : IsPart vu hi)
    (hw : sIx items.size 0 lo = 0 ∧ sIx items.size items.size hi = items.size) (h : Q (.ref t) s) : wpAny (model prog w) A (getItem (.ref t) (.ref sl)) Q E s := by
  obtain ⟨os, hos, hcs, hds⟩ := id hs
  have hTs : s.TypeIs (.ref sl) "slice" := ⟨os, hos, hcs⟩
  unfold getItem
  try with_reducible refine wpAny_holding ?_
  first | refine wpAny_bind (wpAny_pure ?_) | skip
  refine wpAny_bind (wpAny_sequenceKey ht.typeIs (by decide) ?_)
  refine wpAny_bind (wpAny_callSpecial?_slot ht.typeIs PyProof.Rows.slot_tuple_getitem
    (wpAny_call_entry PyProof.Rows.slot_tuple_getitem ht.typeIs entry_tuple_getitem ?_ (args_tuple_getitem _ _)))
  show wpAny _ _ (Builtin.Tuple.tupleItemsOf (.ref t) >>= _) _ _ s
  refine wpAny_bind (tupleItemsOf_ ht ?_)
  refine wpAny_bind (wpAny_typeOf hTs ?_)
  rw [if_pos (by decide)]
  refine wpAny_bind (sliceApplied_gen hs pl pu ?_)
  have hyes : (((sIx items.size 0 lo : Nat) : Int) == 0 && (1 : Int) == 1 && (sIx items.size items.size hi - sIx items.size 0 lo) == items.size) = true := by
    rw [hw.1, hw.2]; simp
  show wpAny _ _ (if (((sIx items.size 0 lo : Nat) : Int) == 0 && (1 : Int) == 1 && (sIx items.size items.size hi - sIx items.size 0 lo) == items.size) = true then _ else _) _ _ s
  rw [if_pos hyes]
  unfold Builtin.Tuple.tupleIsExact
  refine wpAny_bind (wpAny_bind (wpAny_typeOf ht.typeIs (wpAny_pure ?_)))
  rw [if_pos (by decide)]
  refine wpAny_bind (wpAny_rule ?_)
  exact wpAny_pure ⟨_, rfl, wpAny_pure h⟩
end
end HT
namespace L2
open PySem PySem.Spec PyProof.Rows
section
/-- t[lo:hi] of a tracked tuple, the whole of it too -/
noncomputable def rSlTA : V → Option Int → Option Int → Hp → VK → Prop := fun x lo hi H Q => ∃ a xs, x = .ref a ∧ H a = some (.tup xs) ∧ ∀ (b : Addr) (H' : Hp), H' b = some (.tup (cutV xs lo hi)) → (∀ c o, H c = some o → H' c = some o) → Q (.ref b) H'
theorem sl_tupA : SlR X rSlTA := by
  intro pins s σ H x v vl vu lo hi sl Q I rx hs pl pu h
  obtain ⟨a, xs, rfl, hx, q⟩ := h
  by_cases hw : HT.sIx xs.length 0 lo = 0 ∧ HT.sIx xs.length xs.length hi = xs.length
  · cases rx
    obtain ⟨its, r, ht, hz⟩ := I.tuple (SqT.of hx)
    have hlen : its.toArray.size = xs.length := by rw [List.size_toArray]; exact r.length.symm
    refine ⟨"tuple", _, PyProof.Rows.slot_tuple_getitem.lookup, ht.typeIs, ?_⟩
    refine HT.getItem_tuple_whole ht hs pl pu (by rw [hlen]; exact hw) ⟨.ref a, H, I, rfl, q a H ?_ fun _ _ e => e⟩
    have e : cutV xs lo hi = xs := by
      unfold cutV
      rw [hw.1, hw.2]; simp
    rw [e]; exact hx
  · exact sl_tup pins s σ H (.ref a) v vl vu lo hi sl Q I rx hs pl pu ⟨a, xs, rfl, SqT.of hx, hw, fun p hp => q p _ upd_same fun c o e => by rw [upd_ne (ne_of_none e hp)]; exact e⟩
end
end L2
namespace L2
open PySem PySem.Spec PyProof.Rows
section
/-- an iterator's records have changed, and a new object is laid and tracked -/
theorem Inv.turnedLay {fp : List Addr} {T : Addr} {o : HO} {t' : Nat} (I : Inv X pins σ H s) (hf : ∀ b ∈ fp, FpOk X pins H b) (k : ∀ b u, b ∉ fp → s.heap.get? b = some u → h'.get? b = some u) (hT : s.heap.objs.size ≤ T)
    (new : ObjOk X.prog X.w (upd H T o) h' T o) : Inv X pins σ (upd H T o) { s with heap := h', toks := t' } := by
  have hn : H T = none := I.hok.fresh hT
  have neT : ∀ b u, s.heap.get? b = some u → b ≠ T := fun b u e z => Nat.lt_irrefl _ (Nat.lt_of_lt_of_le (Heap.lt_size e) (by rw [z]; exact hT))
  have nfp : ∀ b u, H b = some u → b ∉ fp := fun b u e z => by
    have q := (hf b z).1
    rw [q] at e; cases e
  have hL : X.env.locals ∉ fp := fun z => (hf _ z).2.1 rfl
  refine I.step (fun b hb => ?_) (fun b u _ _ hc e _ => k b u hc e) (fun b u _ _ hc e _ => ⟨u.slots, k b u hc e⟩) (fun b u hc e n => ?_)
    (fun b u hc e => ⟨u, k b u hc e⟩) (fun b xs e => ?_) (fun b u v e => ?_) (fun b ps e => ⟨#[], ?_⟩) (fun m hm => ?_) (fun b u e => ?_) I.bare
  · obtain ⟨_, f1, _, f3, f4, f5⟩ := hf b hb
    exact ⟨f3, f1, f4, f5⟩
  · rw [upd_ne (neT b u e)]; exact n
  · rw [upd_ne (ne_of_none e hn)]; exact e
  · rw [upd_ne (ne_of_none e hn)]; exact e
  · rw [upd_ne (ne_of_none e hn), e]; simp
  · obtain ⟨u, es, ep, ho, r⟩ := hm
    exact ⟨u, es, ep, k _ u hL ho, r⟩
  · by_cases hb : b = T
    · subst hb; rw [upd_same] at e; cases e; exact new
    · rw [upd_ne hb] at e
      refine (I.hok b u e).stay (fun c v hc q => k c v ?_ q) (fun c q => by rw [upd_ne (ne_of_none q hn)]; exact q) fun c xs q => by rw [upd_ne (ne_of_none q hn)]; exact q
      rcases hc with z | z
      · rw [z]; exact nfp b u e
      · exact nfp c _ z
/-- an iterator's records have changed -/
theorem Inv.turnedN {fp : List Addr} {t' : Nat} (I : Inv X pins σ H s) (hf : ∀ b ∈ fp, FpOk X pins H b) (k : ∀ b u, b ∉ fp → s.heap.get? b = some u → h'.get? b = some u) : Inv X pins σ H { s with heap := h', toks := t' } := by
  have nfp : ∀ b u, H b = some u → b ∉ fp := fun b u e z => by
    have q := (hf b z).1
    rw [q] at e; cases e
  have hL : X.env.locals ∉ fp := fun z => (hf _ z).2.1 rfl
  refine I.step (fun b hb => ?_) (fun b u _ _ hc e _ => k b u hc e) (fun b u _ _ hc e _ => ⟨u.slots, k b u hc e⟩) (fun b u hc e n => n)
    (fun b u hc e => ⟨u, k b u hc e⟩) (fun b xs e => e) (fun b u v e => e) (fun b ps e => ⟨#[], by rw [e]; simp⟩) (fun m hm => ?_) (fun b u e => ?_) I.bare
  · obtain ⟨_, f1, _, f3, f4, f5⟩ := hf b hb
    exact ⟨f3, f1, f4, f5⟩
  · obtain ⟨u, es, ep, ho, r⟩ := hm
    exact ⟨u, es, ep, k _ u hL ho, r⟩
  · refine (I.hok b u e).stay (fun c v hc q => k c v ?_ q) (fun _ q => q) fun _ _ q => q
    rcases hc with z | z
    · rw [z]; exact nfp b u e
    · exact nfp c _ z
end
end L2
namespace L2
open PySem PySem.Spec PyProof.Rows
/-- the items of xs[lo:hi:st] -/
noncomputable def pickV (xs : List V) (lo hi st : Option Int) : List V := (sliceRange (sliceBounds lo hi st xs.length).1 (sliceBounds lo hi st xs.length).2.1 (sliceBounds lo hi st xs.length).2.2).filterMap (xs[·]?)
theorem Vals.none_at {xs : List V} {us : List Value} (h : Vals xs us) {j : Nat} (e : xs[j]? = none) : us[j]? = none := by
  rw [List.getElem?_eq_none_iff] at e ⊢
  rw [← h.length]; exact e
theorem Vals.some_of {xs : List V} {us : List Value} (h : Vals xs us) : ∀ js : List Nat, Vals (js.filterMap (xs[·]?)) (js.filterMap (us[·]?)) := by
  intro js
  induction js with
  | nil => exact .nil
  | cons j js ih =>
    cases e : xs[j]? with
    | none => simp only [List.filterMap_cons, e, h.none_at e]; exact ih
    | some x =>
      obtain ⟨u, eu, r⟩ := h.get e
      simp only [List.filterMap_cons, e, eu]
      exact .cons r ih
section
variable {X : Cx} {e st : Expr} {te ts : TE} {lo hi : Option Expr} {tl th : TO} {p2 pos : Pos}
noncomputable def tSlS (K : PySem.W.Frag) (te : TE) (tl th tk : TO) : TE := fun σ H Q => te σ H fun x H1 => tl σ H1 fun l H2 => th σ H2 fun u H3 => tk σ H3 fun c H4 =>
  ∃ a xs, x = .ref a ∧ SqL K H4 a xs ∧ c ≠ some 0 ∧ ∀ p, H4 p = none → Q (.ref p) (upd H4 p (.lst (pickV xs l u c)))
theorem pe_sliceS (he : PE X e te) (hl : PO X lo tl) (hu : PO X hi th) (hst : PE X st ts) : PE X (.Subscript e (.Slice lo hi (some st) p2) pos) (tSlS X.K te tl th (tPart ts)) := by
  intro pins s σ H Q I h
  refine Subscript_ (thn (he pins s σ H _ I h) fun v s1 zz => ?_)
  obtain ⟨x, H1, I1, r1, q1⟩ := zz
  refine wpAny_Slice (thn (hl pins s1 σ H1 _ I1 q1) fun vl s2 ⟨l, H2, I2, pl, q2⟩ => thn (hu pins s2 σ H2 _ I2 q2) fun vu s3 ⟨u, H3, I3, pu, q3⟩ => thn (po_some hst pins s3 σ H3 _ I3 q3) fun vs s4 zz => ?_)
  obtain ⟨c, H4, I4, ps, q4⟩ := zz
  obtain ⟨a, xs, rfl, hq, hc0, q⟩ := q4
  cases r1
  have I5 : Inv X pins σ H4 { s4 with heap := s4.heap.push { cls := .type "slice", data := .fields #[vl, vu, vs] } } := I4.kept fun b ob q => Heap.get?_push_of_some _ q
  obtain ⟨its, r, pls, hz⟩ := I5.list hq
  show wpAny (model X.prog X.w) X.A (subscriptTail e (.Slice lo hi (some st) p2) (.ref a) (.ref s4.heap.objs.size)) (EP X pins σ Q) X.xe { s4 with heap := s4.heap.push { cls := .type "slice", data := .fields #[vl, vu, vs] } }
  refine tail_any pls.isList.typeIs list_getitem_lookup ?_ (by with_unfolding_all rfl)
  have hn := r.length
  refine wpAny_getItem_list_slice pls.isList (Heap.IsSliceOf.new ..) pl pu ps hc0 ?_ (by rw [List.size_toArray, ← hn]; exact hz)
  have le := slicePick_size_le its.toArray l u c
  have ep : slicePick its.toArray l u c = ((sliceRange (sliceBounds l u c xs.length).1 (sliceBounds l u c xs.length).2.1 (sliceBounds l u c xs.length).2.2).filterMap (its[·]?)).toArray := by
    unfold slicePick
    rw [List.size_toArray, hn]
    simp
  have rp := Vals.some_of r (sliceRange (sliceBounds l u c xs.length).1 (sliceBounds l u c xs.length).2.1 (sliceBounds l u c xs.length).2.2)
  have lp := rp.length
  rw [ep] at le ⊢
  refine ⟨.ref _, _, I5.laid (fun b ob q => Heap.get?_push_of_some _ q) (Nat.le_refl _) ?_, rfl, q _ (I5.hok.fresh (Nat.le_refl _))⟩
  refine ⟨?_, _, 0, rp, Heap.get?_push_size _ rfl⟩
  rw [List.size_toArray, List.size_toArray] at le
  show (pickV xs l u c).length ≤ sizeLine
  unfold pickV
  rw [lp]
  lia
end
end L2
namespace PySem
open Sem (wp)
open AutoSeq1 (wpAny_loadPart')
section
theorem tup_next   (hb : s.heap.IsTupleIter b t i) (ht : s.heap.IsTuple t ys) (hy : ys[i]? = some y)
    (k : ∀ h2, h2.IsTupleIter b t (i + 1) → Heap.SameBut b s.heap h2 → Q y { s with heap := h2 }) : wpAny (model prog w) A (Builtin.SmallTypes.nextOf (.ref b)) Q E s := by
  obtain ⟨ob, gb, cb, db⟩ := id hb
  obtain ⟨ot, gt, _, nt, dt⟩ := ht
  unfold Builtin.SmallTypes.nextOf
  refine wpAny_bind (wpAny_callSpecial?_slot hb.typeIs F.slot_tuple_iterator_next (wpAny_call_entry F.slot_tuple_iterator_next hb.typeIs F.entry_tuple_iterator_next ?_ (F.args_tuple_iterator_next_1 _)))
  show wpAny _ _ (field (.ref b) 0 >>= _) _ _ s
  refine wpAny_bind (wpAny_field gb db rfl ?_)
  show wpAny _ _ (if (Value.ref t == Value.none) = true then _ else _) _ _ s
  have no : ¬ ((Value.ref t == Value.none) = true) := Bool.false_ne_true
  rw [if_neg no]
  show wpAny _ _ (field (.ref b) 1 >>= _) _ _ s
  refine wpAny_bind (wpAny_field gb db rfl ?_)
  show wpAny _ _ (seqItems? (.ref t) >>= _) _ _ s
  refine wpAny_bind (wpAny_seqItems gt dt ?_)
  simp only [Int.toNat_natCast, hy]
  refine wpAny_bind (wpAny_setField gb db (by simp) (wpAny_pure ⟨y, rfl, wpAny_pure (k _ ?_ (Heap.SameBut.update ..))⟩))
  refine ⟨_, Heap.get?_update_self _ gb (Obj.isFreed_of_fields (Obj.data_mapFields db _)), (Obj.cls_mapFields ..).trans cb, ?_⟩
  rw [Obj.data_mapFields db]
  simp [rawInt]
theorem tup_over   (calm : A.handled = none) (hb : s.heap.IsTupleIter b t i) (ht : s.heap.IsTuple t ys) (hy : ys[i]? = none)
    (k : ∀ h2 x, Heap.ExtBut b s.heap h2 → (∃ o, h2.get? x = some o ∧ o.cls = .type "StopIteration") → E (.ref x) { s with heap := h2 }) : wpAny (model prog w) A (Builtin.SmallTypes.nextOf (.ref b)) Q E s := by
  obtain ⟨ob, gb, cb, db⟩ := id hb
  obtain ⟨ot, gt, _, nt, dt⟩ := ht
  unfold Builtin.SmallTypes.nextOf
  refine wpAny_bind (wpAny_callSpecial?_slot hb.typeIs F.slot_tuple_iterator_next (wpAny_call_entry F.slot_tuple_iterator_next hb.typeIs F.entry_tuple_iterator_next ?_ (F.args_tuple_iterator_next_1 _)))
  show wpAny _ _ (field (.ref b) 0 >>= _) _ _ s
  refine wpAny_bind (wpAny_field gb db rfl ?_)
  show wpAny _ _ (if (Value.ref t == Value.none) = true then _ else _) _ _ s
  have no : ¬ ((Value.ref t == Value.none) = true) := Bool.false_ne_true
  rw [if_neg no]
  show wpAny _ _ (field (.ref b) 1 >>= _) _ _ s
  refine wpAny_bind (wpAny_field gb db rfl ?_)
  show wpAny _ _ (seqItems? (.ref t) >>= _) _ _ s
  refine wpAny_bind (wpAny_seqItems gt dt ?_)
  simp only [Int.toNat_natCast, hy]
  refine wpAny_bind (wpAny_rule (wpAny_bind (wpAny_setField gb db (by simp) ?_)))
  show wpAny _ _ (newExc (.type "StopIteration") [] >>= _) _ _ _
  refine wpAny_bind ?_
  simp only [newExc, newTuple]
  refine wpAny_bind (wpAny_newObj_type ?_ (by size_fits))
  refine wpAny_bind (wpAny_of_eq (by first | rfl | (simp only [firstArgMember]; rfl)) ?_)
  refine wpAny_newObj_type ?_ (by size_fits)
  simp only [raiseNew]
  refine wpAny_bind (wpAny_handled ?_)
  have calm' : A.in1.handled = none := calm
  first | rw [calm'] | rw [calm]
  refine wpAny_bind (wpAny_pure (wpAny_throw ?_))
  refine k _ _ (((Heap.SameBut.update ..).extBut.push _).push _) ⟨_, Heap.get?_push_size _ rfl, rfl⟩
end
theorem Draws.tup  (calm : A.handled = none) (b t : Addr) (ne : t ≠ b) (ys : Array Value) :
    Draws prog w A b [b, t] ys.size (fun i v => ys[i]? = some v) (fun i h => h.IsTupleIter b t i ∧ h.IsTuple t ys) where
  live := fun _ _ st => by
    obtain ⟨o, g, _⟩ := st.1
    exact ⟨o, g⟩
  frame := fun _ _ _ st kk => ⟨st.1.at fun o e => kk b (by simp) o e, st.2.at fun o e => kk t (by simp) o e⟩
  item := fun i s Q E hi st hQ => tup_next st.1 st.2 (y := ys[i]) (by simp [hi]) fun h2 b2 sb => hQ _ h2 s.toks (by simp [hi]) ⟨b2, st.2.extBut sb.extBut ne⟩ sb
  done := fun s Q E st hE => tup_over calm st.1 st.2 (by simp) hE
end PySem
namespace L2
open PySem PySem.Spec PyProof.Rows
section
variable   {elt iter tg : Expr}   
/-- y = [elt for TARGET in iter if ..], y a plain local name: the store is done within -/
noncomputable def tCompGS (n : Nat) (ix : List Nat) (i : Nat) (wi : TI) (g : CompAt → TG) (tt : CompAt → TT) (te : CompAt → TE) : TS := fun D σ H => tCompG n ix wi g tt te σ H fun v H1 => D.nx (σ.set i (some v)) H1
theorem ps_compG  (O : CompOkN X scope xs ys ix) (hc : X.calm = true) (hN : X.N.Nodup) (hy : X.N[i]? = some y) (hl : X.env.scope.names.lookup y = some .local) (hit : PI X tg iter wi)
    (hg : ∀ z, PG (compCx X scope (xs ++ ys) z) tg (g z)) (hi : ∀ z, PIfs (compCx X scope (xs ++ ys) z) ifs (tt z)) (he : ∀ z, PE (compCx X scope (xs ++ ys) z) elt (te z))
    (hsw : swapsWith (.ListComp elt [⟨tg, iter, ifs, 0⟩] scope pos) (some (.Name y py)) spos.line X.env = pure true := by rfl) (hs : ∀ v, foldedSetIterable iter X.env v = pure v := by intro _; rfl) :
    PS X (.Assign [.Name y py] (.ListComp elt [⟨tg, iter, ifs, 0⟩] scope pos) spos) (tCompGS xs.length ix i wi g tt te) := by
  intro pins s σ H D I h
  rw [exec_Assign_Name_used _ _ _ _ hsw]
  refine wpAny_bind (wpAny_standAt (wpAny_bind ?_))
  show wpAny _ _ (do let _ ← comprehension (.ListComp elt [⟨tg, iter, ifs, 0⟩] scope pos) scope X.env _ (newList []) false (eval iter X.env) (some (assign (.Name y py) X.env))) _ _ s
  refine wpAny_bind (wpAny_mono (wpAny_comprehension_free rfl hs (closureFor_all fun p hp hf => I.ok.has p.1 (O.fr p hp hf)) O.kind O.names (thn (hit pins s σ H _ I h) fun v s1 h1 => thn h1 fun itv s2 h2 => ?_))
    (fun _ s' hq => wpAny_pure (wpAny_pure hq)) fun _ _ e => e)
  obtain ⟨it, fp, tn, J, H2, e, I2, T, st2, f2, hw⟩ := h2
  subst e
  refine comp_blockN O hc hg hi he I2 T st2 f2 hw ?_
  intro E C m' H' s' I' n' fC q
  show wpAny _ _ (assign (.Name y py) X.env (.ref E)) _ _ s'
  refine wpAny_assign_Name (store_ok2 (v := .ref E) I' hN hy (.inl hl) rfl (fun s'' I'' ⟨a, sb, ha⟩ => ?_) (.inr hl))
  have hCa : C ≠ a := by
    rcases ha with rfl | ha
    · exact fC.2.1
    · exact fun z => fC.2.2.2.2.1 _ _ ha z.symm
  exact ⟨m', n'.sameBut sb hCa, fun h' hs' => ⟨_, H', comp_turned I'' fC hs', q⟩⟩
end
theorem pick_of {α : Type} {xs : List α} {f : Nat → Nat} : ∀ {c : Nat}, (∀ k, k < c → f k < xs.length) → (((List.range c).map f).filterMap (xs[·]?)).length = c ∧ ∀ k, k < c → (((List.range c).map f).filterMap (xs[·]?))[k]? = xs[f k]?
  | 0, _ => ⟨rfl, fun k h => absurd h (Nat.not_lt_zero _)⟩
  | c + 1, h => by
    obtain ⟨h1, h2⟩ := pick_of fun k hk => h k (Nat.lt_succ_of_lt hk)
    have hc := h c (Nat.lt_succ_self c)
    have e : ((List.range (c + 1)).map f).filterMap (xs[·]?) = ((List.range c).map f).filterMap (xs[·]?) ++ [xs[f c]] := by
      rw [List.range_succ, List.map_append, List.filterMap_append]
      congr 1
      simp [hc]
    rw [e]
    refine ⟨by rw [List.length_append, h1]; rfl, fun k hk => ?_⟩
    by_cases q : k < c
    · rw [List.getElem?_append_left (by rw [h1]; exact q)]
      exact h2 k q
    · have q' : k = c := by lia
      subst q'
      rw [List.getElem?_append_right (by rw [h1]; exact Nat.le_refl _), h1, Nat.sub_self, List.getElem?_eq_getElem hc]
      rfl
theorem pick_back (xs : List V) : (pickV xs none none (some (-1))).length = xs.length ∧ ∀ k, k < xs.length → (pickV xs none none (some (-1)))[k]? = xs[xs.length - 1 - k]? := by
  have e : pickV xs none none (some (-1)) = ((List.range xs.length).map fun k => xs.length - 1 - k).filterMap (xs[·]?) := by
    unfold pickV sliceRange
    have c : (if (-1 : Int) > 0 then (if (xs.length : Int) - 1 < -1 then (-1 - ((xs.length : Int) - 1) + -1 - 1) / -1 else 0) else (if (xs.length : Int) - 1 > -1 then ((xs.length : Int) - 1 - -1 - -1 - 1) / (- -1) else 0)).toNat = xs.length := by
      rw [if_neg (by decide)]
      split
      · rw [show (- -1 : Int) = 1 from rfl, Int.ediv_one]; lia
      · lia
    show ((List.range (if (-1 : Int) > 0 then (if (xs.length : Int) - 1 < -1 then (-1 - ((xs.length : Int) - 1) + -1 - 1) / -1 else 0) else (if (xs.length : Int) - 1 > -1 then ((xs.length : Int) - 1 - -1 - -1 - 1) / (- -1) else 0)).toNat).map fun (k : Nat) => ((xs.length : Int) - 1 + -1 * (k : Int)).toNat).filterMap (xs[·]?) = _
    rw [c]
    congr 2
    funext k
    lia
  rw [e]
  exact pick_of fun k hk => by lia
end L2
namespace B
open PySem L2
inductive I where
  | non | bl (b : Bool) | int (i : Int) | str (x : Str) | ty (n : String) | tup (xs : List I) | ref (k : Nat) | fro (xs : List I) | con (xs : List I)
inductive M where
  | lst (xs : List I) | dic (kvs : List (Key × I)) | dit (kvs : List (List Key × I)) | fdi (kvs : List (Key × I)) | obj (c : Str) (fs : List (Str × I))
inductive Vl where
  | im (d : I) | ow (m : M)
noncomputable def FrL (K : PySem.W.Frag) (H : Hp) (a : Addr) (vs : List V) : Prop := (∃ o, H a = some (.frz o (.lst vs))) ∨ SqL K (fun _ => none) a vs
mutual
inductive RpI (K : PySem.W.Frag) (ι : List Addr) (H : Hp) : V → I → Prop
  | non : RpI K ι H .non .non
  | bl (b : Bool) : RpI K ι H (.bl b) (.bl b)
  | int (i : Int) : RpI K ι H (.int i) (.int i)
  | str (x : Str) : RpI K ι H (.str x) (.str x)
  | ty (n : String) : RpI K ι H (.ty n) (.ty n)
  | ref {a : Addr} {k : Nat} : ι[k]? = some a → RpI K ι H (.ref a) (.ref k)
  | tup {a : Addr} {vs : List V} {xs : List I} : H a = some (.tup vs) → RpIs K ι H vs xs → RpI K ι H (.ref a) (.tup xs)
  | con {a : Addr} {vs : List V} {xs : List I} : SqT K (fun _ => none) a vs → RpIs K ι H vs xs → RpI K ι H (.ref a) (.con xs)
  | fro {a : Addr} {vs : List V} {xs : List I} : FrL K H a vs → RpIs K ι H vs xs → RpI K ι H (.ref a) (.fro xs)
inductive RpIs (K : PySem.W.Frag) (ι : List Addr) (H : Hp) : List V → List I → Prop
  | nil : RpIs K ι H [] []
  | cons {v : V} {d : I} {vs : List V} {ds : List I} : RpI K ι H v d → RpIs K ι H vs ds → RpIs K ι H (v :: vs) (d :: ds)
end
theorem rpInt (r : RpI K ι H v (.int i)) : v = .int i := by cases r; rfl
theorem rpStr (r : RpI K ι H v (.str i)) : v = .str i := by cases r; rfl
theorem rpBl (r : RpI K ι H v (.bl i)) : v = .bl i := by cases r; rfl
theorem rpNon (r : RpI K ι H v .non) : v = .non := by cases r; rfl
theorem rpTy (r : RpI K ι H v (.ty i)) : v = .ty i := by cases r; rfl
theorem rpTup (r : RpI K ι H v (.tup xs)) : ∃ a vs, v = .ref a ∧ H a = some (.tup vs) ∧ RpIs K ι H vs xs := by cases r with | tup h q => exact ⟨_, _, rfl, h, q⟩
theorem rpCon (r : RpI K ι H v (.con xs)) : ∃ a vs, v = .ref a ∧ SqT K (fun _ => none) a vs ∧ RpIs K ι H vs xs := by cases r with | con h q => exact ⟨_, _, rfl, h, q⟩
theorem rpFro (r : RpI K ι H v (.fro xs)) : ∃ a vs, v = .ref a ∧ FrL K H a vs ∧ RpIs K ι H vs xs := by cases r with | fro h q => exact ⟨_, _, rfl, h, q⟩
noncomputable def Pre (ι ι' : List Addr) : Prop := ∀ (k : Nat) (a : Addr), ι[k]? = some a → ι'[k]? = some a
structure Kp (H H' : Hp) : Prop where
  tup : ∀ a xs, H a = some (.tup xs) → H' a = some (.tup xs)
  frz : ∀ a o u, H a = some (.frz o u) → H' a = some (.frz o u)
theorem Kp.refl (H : Hp) : Kp H H := ⟨fun _ _ h => h, fun _ _ _ h => h⟩
theorem Kp.trans (x : Kp H H1) (y : Kp H1 H2) : Kp H H2 := ⟨fun a xs h => y.tup a xs (x.tup a xs h), fun a o u h => y.frz a o u (x.frz a o u h)⟩
theorem Kp.same (h : Same H H') : Kp H H' := ⟨fun a xs e => h _ _ e, fun a o u e => h _ _ e⟩
theorem Pre.refl (ι : List Addr) : Pre ι ι := fun _ _ h => h
theorem Pre.trans (x : Pre ι ι1) (y : Pre ι1 ι2) : Pre ι ι2 := fun k a h => y k a (x k a h)
theorem Pre.snoc (ι : List Addr) (b : List Addr) : Pre ι (ι ++ b) := fun k a h => by
  have : k < ι.length := (List.getElem?_eq_some_iff.mp h).1
  rw [List.getElem?_append_left this]; exact h
theorem Kp.frL   (k : Kp H H') (h : FrL K H a vs) : FrL K H' a vs := by
  rcases h with ⟨o, h⟩ | h
  · exact .inl ⟨o, k.frz _ _ _ h⟩
  · exact .inr h
theorem SqT.kon   (h : SqT K (fun _ => none) a vs) : SqT K H a vs := by
  rcases h with (h | ⟨o, h⟩) | h
  · cases h
  · cases h
  · exact .inr h
theorem FrL.sq   (h : FrL K H a vs) : SqL K H a vs := by
  rcases h with ⟨o, h⟩ | h
  · exact .inl (.inr ⟨o, h⟩)
  · rcases h with (h | ⟨o, h⟩) | h
    · cases h
    · cases h
    · exact .inr h
section
mutual
theorem RpI.mono  (p : Pre ι ι') (k : Kp H H') : RpI K ι H v d → RpI K ι' H' v d
  | .non => .non
  | .bl b => .bl b
  | .int i => .int i
  | .str x => .str x
  | .ty n => .ty n
  | .ref h => .ref (p _ _ h)
  | .tup h r => .tup (k.tup _ _ h) (RpIs.mono p k r)
  | .con h r => .con h (RpIs.mono p k r)
  | .fro h r => .fro (k.frL h) (RpIs.mono p k r)
theorem RpIs.mono  (p : Pre ι ι') (k : Kp H H') : RpIs K ι H vs ds → RpIs K ι' H' vs ds
  | .nil => .nil
  | .cons h r => .cons (RpI.mono p k h) (RpIs.mono p k r)
end
theorem RpIs.len : ∀ {vs : List V} {ds : List I}, RpIs K ι H vs ds → vs.length = ds.length
  | _, _, .nil => rfl
  | _, _, .cons _ r => by rw [List.length_cons, List.length_cons, r.len]
theorem RpIs.get : ∀ {vs : List V} {ds : List I} {i : Nat} {d : I}, RpIs K ι H vs ds → ds[i]? = some d → ∃ v, vs[i]? = some v ∧ RpI K ι H v d
  | _, _, _, _, .nil, e => by simp at e
  | _, _, 0, _, .cons h _, e => by simp at e; subst e; exact ⟨_, rfl, h⟩
  | _, _, i + 1, d, .cons _ r, e => by
    obtain ⟨v, h1, h2⟩ := RpIs.get r (by simpa using e)
    exact ⟨v, by simpa using h1, h2⟩
theorem RpIs.app : ∀ {vs ws : List V} {ds es : List I}, RpIs K ι H vs ds → RpIs K ι H ws es → RpIs K ι H (vs ++ ws) (ds ++ es)
  | _, _, _, _, .nil, s => s
  | _, _, _, _, .cons h r, s => .cons h (RpIs.app r s)
theorem RpIs.take : ∀ {vs : List V} {ds : List I} (n : Nat), RpIs K ι H vs ds → RpIs K ι H (vs.take n) (ds.take n)
  | _, _, 0, _ => .nil
  | _, _, _ + 1, .nil => .nil
  | _, _, n + 1, .cons h r => .cons h (RpIs.take n r)
theorem RpIs.drop : ∀ {vs : List V} {ds : List I} (n : Nat), RpIs K ι H vs ds → RpIs K ι H (vs.drop n) (ds.drop n)
  | _, _, 0, r => r
  | _, _, _ + 1, .nil => .nil
  | _, _, n + 1, .cons _ r => RpIs.drop n r
theorem RpIs.set : ∀ {vs : List V} {ds : List I} {v : V} {d : I} (i : Nat), RpIs K ι H vs ds → RpI K ι H v d → RpIs K ι H (vs.set i v) (ds.set i d)
  | _, _, _, _, _, .nil, _ => .nil
  | _, _, _, _, 0, .cons _ r, h => .cons h r
  | _, _, _, _, i + 1, .cons g r, h => .cons g (RpIs.set i r h)
theorem RpIs.rev : ∀ {vs : List V} {ds : List I}, RpIs K ι H vs ds → RpIs K ι H vs.reverse ds.reverse
  | _, _, .nil => .nil
  | _, _, .cons h r => by rw [List.reverse_cons, List.reverse_cons]; exact r.rev.app (.cons h .nil)
noncomputable def RpM (K : PySem.W.Frag) (κ : Str → Addr) (ι : List Addr) (H : Hp) (a : Addr) : M → Prop
  | .lst xs => ∃ vs, H a = some (.lst vs) ∧ RpIs K ι H vs xs
  | .dic kvs => ∃ ws, H a = some (.dK ws) ∧ ws.map (·.1) = kvs.map (·.1) ∧ RpIs K ι H (ws.map (·.2)) (kvs.map (·.2))
  | .dit kvs => ∃ ws, H a = some (.dT ws) ∧ ws.map (·.1) = kvs.map (·.1) ∧ RpIs K ι H (ws.map (·.2)) (kvs.map (·.2))
  | .fdi kvs => ∃ o ws, H a = some (.frz o (.dK ws)) ∧ ws.map (·.1) = kvs.map (·.1) ∧ RpIs K ι H (ws.map (·.2)) (kvs.map (·.2))
  | .obj c fs => ∃ dx ws, H a = some (.ins (κ c) dx ws) ∧ ws.map (·.1) = fs.map (·.1) ∧ RpIs K ι H (ws.map (·.2)) (fs.map (·.2))
theorem RpM.mono  (p : Pre ι ι') (k : Kp H H') (e : H' a = H a) (h : RpM K κ ι H a m) : RpM K κ ι' H' a m := by
  cases m with
  | lst xs => obtain ⟨vs, h1, h2⟩ := h; exact ⟨vs, by rw [e]; exact h1, h2.mono p k⟩
  | dic xs => obtain ⟨vs, h1, h2, h3⟩ := h; exact ⟨vs, by rw [e]; exact h1, h2, h3.mono p k⟩
  | dit xs => obtain ⟨vs, h1, h2, h3⟩ := h; exact ⟨vs, by rw [e]; exact h1, h2, h3.mono p k⟩
  | obj c xs => obtain ⟨dx, vs, h1, h2, h3⟩ := h; exact ⟨dx, vs, by rw [e]; exact h1, h2, h3.mono p k⟩
  | fdi xs => obtain ⟨o, vs, h1, h2, h3⟩ := h; exact ⟨o, vs, by rw [e]; exact h1, h2, h3.mono p k⟩
noncomputable def isMu : HO → Bool
  | .lst _ | .dK _ | .dT _ | .ins _ _ _ => true
  | .frz _ (.dK _) => true
  | _ => false
noncomputable def isF : M → Bool
  | .fdi _ => true
  | _ => false
theorem RpM.nf  (h : RpM K κ ι H a m) (hf : isF m = false) : ∀ o u, H a ≠ some (.frz o u) := fun o u e => by
  cases m with
  | lst xs => obtain ⟨vs, h1, h2⟩ := h; rw [h1] at e; cases e
  | dic xs => obtain ⟨vs, h1, h2, h3⟩ := h; rw [h1] at e; cases e
  | dit xs => obtain ⟨vs, h1, h2, h3⟩ := h; rw [h1] at e; cases e
  | obj c xs => obtain ⟨dx, vs, h1, h2, h3⟩ := h; rw [h1] at e; cases e
  | fdi xs => cases hf
theorem RpM.mu  (h : RpM K κ ι H a m) : ∃ o, H a = some o ∧ isMu o = true := by
  cases m with
  | lst xs => obtain ⟨vs, h1, h2⟩ := h; exact ⟨_, h1, rfl⟩
  | dic xs => obtain ⟨vs, h1, h2, h3⟩ := h; exact ⟨_, h1, rfl⟩
  | dit xs => obtain ⟨vs, h1, h2, h3⟩ := h; exact ⟨_, h1, rfl⟩
  | obj c xs => obtain ⟨dx, vs, h1, h2, h3⟩ := h; exact ⟨_, h1, rfl⟩
  | fdi xs => obtain ⟨o, vs, h1, h2, h3⟩ := h; exact ⟨_, h1, rfl⟩
inductive RpE (K : PySem.W.Frag) (κ : Str → Addr) (ι : List Addr) (H : Hp) : Option V → Option Vl → Prop
  | no (x : Option V) : RpE K κ ι H x none
  | im {v : V} {d : I} : RpI K ι H v d → RpE K κ ι H (some v) (some (.im d))
  | ow {a : Addr} {m : M} : RpM K κ ι H a m → RpE K κ ι H (some (.ref a)) (some (.ow m))
noncomputable def own1 : Option V → Option Vl → List Addr
  | some (.ref a), some (.ow _) => [a]
  | _, _ => []
noncomputable def own : List (Option V) → List (Option Vl) → List Addr
  | v :: σ, x :: δ => own1 v x ++ own σ δ
  | _, _ => []
theorem own_app : ∀ {σ : List (Option V)} {δ : List (Option Vl)} (τ : List (Option V)) (θ : List (Option Vl)), σ.length = δ.length → own (σ ++ τ) (δ ++ θ) = own σ δ ++ own τ θ
  | [], [], _, _, _ => rfl
  | [], _ :: _, _, _, h => by cases h
  | _ :: _, [], _, _, h => by cases h
  | v :: σ, x :: δ, τ, θ, h => by
    show own1 v x ++ own (σ ++ τ) (δ ++ θ) = own1 v x ++ own σ δ ++ own τ θ
    rw [own_app τ θ (by simpa using h), List.append_assoc]
noncomputable abbrev cnt (a : Addr) (l : List Addr) : Nat := List.count a l
structure SR (K : PySem.W.Frag) (κ : Str → Addr) (ι : List Addr) (H : Hp) (σ : St) (δ : List (Option Vl)) (G : List M) : Prop where
  sl : Paired (RpE K κ ι H) σ δ
  gs : Paired (RpM K κ ι H) ι G
  nd : ∀ a, cnt a (own σ δ) + cnt a ι ≤ 1
structure Step (ι fp : List Addr) (H : Hp) (ι' fp' : List Addr) (H' : Hp) : Prop where
  pre : Pre ι ι'
  src : ∀ a, a ∈ fp' → a ∈ fp ∨ H a = none
  keep : ∀ a o, H a = some o → a ∉ fp → H' a = some o
  dom : ∀ a, H' a = none → H a = none
  kp : Kp H H'
theorem Step.refl (ι fp : List Addr) (H : Hp) : Step ι fp H ι fp H := ⟨Pre.refl _, fun _ h => .inl h, fun _ _ h _ => h, fun _ h => h, Kp.refl _⟩
theorem Step.trans  (x : Step ι fp H ι1 fp1 H1) (y : Step ι1 fp1 H1 ι2 fp2 H2) : Step ι fp H ι2 fp2 H2 where
  pre := x.pre.trans y.pre
  src := fun a h => by
    rcases y.src a h with q | q
    · exact x.src a q
    · exact .inr (x.dom a q)
  keep := fun a o h n => y.keep a o (x.keep a o h n) fun q => by
    rcases x.src a q with z | z
    · exact n z
    · rw [z] at h; cases h
  dom := fun a h => x.dom a (y.dom a h)
  kp := x.kp.trans y.kp
theorem Step.sub  (x : Step ι fp H ι1 fp1 H1) (h : ∀ a, a ∈ fp2 → a ∈ fp1) : Step ι fp H ι1 fp2 H1 := ⟨x.pre, fun a q => x.src a (h a q), x.keep, x.dom, x.kp⟩
theorem Step.wide  (x : Step ι fp H ι1 fp1 H1) (h : ∀ a, a ∈ fp → a ∈ fq) : Step ι fq H ι1 fp1 H1 := ⟨x.pre, fun a q => (x.src a q).imp (h a) id, fun a o q n => x.keep a o q fun z => n (h a z), x.dom, x.kp⟩
/-- with what lies beside it -/
theorem Step.beside  (x : Step ι fp H ι1 fp1 H1) : Step ι (t ++ fp) H ι1 (t ++ fp1) H1 where
  pre := x.pre
  src := fun a h => by
    rcases List.mem_append.mp h with q | q
    · exact .inl (List.mem_append_left _ q)
    · exact (x.src a q).imp (List.mem_append_right _) id
  keep := fun a o h n => x.keep a o h fun q => n (List.mem_append_right _ q)
  dom := x.dom
  kp := x.kp
theorem cnt_pos  : a ∈ l ↔ 0 < cnt a l := List.count_pos_iff.symm
theorem RpE.mono  (p : Pre ι ι') (k : Kp H H') (e : ∀ a, a ∈ own1 v x → H' a = H a) (h : RpE K κ ι H v x) : RpE K κ ι' H' v x := by
  cases h with
  | no => exact .no _
  | im h => exact .im (h.mono p k)
  | ow h => exact .ow (h.mono p k (e _ (by unfold own1; exact List.mem_singleton.mpr rfl)))
theorem slots_mono (p : Pre ι ι') (k : Kp H H') : ∀ {σ : St} {δ : List (Option Vl)}, (∀ a, a ∈ own σ δ → H' a = H a) → Paired (RpE K κ ι H) σ δ → Paired (RpE K κ ι' H') σ δ
  | _, _, _, .nil => .nil
  | _, _, e, .cons h r => .cons (h.mono p k fun a q => e a (List.mem_append_left _ q)) (slots_mono p k (fun a q => e a (List.mem_append_right _ q)) r)
theorem objs_mono (p : Pre ι ι') (k : Kp H H') : ∀ {as : List Addr} {G : List M}, (∀ a, a ∈ as → H' a = H a) → Paired (RpM K κ ι H) as G → Paired (RpM K κ ι' H') as G
  | _, _, _, .nil => .nil
  | _, _, e, .cons h r => .cons (h.mono p k (e _ List.mem_cons_self)) (objs_mono p k (fun a q => e a (List.mem_cons_of_mem _ q)) r)
theorem own1_no (v : Option V) : own1 v none = [] := by
  cases v with
  | none => rfl
  | some v => cases v <;> rfl
theorem own1_im (v : Option V) (d : I) : own1 v (some (.im d)) = [] := by
  cases v with
  | none => rfl
  | some v => cases v <;> rfl
theorem own_mu : ∀ {σ : St} {δ : List (Option Vl)} {a : Addr}, Paired (RpE K κ ι H) σ δ → a ∈ own σ δ → ∃ o, H a = some o ∧ isMu o = true
  | _, _, _, .nil, h => by cases h
  | _, _, a, .cons h r, q => by
    rcases List.mem_append.mp q with z | z
    · cases h with
      | no => rw [own1_no] at z; cases z
      | im h => rw [own1_im] at z; cases z
      | ow h => obtain rfl := List.mem_singleton.mp z; exact h.mu
    · exact own_mu r z
theorem objs_mu : ∀ {as : List Addr} {G : List M} {a : Addr}, Paired (RpM K κ ι H) as G → a ∈ as → ∃ o, H a = some o ∧ isMu o = true
  | _, _, _, .nil, h => by cases h
  | _, _, a, .cons h r, q => by
    rcases List.mem_cons.mp q with rfl | z
    · exact h.mu
    · exact objs_mu r z
theorem SR.len  (h : SR K κ ι H σ δ G) : σ.length = δ.length := Paired.length h.sl
theorem SR.mu   (h : SR K κ ι H σ δ G) (q : a ∈ own σ δ ++ ι) : ∃ o, H a = some o ∧ isMu o = true := by
  rcases List.mem_append.mp q with z | z
  · exact own_mu h.sl z
  · exact objs_mu h.gs z
theorem paired_app {α β : Type} {F : α → β → Prop} : ∀ {a : List α} {b : List β} {c : List α} {d : List β}, Paired F a b → Paired F c d → Paired F (a ++ c) (b ++ d)
  | _, _, _, _, .nil, h => h
  | _, _, _, _, .cons h r, q => .cons h (paired_app r q)
theorem paired_split {α β : Type} {F : α → β → Prop} : ∀ {a : List α} {b : List β} {c : List α} {d : List β}, a.length = b.length → Paired F (a ++ c) (b ++ d) → Paired F a b ∧ Paired F c d
  | [], [], _, _, _, h => ⟨.nil, h⟩
  | [], _ :: _, _, _, l, _ => by cases l
  | _ :: _, [], _, _, l, _ => by cases l
  | x :: a, y :: b, c, d, l, h => by
    cases h with
    | cons h r =>
      obtain ⟨p, q⟩ := paired_split (by simpa using l) r
      exact ⟨.cons h p, q⟩
/-- temporaries that lie beside the slots while something else is done -/
theorem SR.join   (h1 : SR K κ ι1 H1 (σ0 ++ τ) (δ1 ++ θ) G1) (l1 : σ0.length = δ1.length) (h2 : SR K κ ι2 H2 (σ ++ τ2) (δ2 ++ θ2) G2) (l2 : σ.length = δ2.length)
    (st : Step ι1 (own σ0 δ1 ++ ι1) H1 ι2 (own (σ ++ τ2) (δ2 ++ θ2) ++ ι2) H2) : SR K κ ι2 H2 (σ ++ (τ ++ τ2)) (δ2 ++ (θ ++ θ2)) G2 ∧ Step ι1 (own (σ0 ++ τ) (δ1 ++ θ) ++ ι1) H1 ι2 (own (σ ++ (τ ++ τ2)) (δ2 ++ (θ ++ θ2)) ++ ι2) H2 := by
  obtain ⟨a1, b1⟩ := paired_split l1 h1.sl
  obtain ⟨a2, b2⟩ := paired_split l2 h2.sl
  have lt := Paired.length b1
  have n1 := h1.nd
  have n2 := h2.nd
  rw [own_app _ _ l1] at n1
  rw [own_app _ _ l2] at n2
  have st' := st
  rw [own_app _ _ l2] at st'
  have apart : ∀ a, a ∈ own τ θ → a ∉ own σ0 δ1 ++ ι1 := fun a q z => by
    have := n1 a
    rw [cnt, List.count_append] at this
    have p1 : 0 < cnt a (own τ θ) := cnt_pos.mp q
    rcases List.mem_append.mp z with z | z
    · have := cnt_pos.mp z; unfold cnt at *; lia
    · have := cnt_pos.mp z; unfold cnt at *; lia
  have some1 : ∀ a, a ∈ own τ θ → ∃ o, H1 a = some o := fun a q => let ⟨o, e, _⟩ := own_mu b1 q; ⟨o, e⟩
  have e2 : own (σ ++ (τ ++ τ2)) (δ2 ++ (θ ++ θ2)) = own σ δ2 ++ (own τ θ ++ own τ2 θ2) := by rw [own_app _ _ l2, own_app _ _ lt]
  refine ⟨⟨paired_app a2 (paired_app (slots_mono st.pre st.kp (fun a q => ?_) b1) b2), h2.gs, fun a => ?_⟩, ?_⟩
  · obtain ⟨o, e⟩ := some1 a q
    rw [e, st.keep a o e (apart a q)]
  · rw [e2]
    have m2 := n2 a
    have m1 := n1 a
    simp only [cnt, List.count_append] at m1 m2 ⊢
    by_cases q : a ∈ own τ θ
    · obtain ⟨o, e⟩ := some1 a q
      have z : a ∉ own σ δ2 ++ own τ2 θ2 ++ ι2 := fun z => by
        rcases st'.src a z with y | y
        · exact apart a q y
        · rw [e] at y; cases y
      have : cnt a (own σ δ2 ++ own τ2 θ2 ++ ι2) = 0 := List.count_eq_zero.mpr z
      simp only [cnt, List.count_append] at this
      lia
    · have : cnt a (own τ θ) = 0 := List.count_eq_zero.mpr q
      unfold cnt at this
      lia
  · rw [e2, own_app _ _ l1]
    have s := (Step.beside (t := own τ θ) st')
    refine (s.sub fun a h => ?_).wide fun a h => ?_
    · simp only [List.mem_append] at h ⊢
      rcases h with (h | h | h) | h
      · exact .inr (.inl (.inl h))
      · exact .inl h
      · exact .inr (.inl (.inr h))
      · exact .inr (.inr h)
    · simp only [List.mem_append] at h ⊢
      rcases h with h | h | h
      · exact .inl (.inr h)
      · exact .inl (.inl h)
      · exact .inr h
end
end B
namespace B
open PySem L2
section
theorem own1_ow (a : Addr) (m : M) : own1 (some (.ref a)) (some (.ow m)) = [a] := rfl
theorem cnt_own_set : ∀ {σ : St} {δ : List (Option Vl)} {i : Nat} {v w : Option V} {x y : Option Vl} (a : Addr), σ[i]? = some v → δ[i]? = some x →
    cnt a (own (σ.set i w) (δ.set i y)) + cnt a (own1 v x) = cnt a (own σ δ) + cnt a (own1 w y)
  | [], _, _, _, _, _, _, _, h, _ => by simp at h
  | _ :: _, [], _, _, _, _, _, _, _, h => by simp at h
  | v0 :: σ, x0 :: δ, 0, v, w, x, y, a, h1, h2 => by
    simp at h1 h2
    subst h1; subst h2
    show cnt a (own1 w y ++ own σ δ) + cnt a (own1 v0 x0) = cnt a (own1 v0 x0 ++ own σ δ) + cnt a (own1 w y)
    simp only [cnt, List.count_append]
    lia
  | v0 :: σ, x0 :: δ, i + 1, v, w, x, y, a, h1, h2 => by
    have := cnt_own_set (w := w) (y := y) a (by simpa using h1) (by simpa using h2)
    show cnt a (own1 v0 x0 ++ own (σ.set i w) (δ.set i y)) + cnt a (own1 v x) = cnt a (own1 v0 x0 ++ own σ δ) + cnt a (own1 w y)
    simp only [cnt, List.count_append] at this ⊢
    lia
theorem set_self {α : Type} {l : List α} {i : Nat} {v : α} (h : l[i]? = some v) : l.set i v = l := by
  refine List.ext_getElem? fun j => ?_
  by_cases e : i = j
  · subst e
    rw [List.getElem?_set_self (List.getElem?_eq_some_iff.mp h).1, h]
  · rw [List.getElem?_set_ne e]
theorem cnt_own_setD  (a : Addr) (h1 : σ[i]? = some v) (h2 : δ[i]? = some x) :
    cnt a (own σ (δ.set i y)) + cnt a (own1 v x) = cnt a (own σ δ) + cnt a (own1 v y) := by
  have := cnt_own_set (w := v) (y := y) a h1 h2
  rw [set_self h1] at this
  exact this
theorem paired_get {α β : Type} {F : α → β → Prop} : ∀ {l : List α} {r : List β} {i : Nat} {y : β}, Paired F l r → r[i]? = some y → ∃ x, l[i]? = some x ∧ F x y
  | _, _, _, _, .nil, h => by simp at h
  | _, _, 0, _, .cons h _, e => by simp at e; subst e; exact ⟨_, rfl, h⟩
  | _, _, i + 1, y, .cons _ r, e => by
    obtain ⟨x, h1, h2⟩ := paired_get r (by simpa using e)
    exact ⟨x, by simpa using h1, h2⟩
theorem paired_set {α β : Type} {F : α → β → Prop} {x : α} {y : β} : ∀ {l : List α} {r : List β} (i : Nat), Paired F l r → F x y → Paired F (l.set i x) (r.set i y)
  | _, _, _, .nil, _ => .nil
  | _, _, 0, .cons _ r, q => .cons q r
  | _, _, i + 1, .cons h r, q => .cons h (paired_set i r q)
theorem paired_setR {α β : Type} {F : α → β → Prop} {x : α} {y : β} {l : List α} {r : List β} {i : Nat} (h : Paired F l r) (e : l[i]? = some x) (q : F x y) : Paired F l (r.set i y) := by
  have := paired_set i h q
  rw [set_self e] at this
  exact this
theorem SR.get_im (h : SR K κ ι H σ δ G) {i : Nat} {d : I} (e : δ[i]? = some (some (.im d))) : ∃ v, σ[i]? = some (some v) ∧ RpI K ι H v d := by
  obtain ⟨x, e1, q⟩ := paired_get h.sl e
  cases q with
  | im q => exact ⟨_, e1, q⟩
theorem SR.get_ow (h : SR K κ ι H σ δ G) {i : Nat} {m : M} (e : δ[i]? = some (some (.ow m))) : ∃ a, σ[i]? = some (some (.ref a)) ∧ RpM K κ ι H a m := by
  obtain ⟨x, e1, q⟩ := paired_get h.sl e
  cases q with
  | ow q => exact ⟨_, e1, q⟩
theorem SR.get_g (h : SR K κ ι H σ δ G) {k : Nat} {m : M} (e : G[k]? = some m) : ∃ a, ι[k]? = some a ∧ RpM K κ ι H a m := paired_get h.gs e
theorem own_mem : ∀ {σ : St} {δ : List (Option Vl)} {i : Nat} {a : Addr} {m : M}, σ[i]? = some (some (.ref a)) → δ[i]? = some (some (.ow m)) → a ∈ own σ δ
  | [], _, _, _, _, h, _ => by simp at h
  | _ :: _, [], _, _, _, _, h => by simp at h
  | v0 :: σ, x0 :: δ, 0, a, m, h1, h2 => by
    simp at h1 h2
    subst h1; subst h2
    exact List.mem_append_left _ (List.mem_singleton.mpr rfl)
  | v0 :: σ, x0 :: δ, i + 1, a, m, h1, h2 => List.mem_append_right _ (own_mem (by simpa using h1) (by simpa using h2))
theorem SR.same (h : SR K κ ι H σ δ G) (s : Same H H') : SR K κ ι H' σ δ G where
  sl := slots_mono (Pre.refl _) (Kp.same s) (fun a q => by obtain ⟨o, e, _⟩ := own_mu h.sl q; rw [e, s _ _ e]) h.sl
  gs := objs_mono (Pre.refl _) (Kp.same s) (fun a q => by obtain ⟨o, e, _⟩ := objs_mu h.gs q; rw [e, s _ _ e]) h.gs
  nd := h.nd
theorem Step.same (s : Same H H') : Step ι fp H ι fp H' := ⟨Pre.refl _, fun _ h => .inl h, fun a o e _ => s _ _ e, fun a e => s.free e, Kp.same s⟩
theorem Same.lay  (hp : H p = none) : Same H (upd H p o) := fun b u e => by rw [upd_ne (ne_of_none e hp)]; exact e
theorem SR.pop (h : SR K κ ι H (σ ++ τ) (δ ++ θ) G) (l : σ.length = δ.length) : SR K κ ι H σ δ G := by
  obtain ⟨a, b⟩ := paired_split l h.sl
  refine ⟨a, h.gs, fun x => ?_⟩
  have := h.nd x
  rw [own_app _ _ l] at this
  simp only [cnt, List.count_append] at this ⊢
  lia
theorem own_sub (l : σ.length = δ.length) (h : a ∈ own σ δ ++ ι) : a ∈ own (σ ++ τ) (δ ++ θ) ++ ι := by
  rw [own_app _ _ l]
  simp only [List.mem_append] at h ⊢
  rcases h with h | h
  · exact .inl (.inl h)
  · exact .inr h
theorem SR.push_im  (h : SR K κ ι H σ δ G) (r : RpI K ι H v d) : SR K κ ι H (σ ++ [some v]) (δ ++ [some (.im d)]) G := by
  refine ⟨paired_app h.sl (.cons (.im r) .nil), h.gs, fun x => ?_⟩
  have e : own [some v] [some (.im d)] = [] := by show own1 _ _ ++ [] = []; rw [own1_im]; rfl
  rw [own_app _ _ h.len, e, List.append_nil]
  exact h.nd x
theorem own_im  (l : σ.length = δ.length) : own (σ ++ [some v]) (δ ++ [some (.im d)]) = own σ δ := by
  rw [own_app _ _ l]
  show own σ δ ++ (own1 _ _ ++ []) = _
  rw [own1_im]; simp
theorem own_ow  (l : σ.length = δ.length) : own (σ ++ [some (.ref a)]) (δ ++ [some (.ow m)]) = own σ δ ++ [a] := by
  rw [own_app _ _ l]; rfl
theorem SR.push_ow  (h : SR K κ ι H σ δ G) (hp : H p = none) (r : RpM K κ ι (upd H p o) p m) : SR K κ ι (upd H p o) (σ ++ [some (.ref p)]) (δ ++ [some (.ow m)]) G := by
  have h' := h.same (Same.lay (o := o) hp)
  refine ⟨paired_app h'.sl (.cons (.ow r) .nil), h'.gs, fun x => ?_⟩
  rw [own_ow h.len]
  have := h.nd x
  simp only [cnt, List.count_append] at this ⊢
  by_cases e : p = x
  · subst e
    have n : p ∉ own σ δ ++ ι := fun q => by obtain ⟨o, e, _⟩ := h.mu q; rw [hp] at e; cases e
    have : cnt p (own σ δ ++ ι) = 0 := List.count_eq_zero.mpr n
    simp only [cnt, List.count_append] at this
    simp
    lia
  · have : List.count x [p] = 0 := List.count_eq_zero.mpr (by simp; exact fun z => e z.symm)
    lia
theorem Step.lay_ow  (l : σ.length = δ.length) (hp : H p = none) : Step ι (own σ δ ++ ι) H ι (own (σ ++ [some (.ref p)]) (δ ++ [some (.ow m)]) ++ ι) (upd H p o) where
  pre := Pre.refl _
  src := fun a h => by
    rw [own_ow l] at h
    simp only [List.mem_append, List.mem_singleton] at h ⊢
    rcases h with (h | h) | h
    · exact .inl (.inl h)
    · subst h; exact .inr hp
    · exact .inl (.inr h)
  keep := fun a u e _ => Same.lay hp _ _ e
  dom := fun a e => (Same.lay hp).free e
  kp := Kp.same (Same.lay hp)
/-- the last temporary goes into slot i -/
theorem SR.store  (h : SR K κ ι H (σ ++ [some v]) (δ ++ [some x]) G) (l : σ.length = δ.length) : SR K κ ι H (σ.set i (some v)) (δ.set i (some x)) G := by
  obtain ⟨a, b⟩ := paired_split l h.sl
  cases b with
  | cons b _ =>
    refine ⟨paired_set i a b, h.gs, fun y => ?_⟩
    have n := h.nd y
    rw [own_app _ _ l] at n
    have e1 : own [some v] [some x] = own1 (some v) (some x) := List.append_nil _
    rw [e1] at n
    by_cases hi : i < σ.length
    · have := cnt_own_set (δ := δ) (w := some v) (y := some x) y (List.getElem?_eq_getElem hi) (List.getElem?_eq_getElem (by lia))
      simp only [cnt, List.count_append] at this n ⊢
      lia
    · rw [List.set_eq_of_length_le (by lia), List.set_eq_of_length_le (by lia)]
      simp only [cnt, List.count_append] at n ⊢
      lia
theorem own_store   (l : σ.length = δ.length) (h : a ∈ own (σ.set i (some v)) (δ.set i (some x)) ++ ι) : a ∈ own (σ ++ [some v]) (δ ++ [some x]) ++ ι := by
  rw [own_app _ _ l]
  have e1 : own [some v] [some x] = own1 (some v) (some x) := List.append_nil _
  rw [e1]
  rw [cnt_pos] at h ⊢
  by_cases hi : i < σ.length
  · have := cnt_own_set (δ := δ) (w := some v) (y := some x) a (List.getElem?_eq_getElem hi) (List.getElem?_eq_getElem (by lia))
    simp only [cnt, List.count_append] at this h ⊢
    lia
  · rw [List.set_eq_of_length_le (by lia), List.set_eq_of_length_le (by lia)] at h
    simp only [cnt, List.count_append] at h ⊢
    lia
/-- slot i becomes a temporary -/
theorem SR.take {i : Nat} {a : Addr} {m : M} (h : SR K κ ι H σ δ G) (e1 : σ[i]? = some (some (.ref a))) (e2 : δ[i]? = some (some (.ow m))) :
    SR K κ ι H (σ ++ [some (.ref a)]) (δ.set i none ++ [some (.ow m)]) G ∧ Step ι (own σ δ ++ ι) H ι (own (σ ++ [some (.ref a)]) (δ.set i none ++ [some (.ow m)]) ++ ι) H := by
  have l : σ.length = (δ.set i none).length := by rw [List.length_set]; exact h.len
  obtain ⟨a', e1', r⟩ := h.get_ow e2
  rw [e1] at e1'; cases e1'
  have q : ∀ x, cnt x (own σ (δ.set i none)) + cnt x [a] = cnt x (own σ δ) := fun x => by
    have := cnt_own_setD (y := none) x e1 e2
    rw [own1_ow, own1_no] at this
    exact this
  refine ⟨⟨paired_app (paired_setR h.sl e1 (.no _)) (.cons (.ow r) .nil), h.gs, fun x => ?_⟩, (Step.refl _ _ _).sub fun x hx => ?_⟩
  · rw [own_ow l]
    have := h.nd x
    have := q x
    simp only [cnt, List.count_append] at *
    lia
  · rw [own_ow l, cnt_pos] at hx
    rw [cnt_pos]
    have := q x
    simp only [cnt, List.count_append] at *
    lia
theorem SR.gl (h : SR K κ ι H σ δ G) : ι.length = G.length := Paired.length h.gs
theorem SR.box  (h : SR K κ ι H (σ ++ [some (.ref a)]) (δ ++ [some (.ow m)]) G) (l : σ.length = δ.length) :
    SR K κ (ι ++ [a]) H σ δ (G ++ [m]) ∧ RpI K (ι ++ [a]) H (.ref a) (.ref G.length) ∧ Step ι (own (σ ++ [some (.ref a)]) (δ ++ [some (.ow m)]) ++ ι) H (ι ++ [a]) (own σ δ ++ (ι ++ [a])) H := by
  obtain ⟨p, q⟩ := paired_split l h.sl
  have pr := Pre.snoc ι [a]
  cases q with
  | cons q _ =>
    cases q with
    | ow q =>
      refine ⟨⟨slots_mono pr (Kp.refl _) (fun _ _ => rfl) p, paired_app (objs_mono pr (Kp.refl _) (fun _ _ => rfl) h.gs) (.cons (q.mono pr (Kp.refl _) rfl) .nil), fun x => ?_⟩, ?_, ⟨pr, fun x hx => .inl ?_, fun _ _ e _ => e, fun _ e => e, Kp.refl _⟩⟩
      · have := h.nd x
        rw [own_ow l] at this
        simp only [cnt, List.count_append] at this ⊢
        lia
      · refine .ref ?_
        have e := h.gl
        rw [← e, List.getElem?_append_right (Nat.le_refl _), Nat.sub_self]; rfl
      · rw [own_ow l]
        simp only [List.mem_append] at hx ⊢
        rcases hx with hx | hx | hx
        · exact .inl (.inl hx)
        · exact .inr hx
        · exact .inl (.inr hx)
/-- the content of slot i is changed -/
theorem SR.poke {i : Nat} {a : Addr} {m m' : M} {o : HO} (h : SR K κ ι H σ δ G) (e1 : σ[i]? = some (some (.ref a))) (e2 : δ[i]? = some (some (.ow m))) (r : ∀ (ρ : RpM K κ ι H a m), Kp H (upd H a o) → RpM K κ ι (upd H a o) a m') (hf : isF m = false := by rfl) :
    SR K κ ι (upd H a o) σ (δ.set i (some (.ow m'))) G ∧ Step ι (own σ δ ++ ι) H ι (own σ (δ.set i (some (.ow m'))) ++ ι) (upd H a o) := by
  obtain ⟨a', e1', rm⟩ := h.get_ow e2
  rw [e1] at e1'; cases e1'
  obtain ⟨u, hu, mu⟩ := rm.mu
  have kp : Kp H (upd H a o) := ⟨fun b xs e => by rw [upd_ne (ne_of e hu (by rintro rfl; cases mu))]; exact e, fun b o' u' e => by rw [upd_ne (fun z => by subst z; exact rm.nf hf _ _ e)]; exact e⟩
  have q : ∀ x, cnt x (own σ (δ.set i (some (.ow m')))) = cnt x (own σ δ) := fun x => by
    have := cnt_own_setD (y := some (.ow m')) x e1 e2
    rw [own1_ow, own1_ow] at this
    lia
  have mem := own_mem e1 e2
  have na : ∀ x, x ∈ own σ (δ.set i none) → x ≠ a := fun x hx z => by
    subst z
    have := cnt_own_setD (y := none) x e1 e2
    rw [own1_ow, own1_no] at this
    have n := h.nd x
    have := cnt_pos.mp hx
    have z1 : cnt x [x] = 1 := by simp [cnt]
    have z0 : cnt x [] = 0 := rfl
    lia
  have ni : ∀ x, x ∈ ι → x ≠ a := fun x hx z => by
    subst z
    have n := h.nd x
    have := cnt_pos.mp hx
    have := cnt_pos.mp mem
    lia
  have p1 := slots_mono (Pre.refl ι) kp (fun x hx => upd_ne (na x hx)) (paired_setR h.sl e1 (.no _))
  refine ⟨⟨?_, objs_mono (Pre.refl ι) kp (fun x hx => upd_ne (ni x hx)) h.gs, fun x => by rw [q]; exact h.nd x⟩, ⟨Pre.refl _, fun x hx => .inl ?_, fun x u e n => ?_, fun x e => ?_, kp⟩⟩
  · have := paired_setR p1 e1 (.ow (r rm kp))
    rw [List.set_set] at this
    exact this
  · rw [cnt_pos] at hx ⊢
    have := q x
    simp only [cnt, List.count_append] at *
    lia
  · rw [upd_ne (fun z => n (by rw [z]; exact List.mem_append_left _ mem))]; exact e
  · by_cases z : x = a
    · subst z; rw [upd_same] at e; cases e
    · rw [upd_ne z] at e; exact e
/-- the content of the thing k is changed -/
theorem SR.pokeG {k : Nat} {a : Addr} {m m' : M} {o : HO} (h : SR K κ ι H σ δ G) (e1 : ι[k]? = some a) (e2 : G[k]? = some m) (r : ∀ (ρ : RpM K κ ι H a m), Kp H (upd H a o) → RpM K κ ι (upd H a o) a m') (hf : isF m = false := by rfl) :
    SR K κ ι (upd H a o) σ δ (G.set k m') ∧ Step ι (own σ δ ++ ι) H ι (own σ δ ++ ι) (upd H a o) := by
  obtain ⟨a', e1', rm⟩ := h.get_g e2
  rw [e1] at e1'; cases e1'
  obtain ⟨u, hu, mu⟩ := rm.mu
  have kp : Kp H (upd H a o) := ⟨fun b xs e => by rw [upd_ne (ne_of e hu (by rintro rfl; cases mu))]; exact e, fun b o' u' e => by rw [upd_ne (fun z => by subst z; exact rm.nf hf _ _ e)]; exact e⟩
  have mem : a ∈ ι := List.mem_of_getElem? e1
  have na : ∀ x, x ∈ own σ δ → x ≠ a := fun x hx z => by
    subst z
    have n := h.nd x
    have := cnt_pos.mp hx
    have := cnt_pos.mp mem
    lia
  have inj : ∀ j, ι[j]? = some a → j = k := fun j ej => by
    have n := h.nd a
    have c1 : cnt a ι ≤ 1 := by lia
    by_cases z : j = k
    · exact z
    · exfalso
      have : 2 ≤ cnt a ι := by
        have hj := (List.getElem?_eq_some_iff.mp ej)
        have hk := (List.getElem?_eq_some_iff.mp e1)
        obtain ⟨hj, vj⟩ := hj
        obtain ⟨hk, vk⟩ := hk
        have two : ∀ (l : List Addr) (i j : Nat) (hi : i < l.length) (hj : j < l.length), i < j → l[i] = a → l[j] = a → 2 ≤ List.count a l := by
          intro l i j hi hj hij e1 e2
          have e : l = l.take j ++ l.drop j := (List.take_append_drop j l).symm
          rw [e, List.count_append]
          have p1 : 0 < List.count a (l.take j) := List.count_pos_iff.mpr (by rw [List.mem_take_iff_getElem]; exact ⟨i, by lia, e1⟩)
          have p2 : 0 < List.count a (l.drop j) := List.count_pos_iff.mpr (by rw [List.mem_drop_iff_getElem]; exact ⟨0, by lia, by simpa using e2⟩)
          lia
        rcases Nat.lt_or_gt_of_ne z with z | z
        · exact two ι j k hj hk z vj vk
        · exact two ι k j hk hj z vk vj
      lia
  have objs : ∀ (as : List Addr) (Gs : List M) (b : Nat), (∀ j x, as[j]? = some x → x = a → b + j = k) → Paired (RpM K κ ι H) as Gs → (∀ j, b + j = k → j < as.length → as[j]? = some a) → Paired (RpM K κ ι (upd H a o)) as (if b ≤ k then Gs.set (k - b) m' else Gs) := by
    intro as Gs b hj p hk
    induction p generalizing b with
    | nil => by_cases z : b ≤ k <;> simp [z] <;> exact .nil
    | @cons x y l r hx hr ih =>
      have ih' := ih (b + 1) (fun j x e z => by have := hj (j + 1) x (by simpa using e) z; lia) (fun j e l => by have := hk (j + 1) (by lia) (by simp; lia); simpa using this)
      by_cases z : b = k
      · subst z
        have xa : x = a := by have := hk 0 rfl (by simp); simpa using this
        subst xa
        rw [if_neg (by lia)] at ih'
        rw [if_pos (Nat.le_refl _), Nat.sub_self]
        exact .cons (r rm kp) ih'
      · have xa : x ≠ a := fun e => z (by have := hj 0 x rfl e; lia)
        by_cases w : b ≤ k
        · rw [if_pos (by lia)] at ih'
          rw [if_pos w]
          obtain ⟨n, hn⟩ : ∃ n, k - b = n + 1 := ⟨k - b - 1, by lia⟩
          have hn' : k - (b + 1) = n := by lia
          rw [hn]; rw [hn'] at ih'
          exact .cons (hx.mono (Pre.refl _) kp (upd_ne xa)) ih'
        · rw [if_neg (by lia)] at ih'
          rw [if_neg w]
          exact .cons (hx.mono (Pre.refl _) kp (upd_ne xa)) ih'
  have p2 := objs ι G 0 (fun j x e z => by subst z; have := inj j e; lia) h.gs (fun j e _ => (show j = k by lia) ▸ e1)
  rw [if_pos (Nat.zero_le _), Nat.sub_zero] at p2
  refine ⟨⟨slots_mono (Pre.refl ι) kp (fun x hx => upd_ne (na x hx)) h.sl, p2, h.nd⟩, ⟨Pre.refl _, fun x hx => .inl hx, fun x u e n => ?_, fun x e => ?_, kp⟩⟩
  · rw [upd_ne (fun z => n (by rw [z]; exact List.mem_append_right _ mem))]; exact e
  · by_cases z : x = a
    · subst z; rw [upd_same] at e; cases e
    · rw [upd_ne z] at e; exact e
end
end B
namespace B
open PySem L2
inductive Ev where
  | v (x : Vl) | s (i : Nat)
noncomputable abbrev De := List (Option Vl)
noncomputable abbrev Mo (α : Type) := De → List M → Option (α × De × List M)
noncomputable def bd {α β : Type} (m : Mo α) (f : α → Mo β) : Mo β := fun δ G => match m δ G with
  | some (a, δ1, G1) => f a δ1 G1
  | none => none
noncomputable def rt {α : Type} (a : α) : Mo α := fun δ G => some (a, δ, G)
theorem bd_inv {α β : Type} {m : Mo α} {f : α → Mo β} {δ : De} {G : List M} {r : β × De × List M} (h : bd m f δ G = some r) : ∃ a δ1 G1, m δ G = some (a, δ1, G1) ∧ f a δ1 G1 = some r := by
  unfold bd at h
  split at h
  · exact ⟨_, _, _, by assumption, h⟩
  · cases h
theorem bd_of {α β : Type} {m : Mo α} {f : α → Mo β} {δ δ1 : De} {G G1 : List M} {a : α} (h : m δ G = some (a, δ1, G1)) : bd m f δ G = f a δ1 G1 := by
  unfold bd; rw [h]
noncomputable def tS : List Ev → List V → St
  | .v _ :: es, v :: vs => some v :: tS es vs
  | .s _ :: es, _ :: vs => tS es vs
  | _, _ => []
noncomputable def tD : List Ev → De
  | .v x :: es => some x :: tD es
  | .s _ :: es => tD es
  | [] => []
theorem tS_app : ∀ {es : List Ev} {vs : List V} (fs : List Ev) (ws : List V), es.length = vs.length → tS (es ++ fs) (vs ++ ws) = tS es vs ++ tS fs ws
  | [], [], _, _, _ => rfl
  | [], _ :: _, _, _, h => by cases h
  | _ :: _, [], _, _, h => by cases h
  | .v x :: es, v :: vs, fs, ws, h => by
    show some v :: tS (es ++ fs) (vs ++ ws) = some v :: (tS es vs ++ tS fs ws)
    rw [tS_app fs ws (by simpa using h)]
  | .s i :: es, v :: vs, fs, ws, h => by
    show tS (es ++ fs) (vs ++ ws) = tS es vs ++ tS fs ws
    rw [tS_app fs ws (by simpa using h)]
theorem tD_app : ∀ (es fs : List Ev), tD (es ++ fs) = tD es ++ tD fs
  | [], _ => rfl
  | .v x :: es, fs => by
    show some x :: tD (es ++ fs) = some x :: (tD es ++ tD fs)
    rw [tD_app]
  | .s i :: es, fs => by
    show tD (es ++ fs) = tD es ++ tD fs
    rw [tD_app]
structure Args (K : PySem.W.Frag) (κ : Str → Addr) (ι : List Addr) (H : Hp) (σ : St) (δ : De) (G : List M) (es : List Ev) (vs : List V) : Prop where
  l : σ.length = δ.length
  sr : SR K κ ι H (σ ++ tS es vs) (δ ++ tD es) G
  al : Paired (fun (e : Ev) (v : V) => ∀ i, e = .s i → σ[i]? = some (some v)) es vs
structure After (K : PySem.W.Frag) (κ : Str → Addr) (σ : St) (ι fp : List Addr) (H : Hp) (es : List Ev) (δ' : De) (G' : List M) (vs : List V) (ι' : List Addr) (H' : Hp) : Prop where
  ar : Args K κ ι' H' σ δ' G' es vs
  st : Step ι fp H ι' (own (σ ++ tS es vs) (δ' ++ tD es) ++ ι') H'
theorem af3 (h : some (x, δ, G) = some (e, δ', G')) (a : After K κ σ ι fp H [x] δ G vs ι' H') : After K κ σ ι fp H [e] δ' G' vs ι' H' := by cases h; exact a
noncomputable def UpE (K : PySem.W.Frag) (κ : Str → Addr) (f : Mo Ev) : TE := fun σ H Q => ∃ ι δ G e δ' G', SR K κ ι H σ δ G ∧ f δ G = some (e, δ', G') ∧ ∀ v ι' H', After K κ σ ι (own σ δ ++ ι) H [e] δ' G' [v] ι' H' → Q v H'
noncomputable def UpA (K : PySem.W.Frag) (κ : Str → Addr) (f : Mo (List Ev)) : TA := fun σ H Q => ∃ ι δ G es δ' G', SR K κ ι H σ δ G ∧ f δ G = some (es, δ', G') ∧ ∀ vs ι' H', After K κ σ ι (own σ δ ++ ι) H es δ' G' vs ι' H' → Q vs H'
section
variable {κ : Str → Addr} {H H1 H2 : Hp} {σ : St} {δ δ1 δ2 : De}  
theorem Args.base (h : Args K κ ι H σ δ G es vs) : SR K κ ι H σ δ G := h.sr.pop h.l
theorem len0  (h : n = vs.length) (e : n = 0 := by rfl) : vs = [] := by subst e; cases vs with | nil => rfl | cons _ _ => cases h
theorem len1  (h : n = vs.length) (e : n = 1 := by rfl) : ∃ a, vs = [a] := by
  subst e
  cases vs with
  | nil => cases h
  | cons a r => exact ⟨a, by rw [len0 (Nat.succ.inj h)]⟩
theorem len2  (h : n = vs.length) (e : n = 2 := by rfl) : ∃ a b, vs = [a, b] := by
  subst e
  cases vs with
  | nil => cases h
  | cons a r => obtain ⟨b, e⟩ := len1 (Nat.succ.inj h); exact ⟨a, b, by rw [e]⟩
theorem Args.len (h : Args K κ ι H σ δ G es vs) : es.length = vs.length := Paired.length h.al
theorem After.app (a : After K κ σ ι fp H es δ1 G1 vs ι1 H1) (b : After K κ σ ι1 (own σ δ1 ++ ι1) H1 fs δ2 G2 ws ι2 H2) : After K κ σ ι fp H (es ++ fs) δ2 G2 (vs ++ ws) ι2 H2 := by
  obtain ⟨s, t⟩ := SR.join a.ar.sr a.ar.l b.ar.sr b.ar.l b.st
  have e1 := tS_app fs ws a.ar.len
  have e2 := tD_app es fs
  refine ⟨⟨b.ar.l, by rw [e1, e2]; exact s, paired_app a.ar.al b.ar.al⟩, ?_⟩
  rw [e1, e2]
  exact a.st.trans t
theorem After.nil (h : SR K κ ι H σ δ G) : After K κ σ ι (own σ δ ++ ι) H [] δ G [] ι H := by
  refine ⟨⟨h.len, ?_, .nil⟩, ?_⟩
  · show SR K κ ι H (σ ++ []) (δ ++ []) G
    rw [List.append_nil, List.append_nil]; exact h
  · show Step ι _ H ι (own (σ ++ []) (δ ++ []) ++ ι) H
    rw [List.append_nil, List.append_nil]; exact Step.refl _ _ _
noncomputable def nilF : Mo (List Ev) := rt []
noncomputable def consF (fa : Mo Ev) (fr : Mo (List Ev)) : Mo (List Ev) := bd fa fun e => bd fr fun es => rt (e :: es)
theorem upA_nil (h : UpA K κ nilF σ H Q) : tNil σ H Q := by
  obtain ⟨ι, δ, G, es, δ', G', s, e, k⟩ := h
  cases e
  exact k _ _ _ (After.nil s)
theorem upA_cons  (h : UpA K κ (consF fa fr) σ H Q) : tCons (UpE K κ fa) (UpA K κ fr) σ H Q := by
  obtain ⟨ι, δ, G, es, δ', G', s, e, k⟩ := h
  obtain ⟨x, δ1, G1, e1, e⟩ := bd_inv e
  obtain ⟨xs, δ2, G2, e2, e⟩ := bd_inv e
  cases e
  refine ⟨ι, δ, G, x, δ1, G1, s, e1, fun v ι1 H1 a => ?_⟩
  refine ⟨ι1, δ1, G1, xs, _, _, a.ar.base, e2, fun vs ι2 H2 b => ?_⟩
  exact k _ _ _ (a.app b)
/-- a primitive: what it wants of its arguments, and what it does -/
noncomputable def Prim (K : PySem.W.Frag) (κ : Str → Addr) (r : List V → Hp → VK → Prop) (p : List Ev → Mo Ev) : Prop :=
  ∀ (ι : List Addr) (H : Hp) (σ : St) (δ : De) (G : List M) (es : List Ev) (vs : List V) (e : Ev) (δ' : De) (G' : List M) (Q : VK), Args K κ ι H σ δ G es vs → p es δ G = some (e, δ', G') →
    (∀ v ι' H', After K κ σ ι (own (σ ++ tS es vs) (δ ++ tD es) ++ ι) H [e] δ' G' [v] ι' H' → Q v H') → r vs H Q
theorem After.then  (a : After K κ σ ι fp H es δ1 G1 vs ι1 H1) (b : After K κ σ ι1 (own (σ ++ tS es vs) (δ1 ++ tD es) ++ ι1) H1 es' δ2 G2 vs' ι2 H2) : After K κ σ ι fp H es' δ2 G2 vs' ι2 H2 := ⟨b.ar, a.st.trans b.st⟩
theorem up_args   (hp : Prim K κ r p) (h : UpE K κ (bd fa p) σ H Q) : UpA K κ fa σ H fun vs H1 => r vs H1 Q := by
  obtain ⟨ι, δ, G, e, δ', G', s, eq, k⟩ := h
  obtain ⟨xs, δ1, G1, e1, e2⟩ := bd_inv eq
  refine ⟨ι, δ, G, xs, δ1, G1, s, e1, fun vs ι1 H1 a => ?_⟩
  exact hp _ _ _ _ _ _ _ _ _ _ _ a.ar e2 fun v ι2 H2 b => k _ _ _ (a.then b)
noncomputable def r2 (r : R2) : List V → Hp → VK → Prop := fun vs H Q => ∃ x y, vs = [x, y] ∧ r x y H Q
noncomputable def r1 (r : V → Hp → VK → Prop) : List V → Hp → VK → Prop := fun vs H Q => ∃ x, vs = [x] ∧ r x H Q
noncomputable def opF (p : List Ev → Mo Ev) (fa fb : Mo Ev) : Mo Ev := bd fa fun x => bd fb fun y => p [x, y]
noncomputable def unF (p : List Ev → Mo Ev) (fa : Mo Ev) : Mo Ev := bd fa fun x => p [x]
theorem up_op   (hp : Prim K κ (r2 r) p) (h : UpE K κ (opF p fa fb) σ H Q) : tOp r (UpE K κ fa) (UpE K κ fb) σ H Q := by
  obtain ⟨ι, δ, G, e, δ', G', s, eq, k⟩ := h
  obtain ⟨x, δ1, G1, e1, eq⟩ := bd_inv eq
  obtain ⟨y, δ2, G2, e2, eq⟩ := bd_inv eq
  refine ⟨ι, δ, G, x, δ1, G1, s, e1, fun v ι1 H1 a => ?_⟩
  refine ⟨ι1, δ1, G1, y, δ2, G2, a.ar.base, e2, fun w ι2 H2 b => ?_⟩
  have c := a.app b
  obtain ⟨x', y', e', q⟩ := hp _ _ _ _ _ _ _ _ _ _ Q c.ar eq fun v ι3 H3 d => k _ _ _ (c.then d)
  cases e'
  exact q
theorem up_un   (hp : Prim K κ (r1 r) p) (h : UpE K κ (unF p fa) σ H Q) : tUn r (UpE K κ fa) σ H Q := by
  obtain ⟨ι, δ, G, e, δ', G', s, eq, k⟩ := h
  obtain ⟨x, δ1, G1, e1, eq⟩ := bd_inv eq
  refine ⟨ι, δ, G, x, δ1, G1, s, e1, fun v ι1 H1 a => ?_⟩
  obtain ⟨x', e', q⟩ := hp _ _ _ _ _ _ _ _ _ _ Q a.ar eq fun v ι3 H3 d => k _ _ _ (a.then d)
  cases e'
  exact q
theorem tsd : ∀ {es : List Ev} {vs : List V} {j : Nat} {x : Vl} {v : V}, Paired (RpE K κ ι H) (tS es vs) (tD es) → es[j]? = some (.v x) → vs[j]? = some v → RpE K κ ι H (some v) (some x)
  | [], _, _, _, _, _, h, _ => by simp at h
  | _ :: _, [], _, _, _, _, _, h => by simp at h
  | .v y :: es, w :: vs, 0, x, v, p, h1, h2 => by
    simp at h1 h2
    subst h1; subst h2
    cases p with
    | cons q _ => exact q
  | .s i :: es, w :: vs, 0, x, v, p, h1, h2 => by simp at h1
  | .v y :: es, w :: vs, j + 1, x, v, p, h1, h2 => by
    cases p with
    | cons _ p => exact tsd p (by simpa using h1) (by simpa using h2)
  | .s i :: es, w :: vs, j + 1, x, v, p, h1, h2 => tsd (vs := vs) p (by simpa using h1) (by simpa using h2)
theorem Args.im {j : Nat} {d : I} {v : V} (a : Args K κ ι H σ δ G es vs) (h1 : es[j]? = some (.v (.im d))) (h2 : vs[j]? = some v) : RpI K ι H v d := by
  have := tsd (paired_split a.l a.sr.sl).2 h1 h2
  cases this with
  | im r => exact r
/-- what an argument is, where it is a thing that may change -/
noncomputable def pk (δ : De) (G : List M) : Ev → Option M
  | .v (.ow m) => some m
  | .v (.im (.ref k)) => G[k]?
  | .v (.im _) => none
  | .s i => match δ[i]? with
    | some (some (.ow m)) => some m
    | _ => none
theorem Args.pk {j : Nat} {e : Ev} {m : M} {v : V} (a : Args K κ ι H σ δ G es vs) (h1 : es[j]? = some e) (h2 : vs[j]? = some v) (h : B.pk δ G e = some m) : ∃ b, v = .ref b ∧ RpM K κ ι H b m := by
  cases e with
  | v x =>
    have q := tsd (paired_split a.l a.sr.sl).2 h1 h2
    cases x with
    | ow m' => cases h; cases q with
      | ow r => exact ⟨_, rfl, r⟩
    | im d =>
      cases q with
      | im r =>
        cases r with
        | ref e =>
          obtain ⟨b, e', r⟩ := a.base.get_g h
          rw [e] at e'; cases e'
          exact ⟨_, rfl, r⟩
        | _ => cases h
  | s i =>
    have h : (match δ[i]? with | some (some (.ow m)) => some m | _ => none) = some m := h
    obtain ⟨v', e1, al⟩ : ∃ v', vs[j]? = some v' ∧ σ[i]? = some (some v') := by
      have : ∀ {es : List Ev} {vs : List V} {j : Nat}, Paired (fun (e : Ev) (v : V) => ∀ i, e = .s i → σ[i]? = some (some v)) es vs → es[j]? = some (.s i) → ∃ v', vs[j]? = some v' ∧ σ[i]? = some (some v') := by
        intro es vs j p
        induction p generalizing j with
        | nil => intro h; simp at h
        | cons q _ ih =>
          intro h
          cases j with
          | zero => simp at h; exact ⟨_, rfl, q i h⟩
          | succ j => obtain ⟨v', e, z⟩ := ih (by simpa using h); exact ⟨v', by simpa using e, z⟩
      exact this a.al h1
    rw [h2] at e1; cases e1
    split at h
    · rename_i m' e
      cases h
      obtain ⟨b, e', r⟩ := a.base.get_ow e
      rw [al] at e'; cases e'
      exact ⟨_, rfl, r⟩
    · cases h
noncomputable def sq (δ : De) (G : List M) : Ev → Option (List I)
  | .v (.im (.tup xs)) => some xs
  | .v (.im (.fro xs)) => some xs
  | .v (.im (.con xs)) => some xs
  | e => match pk δ G e with
    | some (.lst xs) => some xs
    | _ => none
theorem Args.sq {j : Nat} {e : Ev} {xs : List I} {v : V} (a : Args K κ ι H σ δ G es vs) (h1 : es[j]? = some e) (h2 : vs[j]? = some v) (h : B.sq δ G e = some xs) : ∃ b ys, v = .ref b ∧ (SqL K H b ys ∨ SqT K H b ys) ∧ RpIs K ι H ys xs := by
  have fromPk : (match B.pk δ G e with | some (.lst xs) => some xs | _ => none) = some xs → ∃ b ys, v = .ref b ∧ (SqL K H b ys ∨ SqT K H b ys) ∧ RpIs K ι H ys xs := fun q => by
    split at q
    · rename_i xs' e'
      cases q
      obtain ⟨b, e1, ys, h3, r⟩ := a.pk h1 h2 e'
      exact ⟨b, ys, e1, .inl (SqL.of h3), r⟩
    · cases q
  cases e with
  | s i => exact fromPk h
  | v x =>
    cases x with
    | ow m => exact fromPk h
    | im d =>
      have r := a.im h1 h2
      cases r with
      | tup q r => cases h; exact ⟨_, _, rfl, .inr (SqT.of q), r⟩
      | con q r => cases h; exact ⟨_, _, rfl, .inr (SqT.kon q), r⟩
      | fro q r => cases h; exact ⟨_, _, rfl, .inl q.sq, r⟩
      | ref q => exact fromPk h
      | non => exact fromPk h
      | bl => exact fromPk h
      | int => exact fromPk h
      | str => exact fromPk h
      | ty => exact fromPk h
theorem fin_im  (a : Args K κ ι H σ δ G es vs) (r : RpI K ι H v d) : After K κ σ ι (own (σ ++ tS es vs) (δ ++ tD es) ++ ι) H [.v (.im d)] δ G [v] ι H := by
  refine ⟨⟨a.l, a.base.push_im r, .cons (fun _ h => by cases h) .nil⟩, (Step.refl _ _ _).sub fun x h => ?_⟩
  have h : x ∈ own (σ ++ [some v]) (δ ++ [some (.im d)]) ++ ι := h
  rw [own_im a.l] at h
  exact own_sub a.l h
theorem fin_same  (a : Args K κ ι H σ δ G es vs) (s : Same H H') (r : RpI K ι H' v d) : After K κ σ ι (own (σ ++ tS es vs) (δ ++ tD es) ++ ι) H [.v (.im d)] δ G [v] ι H' := by
  refine ⟨⟨a.l, (a.base.same s).push_im r, .cons (fun _ h => by cases h) .nil⟩, (Step.same s).sub fun x h => ?_⟩
  have h : x ∈ own (σ ++ [some v]) (δ ++ [some (.im d)]) ++ ι := h
  rw [own_im a.l] at h
  exact own_sub a.l h
theorem fin_tup  (a : Args K κ ι H σ δ G es vs) (hp : H p = none) (r : RpIs K ι H ys xs) : After K κ σ ι (own (σ ++ tS es vs) (δ ++ tD es) ++ ι) H [.v (.im (.tup xs))] δ G [.ref p] ι (upd H p (.tup ys)) :=
  fin_same a (Same.lay hp) (.tup upd_same (r.mono (Pre.refl _) (Kp.same (Same.lay hp))))
theorem fin_ow  (a : Args K κ ι H σ δ G es vs) (hp : H p = none) (r : RpM K κ ι (upd H p o) p m) : After K κ σ ι (own (σ ++ tS es vs) (δ ++ tD es) ++ ι) H [.v (.ow m)] δ G [.ref p] ι (upd H p o) :=
  ⟨⟨a.l, a.base.push_ow hp r, .cons (fun _ h => by cases h) .nil⟩, (Step.lay_ow a.l hp).wide fun x h => own_sub a.l h⟩
theorem fin_lst  (a : Args K κ ι H σ δ G es vs) (hp : H p = none) (r : RpIs K ι H ys xs) : After K κ σ ι (own (σ ++ tS es vs) (δ ++ tD es) ++ ι) H [.v (.ow (.lst xs))] δ G [.ref p] ι (upd H p (.lst ys)) :=
  fin_ow a hp ⟨ys, upd_same, r.mono (Pre.refl _) (Kp.same (Same.lay hp))⟩
/-- the thing that an argument is, changed -/
noncomputable def pkS (δ : De) (G : List M) (m' : M) : Ev → De × List M
  | .v (.im (.ref k)) => (δ, G.set k m')
  | .v _ => (δ, G)
  | .s i => (δ.set i (some (.ow m')), G)
theorem tmp_at : ∀ {es : List Ev} {vs : List V} {j : Nat} {x : Vl} {v : V}, es[j]? = some (.v x) → vs[j]? = some v → es.length = vs.length → ∃ n : Nat, (tS es vs)[n]? = some (some v) ∧ (tD es)[n]? = some (some x)
  | [], _, _, _, _, h, _, _ => by simp at h
  | _ :: _, [], _, _, _, _, h, _ => by simp at h
  | .v y :: es, w :: vs, 0, x, v, h1, h2, _ => by
    simp at h1 h2
    subst h1; subst h2
    exact ⟨0, rfl, rfl⟩
  | .s i :: es, w :: vs, 0, x, v, h1, h2, _ => by simp at h1
  | .v y :: es, w :: vs, j + 1, x, v, h1, h2, l => by
    obtain ⟨n, p, q⟩ := tmp_at (by simpa using h1) (by simpa using h2) (by simpa using l)
    exact ⟨n + 1, by simpa [tS] using p, by simpa [tD] using q⟩
  | .s i :: es, w :: vs, j + 1, x, v, h1, h2, l => by
    obtain ⟨n, p, q⟩ := tmp_at (by simpa using h1) (by simpa using h2) (by simpa using l)
    exact ⟨n, p, q⟩
theorem al_at {i : Nat} : ∀ {es : List Ev} {vs : List V} {j : Nat} {v : V}, Paired (fun (e : Ev) (v : V) => ∀ i, e = .s i → σ[i]? = some (some v)) es vs → es[j]? = some (.s i) → vs[j]? = some v → σ[i]? = some (some v) := by
  intro es vs j v p
  induction p generalizing j with
  | nil => intro h; simp at h
  | cons q _ ih =>
    intro h h2
    cases j with
    | zero => simp at h h2; subst h2; exact q i h
    | succ j => exact ih (by simpa using h) (by simpa using h2)
theorem fin_mut {j : Nat} {e : Ev} {m m' : M} {b : Addr} {o : HO} {v : V} {d : I} (a : Args K κ ι H σ δ G es vs) (h1 : es[j]? = some e) (h2 : vs[j]? = some (.ref b)) (h : pk δ G e = some m)
    (r : RpM K κ ι H b m → Kp H (upd H b o) → RpM K κ ι (upd H b o) b m') (rv : RpI K ι H v d) (hf : isF m = false := by rfl) :
    After K κ σ ι (own (σ ++ tS es vs) (δ ++ tD es) ++ ι) H [.v (.im d)] (pkS δ G m' e).1 (pkS δ G m' e).2 [v] ι (upd H b o) := by
  have fin : ∀ {δ' : De} {G' : List M}, SR K κ ι (upd H b o) σ δ' G' → Step ι (own (σ ++ tS es vs) (δ ++ tD es) ++ ι) H ι (own σ δ' ++ ι) (upd H b o) → After K κ σ ι (own (σ ++ tS es vs) (δ ++ tD es) ++ ι) H [.v (.im d)] δ' G' [v] ι (upd H b o) := fun s st => by
    refine ⟨⟨s.len, s.push_im (rv.mono (Pre.refl _) st.kp), .cons (fun _ h => by cases h) .nil⟩, st.sub fun x h => ?_⟩
    have h : x ∈ own (σ ++ [some v]) (_ ++ [some (.im d)]) ++ ι := h
    rw [own_im s.len] at h
    exact h
  cases e with
  | s i =>
    have al := al_at a.al h1 h2
    have h : (match δ[i]? with | some (some (.ow m)) => some m | _ => none) = some m := h
    split at h
    · rename_i m0 e
      cases h
      obtain ⟨p, q⟩ := a.base.poke al e r hf
      exact fin p (q.wide fun x h => own_sub a.l h)
    · cases h
  | v x =>
    cases x with
    | im d =>
      cases d with
      | ref k =>
        have rr := a.im h1 h2
        cases rr with
        | ref e =>
          obtain ⟨p, q⟩ := a.base.pokeG e h r hf
          exact fin p (q.wide fun x h => own_sub a.l h)
      | _ => cases h
    | ow m0 =>
      cases h
      obtain ⟨n, p1, p2⟩ := tmp_at h1 h2 a.len
      have e1 : (σ ++ tS es vs)[σ.length + n]? = some (some (.ref b)) := by rw [List.getElem?_append_right (by lia)]; simpa using p1
      have e2 : (δ ++ tD es)[σ.length + n]? = some (some (.ow m)) := by rw [a.l, List.getElem?_append_right (by lia)]; simpa using p2
      obtain ⟨p, q⟩ := a.sr.poke e1 e2 r hf
      have e3 : (δ ++ tD es).set (σ.length + n) (some (.ow m')) = δ ++ (tD es).set n (some (.ow m')) := by rw [a.l, List.set_append_right _ _ (by lia)]; simp
      rw [e3] at p q
      exact fin (p.pop a.l) (q.sub fun x h => own_sub a.l h)
end
end B
namespace B
open PySem L2
section
noncomputable def varF (i : Nat) : Mo Ev := fun δ G => match δ[i]? with
  | some (some (.im d)) => some (.v (.im d), δ, G)
  | some (some (.ow _)) => some (.s i, δ, G)
  | _ => none
theorem up_var  (h : UpE K κ (varF i) σ H Q) : tVar i σ H Q := by
  obtain ⟨ι, δ, G, e, δ', G', s, eq, k⟩ := h
  unfold varF at eq
  split at eq
  · rename_i d hd
    cases eq
    obtain ⟨v, e1, r⟩ := s.get_im hd
    refine ⟨v, e1, k v ι H ⟨⟨s.len, s.push_im r, .cons (fun _ h => by cases h) .nil⟩, (Step.refl _ _ _).sub fun x h => ?_⟩⟩
    have h : x ∈ own (σ ++ [some v]) (δ ++ [some (.im d)]) ++ ι := h
    rw [own_im s.len] at h
    exact h
  · rename_i m hd
    cases eq
    obtain ⟨a, e1, r⟩ := s.get_ow hd
    have n := After.nil s
    exact ⟨_, e1, k _ ι H ⟨⟨s.len, n.ar.sr, .cons (fun j h => by cases h; exact e1) .nil⟩, n.st⟩⟩
  · cases eq
noncomputable def conF (d : I) : Mo Ev := rt (.v (.im d))
theorem up_con  (r : ∀ ι H, RpI K ι H v d) (h : UpE K κ (conF d) σ H Q) : tC v σ H Q := by
  obtain ⟨ι, δ, G, e, δ', G', s, eq, k⟩ := h
  cases eq
  have a := fin_im (After.nil s).ar (r ι H)
  exact k _ _ _ ⟨a.ar, (After.nil s).st.trans a.st⟩
noncomputable def bxE : Ev → Mo Ev
  | .v (.im d) => rt (.v (.im d))
  | .v (.ow m) => fun δ G => some (.v (.im (.ref G.length)), δ, G ++ [m])
  | .s i => fun δ G => match δ[i]? with
    | some (some (.ow m)) => some (.v (.im (.ref G.length)), δ.set i (some (.im (.ref G.length))), G ++ [m])
    | _ => none
noncomputable def mvE : Ev → Mo Ev
  | .v x => rt (.v x)
  | .s i => fun δ G => match δ[i]? with
    | some (some (.ow m)) => some (.v (.ow m), δ.set i none, G)
    | _ => none
noncomputable def boxF (f : Mo Ev) : Mo Ev := bd f bxE
noncomputable def movF (f : Mo Ev) : Mo Ev := bd f mvE
theorem after_mv   (a : After K κ σ ι fp H [e] δ1 G1 [v] ι1 H1) (h : mvE e δ1 G1 = some (e', δ', G')) : After K κ σ ι fp H [e'] δ' G' [v] ι1 H1 ∧ ∃ x, e' = .v x := by
  cases e with
  | v x => cases h; exact ⟨a, _, rfl⟩
  | s i =>
    unfold mvE at h
    dsimp only at h
    split at h
    · rename_i m hm
      cases h
      have al := al_at (j := 0) a.ar.al rfl rfl
      obtain ⟨b, e1, r⟩ := a.ar.base.get_ow hm
      rw [al] at e1; cases e1
      obtain ⟨p, q⟩ := a.ar.base.take al hm
      refine ⟨⟨⟨by rw [List.length_set]; exact a.ar.l, p, .cons (fun _ h => by cases h) .nil⟩, ?_⟩, _, rfl⟩
      have st := a.st
      have e0 : own (σ ++ tS [.s i] [.ref b]) (δ1 ++ tD [.s i]) = own σ δ1 := by
        show own (σ ++ []) (δ1 ++ []) = _
        rw [List.append_nil, List.append_nil]
      rw [e0] at st
      exact st.trans q
    · cases h
theorem after_bx   (a : After K κ σ ι fp H [e] δ1 G1 [v] ι1 H1) (h : bxE e δ1 G1 = some (e', δ', G')) : ∃ ι2, After K κ σ ι fp H [e'] δ' G' [v] ι2 H1 := by
  have go : ∀ {δ3 : De} {b : Addr} {m : M}, σ.length = δ3.length → After K κ σ ι fp H [.v (.ow m)] δ3 G1 [.ref b] ι1 H1 → After K κ σ ι fp H [.v (.im (.ref G1.length))] δ3 (G1 ++ [m]) [.ref b] (ι1 ++ [b]) H1 := fun {δ3 b m} l a => by
    obtain ⟨p, r, q⟩ := SR.box a.ar.sr l
    refine ⟨⟨l, p.push_im r, .cons (fun _ h => by cases h) .nil⟩, a.st.trans (q.sub fun x h => ?_)⟩
    have h : x ∈ own (σ ++ [some (.ref b)]) (δ3 ++ [some (.im (.ref G1.length))]) ++ (ι1 ++ [b]) := h
    rw [own_im l] at h
    exact h
  cases e with
  | v x =>
    cases x with
    | im d => cases h; exact ⟨_, a⟩
    | ow m =>
      cases h
      have r := tsd (paired_split a.ar.l a.ar.sr.sl).2 (j := 0) rfl rfl
      cases r
      exact ⟨_, go a.ar.l a⟩
  | s i =>
    unfold bxE at h
    dsimp only at h
    split at h
    · rename_i m hm
      cases h
      have al := al_at (j := 0) a.ar.al rfl rfl
      have hm' : mvE (.s i) δ1 G1 = some (.v (.ow m), δ1.set i none, G1) := by unfold mvE; dsimp only; rw [hm]
      obtain ⟨a', _⟩ := after_mv a hm'
      obtain ⟨b, e1, r⟩ := a.ar.base.get_ow hm
      rw [al] at e1; cases e1
      have c := go (by rw [List.length_set]; exact a.ar.l) a'
      -- the slot becomes the thing's number
      have hr : RpI K (ι1 ++ [b]) H1 (.ref b) (.ref G1.length) := c.ar.im (j := 0) rfl rfl
      have s0 := c.ar.base
      have l : σ.length = (δ1.set i (some (.im (.ref G1.length)))).length := by rw [List.length_set]; exact a.ar.l
      have eo : ∀ x, cnt x (own σ (δ1.set i (some (.im (.ref G1.length))))) = cnt x (own σ (δ1.set i none)) := fun x => by
        have h1 := cnt_own_setD (y := some (.im (.ref G1.length))) x al hm
        have h2 := cnt_own_setD (y := none) x al hm
        rw [own1_im] at h1; rw [own1_no] at h2
        lia
      have sr : SR K κ (ι1 ++ [b]) H1 σ (δ1.set i (some (.im (.ref G1.length)))) (G1 ++ [m]) := by
        refine ⟨?_, s0.gs, fun x => by rw [eo]; exact s0.nd x⟩
        have := paired_setR s0.sl al (.im hr)
        rw [List.set_set] at this
        exact this
      refine ⟨_, ⟨l, sr.push_im hr, .cons (fun _ h => by cases h) .nil⟩, c.st.sub fun x h => ?_⟩
      have h : x ∈ own (σ ++ [some (.ref b)]) (δ1.set i (some (.im (.ref G1.length))) ++ [some (.im (.ref G1.length))]) ++ (ι1 ++ [b]) := h
      rw [own_im l] at h
      show x ∈ own (σ ++ [some (.ref b)]) (δ1.set i none ++ [some (.im (.ref G1.length))]) ++ (ι1 ++ [b])
      rw [own_im (by rw [List.length_set]; exact a.ar.l)]
      simp only [List.mem_append] at h ⊢
      rcases h with h | h
      · left; rw [cnt_pos] at h ⊢; rw [← eo]; exact h
      · exact .inr h
    · cases h
theorem up_box  (h : UpE K κ (boxF f) σ H Q) : UpE K κ f σ H Q := by
  obtain ⟨ι, δ, G, e, δ', G', s, eq, k⟩ := h
  obtain ⟨x, δ1, G1, e1, eq⟩ := bd_inv eq
  refine ⟨ι, δ, G, x, δ1, G1, s, e1, fun v ι1 H1 a => ?_⟩
  obtain ⟨ι2, b⟩ := after_bx a eq
  exact k _ _ _ b
theorem up_mov  (h : UpE K κ (movF f) σ H Q) : UpE K κ f σ H Q := by
  obtain ⟨ι, δ, G, e, δ', G', s, eq, k⟩ := h
  obtain ⟨x, δ1, G1, e1, eq⟩ := bd_inv eq
  refine ⟨ι, δ, G, x, δ1, G1, s, e1, fun v ι1 H1 a => ?_⟩
  obtain ⟨b, _⟩ := after_mv a eq
  exact k _ _ _ b
noncomputable def imE : Ev → Option I
  | .v (.im d) => some d
  | _ => none
noncomputable def imA : List Ev → Option (List I)
  | [] => some []
  | e :: es => match imE e, imA es with
    | some d, some ds => some (d :: ds)
    | _, _ => none
theorem args_im : ∀ {es : List Ev} {vs : List V} {ds : List I}, Paired (RpE K κ ι H) (tS es vs) (tD es) → es.length = vs.length → imA es = some ds → RpIs K ι H vs ds
  | [], [], _, _, _, h => by cases h; exact .nil
  | [], _ :: _, _, _, l, _ => by cases l
  | _ :: _, [], _, _, l, _ => by cases l
  | e :: es, v :: vs, ds, p, l, h => by
    unfold imA at h
    split at h
    · rename_i d ds' h1 h2
      cases h
      cases e with
      | s i => cases h1
      | v x =>
        cases x with
        | ow m => cases h1
        | im d' =>
          cases h1
          cases p with
          | cons q p =>
            cases q with
            | im r => exact .cons r (args_im p (by simpa using l) h2)
    · cases h
theorem Args.ims (a : Args K κ ι H σ δ G es vs) (h : imA es = some ds) : RpIs K ι H vs ds := args_im (paired_split a.l a.sr.sl).2 a.len h
noncomputable def tupP : List Ev → Mo Ev := fun es δ G => match imA es with
  | some ds => if ds.length ≤ 1000 then some (.v (.im (.tup ds)), δ, G) else none
  | none => none
noncomputable def lstP : List Ev → Mo Ev := fun es δ G => match imA es with
  | some ds => if ds.length ≤ 1000 then some (.v (.ow (.lst ds)), δ, G) else none
  | none => none
theorem sl1000 : 1000 ≤ sizeLine := by decide
theorem prim_tup : Prim K κ (fun vs H Q => vs.length ≤ sizeLine ∧ ∀ p, H p = none → Q (.ref p) (upd H p (.tup vs))) tupP := by
  intro ι H σ δ G es vs e δ' G' Q a h k
  unfold tupP at h
  split at h
  · rename_i ds hd
    split at h
    · have r := a.ims hd
      exact ⟨by rw [r.len]; exact Nat.le_trans (by assumption) sl1000, fun p hp => k _ _ _ (af3 h (fin_tup a hp r))⟩
    · cases h
  · cases h
theorem prim_lst : Prim K κ (fun vs H Q => vs.length ≤ sizeLine ∧ ∀ p, H p = none → Q (.ref p) (upd H p (.lst vs))) lstP := by
  intro ι H σ δ G es vs e δ' G' Q a h k
  unfold lstP at h
  split at h
  · rename_i ds hd
    split at h
    · have r := a.ims hd
      exact ⟨by rw [r.len]; exact Nat.le_trans (by assumption) sl1000, fun p hp => k _ _ _ (af3 h (fin_lst a hp r))⟩
    · cases h
  · cases h
noncomputable def UpT (K : PySem.W.Frag) (κ : Str → Addr) (f : Mo Bool) : TT := fun σ H Q => ∃ ι δ G b δ' G', SR K κ ι H σ δ G ∧ f δ G = some (b, δ', G') ∧ ∀ ι' H', SR K κ ι' H' σ δ' G' → Step ι (own σ δ ++ ι) H ι' (own σ δ' ++ ι') H' → Q b H'
noncomputable def blE : Ev → Mo Bool
  | .v (.im (.bl b)) => rt b
  | _ => fun _ _ => none
noncomputable def tstF (f : Mo Ev) : Mo Bool := bd f blE
theorem After.drop  (a : After K κ σ ι fp H [e] δ1 G1 [v] ι1 H1) : SR K κ ι1 H1 σ δ1 G1 ∧ Step ι fp H ι1 (own σ δ1 ++ ι1) H1 := ⟨a.ar.base, a.st.sub fun x h => own_sub a.ar.l h⟩
theorem up_test  (h : UpT K κ (tstF f) σ H Q) : tTest (UpE K κ f) σ H Q := by
  obtain ⟨ι, δ, G, b, δ', G', s, eq, k⟩ := h
  obtain ⟨x, δ1, G1, e1, eq⟩ := bd_inv eq
  refine ⟨ι, δ, G, x, δ1, G1, s, e1, fun v ι1 H1 a => ?_⟩
  unfold blE at eq
  split at eq
  · rename_i b'
    cases eq
    have r := a.ar.im (j := 0) rfl rfl
    cases rpBl (r)
    obtain ⟨p, q⟩ := a.drop
    exact ⟨_, rfl, k _ _ p q⟩
  · cases eq
noncomputable def andF (c d : Mo Bool) : Mo Bool := bd c fun b => if b then d else rt false
noncomputable def orF (c d : Mo Bool) : Mo Bool := bd c fun b => if b then rt true else d
noncomputable def notF (c : Mo Bool) : Mo Bool := bd c fun b => rt (!b)
theorem UpT.go {Q Q' : Bool → Hp → Prop}  (s : SR K κ ι1 H1 σ δ1 G1) (st : Step ι fp H ι1 (own σ δ1 ++ ι1) H1) (e : f δ1 G1 = some (b, δ2, G2))
    (k : ∀ ι' H', SR K κ ι' H' σ δ2 G2 → Step ι fp H ι' (own σ δ2 ++ ι') H' → Q b H') : UpT K κ f σ H1 Q := ⟨ι1, δ1, G1, b, δ2, G2, s, e, fun ι' H' s' st' => k ι' H' s' (st.trans st')⟩
theorem up_and  (h : UpT K κ (andF c d) σ H Q) : tAnd (UpT K κ c) (UpT K κ d) σ H Q := by
  obtain ⟨ι, δ, G, b, δ', G', s, eq, k⟩ := h
  obtain ⟨x, δ1, G1, e1, eq⟩ := bd_inv eq
  refine ⟨ι, δ, G, x, δ1, G1, s, e1, fun ι1 H1 s1 st => ?_⟩
  cases x with
  | true => rw [if_pos rfl] at eq ⊢; exact UpT.go (Q' := Q) s1 st eq k
  | false => rw [if_neg Bool.false_ne_true] at eq ⊢; cases eq; exact k _ _ s1 st
theorem up_or  (h : UpT K κ (orF c d) σ H Q) : tOr (UpT K κ c) (UpT K κ d) σ H Q := by
  obtain ⟨ι, δ, G, b, δ', G', s, eq, k⟩ := h
  obtain ⟨x, δ1, G1, e1, eq⟩ := bd_inv eq
  refine ⟨ι, δ, G, x, δ1, G1, s, e1, fun ι1 H1 s1 st => ?_⟩
  cases x with
  | true => rw [if_pos rfl] at eq ⊢; cases eq; exact k _ _ s1 st
  | false => rw [if_neg Bool.false_ne_true] at eq ⊢; exact UpT.go (Q' := Q) s1 st eq k
theorem up_not  (h : UpT K κ (notF c) σ H Q) : tNot (UpT K κ c) σ H Q := by
  obtain ⟨ι, δ, G, b, δ', G', s, eq, k⟩ := h
  obtain ⟨x, δ1, G1, e1, eq⟩ := bd_inv eq
  cases eq
  exact ⟨ι, δ, G, x, _, _, s, e1, fun ι1 H1 s1 st => k _ _ s1 st⟩
noncomputable def ifE (c : Mo Bool) (fa fb : Mo Ev) : Mo Ev := bd c fun b => if b then fa else fb
theorem UpE.go   (s : SR K κ ι1 H1 σ δ1 G1) (st : Step ι fp H ι1 (own σ δ1 ++ ι1) H1) (eq : f δ1 G1 = some (e, δ2, G2))
    (k : ∀ v ι' H', After K κ σ ι fp H [e] δ2 G2 [v] ι' H' → Q v H') : UpE K κ f σ H1 Q := ⟨ι1, δ1, G1, e, δ2, G2, s, eq, fun v ι' H' a => k v ι' H' ⟨a.ar, st.trans a.st⟩⟩
inductive Fl where
  | nx (δ : De) (G : List M) | rt (x : Vl) (G : List M) | bk (δ : De) (G : List M) | ct (δ : De) (G : List M)
noncomputable abbrev SF := De → List M → Option Fl
noncomputable def EndOk (K : PySem.W.Frag) (κ : Str → Addr) (ι fp : List Addr) (H : Hp) (D : Ends) : Fl → Prop
  | .nx δ' G' => ∀ σ' ι' H', SR K κ ι' H' σ' δ' G' → Step ι fp H ι' (own σ' δ' ++ ι') H' → D.nx σ' H'
  | .bk δ' G' => ∀ σ' ι' H', SR K κ ι' H' σ' δ' G' → Step ι fp H ι' (own σ' δ' ++ ι') H' → D.bk σ' H'
  | .ct δ' G' => ∀ σ' ι' H', SR K κ ι' H' σ' δ' G' → Step ι fp H ι' (own σ' δ' ++ ι') H' → D.ct σ' H'
  | .rt x G' => ∀ v ι' H', SR K κ ι' H' [some v] [some x] G' → Step ι fp H ι' (own [some v] [some x] ++ ι') H' → D.rt v H'
noncomputable def UpS (K : PySem.W.Frag) (κ : Str → Addr) (f : SF) : TS := fun D σ H => ∃ ι δ G fl, SR K κ ι H σ δ G ∧ f δ G = some fl ∧ EndOk K κ ι (own σ δ ++ ι) H D fl
theorem EndOk.step  (st : Step ι fp H ι1 fq H1) (h : EndOk K κ ι fp H D fl) : EndOk K κ ι1 fq H1 D fl := by
  cases fl with
  | nx δ' G' => exact fun σ' ι' H' s t => h σ' ι' H' s (st.trans t)
  | bk δ' G' => exact fun σ' ι' H' s t => h σ' ι' H' s (st.trans t)
  | ct δ' G' => exact fun σ' ι' H' s t => h σ' ι' H' s (st.trans t)
  | rt x G' => exact fun v ι' H' s t => h v ι' H' s (st.trans t)
theorem UpS.of  (s : SR K κ ι1 H1 σ δ1 G1) (st : Step ι fp H ι1 (own σ δ1 ++ ι1) H1) (eq : f δ1 G1 = some fl) (k : EndOk K κ ι fp H D fl) : UpS K κ f D σ H1 := ⟨ι1, δ1, G1, fl, s, eq, k.step st⟩
noncomputable def skipF : SF := fun δ G => some (.nx δ G)
noncomputable def seqF (a b : SF) : SF := fun δ G => match a δ G with
  | some (.nx δ1 G1) => b δ1 G1
  | r => r
theorem up_skip (h : UpS K κ skipF D σ H) : tNext D σ H := by
  obtain ⟨ι, δ, G, fl, s, eq, k⟩ := h
  cases eq
  exact k _ _ _ s (Step.refl _ _ _)
theorem up_seq  (h : UpS K κ (seqF a b) D σ H) : tSeq (UpS K κ a) (UpS K κ b) D σ H := by
  obtain ⟨ι, δ, G, fl, s, eq, k⟩ := h
  unfold seqF at eq
  split at eq
  · rename_i δ1 G1 e1
    exact ⟨ι, δ, G, _, s, e1, fun σ' ι' H' s' t => UpS.of s' t eq k⟩
  · rename_i r hn
    cases fl with
    | nx δ' G' => exact absurd eq (hn δ' G')
    | bk δ' G' => exact ⟨ι, δ, G, _, s, eq, k⟩
    | ct δ' G' => exact ⟨ι, δ, G, _, s, eq, k⟩
    | rt x G' => exact ⟨ι, δ, G, _, s, eq, k⟩
noncomputable def iteF' (c : Mo Bool) (a b : SF) : SF := fun δ G => match c δ G with
  | some (true, δ1, G1) => a δ1 G1
  | some (false, δ1, G1) => b δ1 G1
  | none => none
theorem up_if  (h : UpS K κ (iteF' c a b) D σ H) : tIfS (UpT K κ c) (UpS K κ a) (UpS K κ b) D σ H := by
  obtain ⟨ι, δ, G, fl, s, eq, k⟩ := h
  unfold iteF' at eq
  split at eq
  · rename_i δ1 G1 e1
    exact ⟨ι, δ, G, true, δ1, G1, s, e1, fun ι' H' s' t => by dsimp only; rw [if_pos rfl]; exact UpS.of s' t eq k⟩
  · rename_i δ1 G1 e1
    exact ⟨ι, δ, G, false, δ1, G1, s, e1, fun ι' H' s' t => by dsimp only; rw [if_neg Bool.false_ne_true]; exact UpS.of s' t eq k⟩
  · cases eq
noncomputable def dropF (f : Mo Ev) : SF := fun δ G => match f δ G with
  | some (_, δ1, G1) => some (.nx δ1 G1)
  | none => none
theorem up_drop  (h : UpS K κ (dropF f) D σ H) : tDrop (UpE K κ f) D σ H := by
  obtain ⟨ι, δ, G, fl, s, eq, k⟩ := h
  unfold dropF at eq
  split at eq
  · rename_i e δ1 G1 e1
    cases eq
    refine ⟨ι, δ, G, e, δ1, G1, s, e1, fun v ι' H' a => ?_⟩
    obtain ⟨p, q⟩ := a.drop
    exact k _ _ _ p q
  · cases eq
/-- the last temporary alone -/
theorem SR.last  (h : SR K κ ι H (σ ++ [some v]) (δ ++ [some x]) G) (l : σ.length = δ.length) : SR K κ ι H [some v] [some x] G ∧ ∀ a, a ∈ own [some v] [some x] ++ ι → a ∈ own (σ ++ [some v]) (δ ++ [some x]) ++ ι := by
  obtain ⟨p, q⟩ := paired_split l h.sl
  refine ⟨⟨q, h.gs, fun a => ?_⟩, fun a ha => ?_⟩
  · have := h.nd a
    rw [own_app _ _ l] at this
    simp only [cnt, List.count_append] at this ⊢
    lia
  · rw [own_app _ _ l]
    simp only [List.mem_append] at ha ⊢
    rcases ha with ha | ha
    · exact .inl (.inr ha)
    · exact .inr ha
noncomputable def retF (f : Mo Ev) : SF := fun δ G => match movF f δ G with
  | some (.v x, _, G1) => some (.rt x G1)
  | _ => none
theorem up_ret  (h : UpS K κ (retF f) D σ H) : tRet (UpE K κ f) D σ H := by
  obtain ⟨ι, δ, G, fl, s, eq, k⟩ := h
  unfold retF at eq
  split at eq
  · rename_i x δ1 G1 e1
    cases eq
    refine up_mov ⟨ι, δ, G, _, δ1, G1, s, e1, fun v ι' H' a => ?_⟩
    obtain ⟨p, q⟩ := SR.last a.ar.sr a.ar.l
    exact k _ _ _ p (a.st.sub q)
  · cases eq
noncomputable def retN : SF := fun _ G => some (.rt (.im .non) G)
/-- a value goes into names -/
noncomputable abbrev GF := Vl → De → List M → Option (De × List M)
noncomputable def UpG (K : PySem.W.Frag) (κ : Str → Addr) (g : GF) : TG := fun v σ H Q => ∃ ι δ G x δ' G', σ.length = δ.length ∧ SR K κ ι H (σ ++ [some v]) (δ ++ [some x]) G ∧ g x δ G = some (δ', G') ∧
  ∀ σ' ι' H', SR K κ ι' H' σ' δ' G' → Step ι (own (σ ++ [some v]) (δ ++ [some x]) ++ ι) H ι' (own σ' δ' ++ ι') H' → Q σ' H'
noncomputable def gNm (i : Nat) : GF := fun x δ G => some (δ.set i (some x), G)
theorem up_gnm  (h : UpG K κ (gNm i) v σ H Q) : gName i v σ H Q := by
  obtain ⟨ι, δ, G, x, δ', G', l, s, eq, k⟩ := h
  cases eq
  exact k _ _ _ (s.store l) ((Step.refl _ _ _).sub fun a ha => own_store l ha)
/-- names, in a row -/
noncomputable def gRow (is : List Nat) : TGs := is.foldr (fun i t => gCons (gName i) t) gNil
noncomputable def asgF (f : Mo Ev) (g : GF) : SF := fun δ G => match movF f δ G with
  | some (.v x, δ1, G1) => match g x δ1 G1 with
    | some (δ2, G2) => some (.nx δ2 G2)
    | none => none
  | _ => none
theorem up_asg  (h : UpS K κ (asgF f g) D σ H) : tAsg (UpE K κ f) (UpG K κ g) D σ H := by
  obtain ⟨ι, δ, G, fl, s, eq, k⟩ := h
  unfold asgF at eq
  split at eq
  · rename_i x δ1 G1 e1
    split at eq
    · rename_i δ2 G2 e2
      cases eq
      refine up_mov ⟨ι, δ, G, _, δ1, G1, s, e1, fun v ι' H' a => ?_⟩
      exact ⟨ι', δ1, G1, x, δ2, G2, a.ar.l, a.ar.sr, e2, fun σ' ι2 H2 s2 st => k _ _ _ s2 (a.st.trans st)⟩
    · cases eq
  · cases eq
end
end B
namespace B
open PySem L2
section
/-- at most n turns -/
noncomputable def whN (c : Mo Bool) (b : SF) : Nat → SF
  | 0, _, _ => none
  | n + 1, δ, G => match c δ G with
    | some (true, δ1, G1) => match b δ1 G1 with
      | some (.nx δ2 G2) => whN c b n δ2 G2
      | some (.ct δ2 G2) => whN c b n δ2 G2
      | some (.bk δ2 G2) => some (.nx δ2 G2)
      | some (.rt x G2) => some (.rt x G2)
      | none => none
    | some (false, δ1, G1) => some (.nx δ1 G1)
    | none => none
theorem whN_mono  : ∀ {n : Nat} {δ : De} {G : List M} {fl : Fl}, whN c b n δ G = some fl → whN c b (n + 1) δ G = some fl
  | 0, _, _, _, h => by cases h
  | n + 1, δ, G, fl, h => by
    unfold whN at h ⊢
    cases e : c δ G with
    | none => rw [e] at h; cases h
    | some r =>
      obtain ⟨t, δ1, G1⟩ := r
      rw [e] at h
      cases t with
      | false => exact h
      | true =>
        cases e2 : b δ1 G1 with
        | none => dsimp only at h; rw [e2] at h; cases h
        | some fl2 =>
          dsimp only at h
          rw [e2] at h
          dsimp only
          rw [e2]
          cases fl2 with
          | nx δ2 G2 => exact whN_mono h
          | ct δ2 G2 => exact whN_mono h
          | bk δ2 G2 => exact h
          | rt x G2 => exact h
theorem whN_le    (h : whN c b n δ G = some fl) (l : n ≤ m) : whN c b m δ G = some fl := by
  induction l with
  | refl => exact h
  | step _ ih => exact whN_mono ih
open Classical in
noncomputable def whF (c : Mo Bool) (b : SF) : SF := fun δ G => if h : ∃ n fl, whN c b n δ G = some fl then some (choose (choose_spec h)) else none
theorem whF_of    (h : whN c b n δ G = some fl) : whF c b δ G = some fl := by
  have ex : ∃ n fl, whN c b n δ G = some fl := ⟨n, fl, h⟩
  unfold whF
  rw [dif_pos ex]
  have q := Classical.choose_spec (Classical.choose_spec ex)
  have h1 := whN_le h (Nat.le_max_left n (Classical.choose ex))
  have h2 := whN_le q (Nat.le_max_right n (Classical.choose ex))
  rw [h1] at h2
  exact h2.symm
theorem whF_inv   (h : whF c b δ G = some fl) : ∃ n, whN c b n δ G = some fl := by
  unfold whF at h
  split at h
  · rename_i ex
    have q := Classical.choose_spec (Classical.choose_spec ex)
    cases h
    exact ⟨_, q⟩
  · cases h
/-- a turn that goes on -/
theorem whF_next   (h1 : c δ G = some (true, δ1, G1)) (h2 : b δ1 G1 = some (.nx δ2 G2)) : whF c b δ G = whF c b δ2 G2 := by
  cases e : whF c b δ2 G2 with
  | some fl =>
    obtain ⟨n, hn⟩ := whF_inv e
    refine whF_of (n := n + 1) ?_
    unfold whN
    rw [h1]; dsimp only; rw [h2]; exact hn
  | none =>
    cases e' : whF c b δ G with
    | none => rfl
    | some fl =>
      obtain ⟨n, hn⟩ := whF_inv e'
      cases n with
      | zero => cases hn
      | succ n =>
        unfold whN at hn
        rw [h1] at hn; dsimp only at hn; rw [h2] at hn
        have := whF_of hn
        rw [e] at this; cases this
theorem whF_done   (h1 : c δ G = some (false, δ1, G1)) : whF c b δ G = some (.nx δ1 G1) := by
  refine whF_of (n := 1) ?_
  unfold whN
  rw [h1]
theorem up_while  (h : UpS K κ (whF c b) D σ H) : tWhile (UpT K κ c) (UpS K κ b) D σ H := by
  obtain ⟨ι, δ, G, fl, s, eq, k⟩ := h
  obtain ⟨n, hn⟩ := whF_inv eq
  refine ⟨fun m σ' H' => ∃ ι' δ' G', SR K κ ι' H' σ' δ' G' ∧ Step ι (own σ δ ++ ι) H ι' (own σ' δ' ++ ι') H' ∧ whN c b m δ' G' = some fl, ⟨n, ι, δ, G, s, Step.refl _ _ _, hn⟩, ?_⟩
  rintro m σ' H' ⟨ι', δ', G', s', st, e⟩
  cases m with
  | zero => cases e
  | succ m =>
    unfold whN at e
    split at e
    · rename_i δ1 G1 e1
      refine ⟨ι', δ', G', true, δ1, G1, s', e1, fun ι1 H1 s1 st1 => ?_⟩
      dsimp only
      rw [if_pos rfl]
      refine ⟨fun σ2 H2 => ∃ ι2 δ2 G2, SR K κ ι2 H2 σ2 δ2 G2 ∧ Step ι (own σ δ ++ ι) H ι2 (own σ2 δ2 ++ ι2) H2 ∧ whN c b m δ2 G2 = some fl, fun σ2 H2 q => ⟨m, Nat.lt_succ_self _, q⟩, ?_⟩
      split at e
      · rename_i δ2 G2 e2
        exact ⟨ι1, δ1, G1, _, s1, e2, fun σ2 ι2 H2 s2 st2 => ⟨ι2, δ2, G2, s2, (st.trans st1).trans st2, e⟩⟩
      · rename_i δ2 G2 e2
        exact ⟨ι1, δ1, G1, _, s1, e2, fun σ2 ι2 H2 s2 st2 => ⟨ι2, δ2, G2, s2, (st.trans st1).trans st2, e⟩⟩
      · rename_i δ2 G2 e2
        cases e
        exact ⟨ι1, δ1, G1, _, s1, e2, fun σ2 ι2 H2 s2 st2 => k _ _ _ s2 ((st.trans st1).trans st2)⟩
      · rename_i x G2 e2
        cases e
        exact ⟨ι1, δ1, G1, _, s1, e2, fun v ι2 H2 s2 st2 => k _ _ _ s2 ((st.trans st1).trans st2)⟩
      · cases e
    · rename_i δ1 G1 e1
      cases e
      refine ⟨ι', δ', G', false, δ1, G1, s', e1, fun ι1 H1 s1 st1 => ?_⟩
      dsimp only
      rw [if_neg Bool.false_ne_true]
      exact k _ _ _ s1 (st.trans st1)
    · cases e
/-- what is walked: its items by their places in the state; how many; what is laid for a turn stays pure -/
structure Wk where
  n : Nat
  at_ : Nat → De → List M → Option I
  fin : De → List M → Bool
/-- an iterator is told by w: at turn i of n its next item is w.at_ i; the temporaries of what is walked lie beside the slots -/
structure Walks (K : PySem.W.Frag) (κ : Str → Addr) (J : It) (τ : St) (θ : De) (w : Wk) : Prop where
  go : ∀ {i : Nat} {d : I} {ι : List Addr} {H : Hp} {σ : St} {δ : De} {G : List M}, i < w.n → w.at_ i δ G = some d → σ.length = δ.length → SR K κ ι H (σ ++ τ) (δ ++ θ) G → J.go i H ∧ ∀ x H', J.yld i H x H' → Same H H' ∧ RpI K ι H' x d
  stop : ∀ {ι : List Addr} {H : Hp} {σ : St} {δ : De} {G : List M}, w.fin δ G = true → σ.length = δ.length → SR K κ ι H (σ ++ τ) (δ ++ θ) G → J.stop w.n H
/-- the turns from i on, r of them -/
noncomputable def fTurns (w : Wk) (g : GF) (b : SF) : Nat → Nat → SF
  | i, 0, δ, G => if w.fin δ G then some (.nx δ G) else none
  | i, r + 1, δ, G => match w.at_ i δ G with
    | some d => match g (.im d) δ G with
      | some (δ1, G1) => match b δ1 G1 with
        | some (.nx δ2 G2) => fTurns w g b (i + 1) r δ2 G2
        | some (.ct δ2 G2) => fTurns w g b (i + 1) r δ2 G2
        | some (.bk δ2 G2) => some (.nx δ2 G2)
        | some (.rt x G2) => some (.rt x G2)
        | none => none
      | none => none
    | none => none
/-- an iterable: how it comes to be walked -/
noncomputable abbrev IF := De → List M → Option (Wk × List Ev × De × List M)
noncomputable def UpI (K : PySem.W.Frag) (κ : Str → Addr) (f : IF) : TI := fun σ H R => ∃ ι δ G w es δ' G', SR K κ ι H σ δ G ∧ f δ G = some (w, es, δ', G') ∧
  ∀ J vs ι' H', After K κ σ ι (own σ δ ++ ι) H es δ' G' vs ι' H' → Walks K κ J (tS es vs) (tD es) w → R J H'
noncomputable def forF (f : IF) (g : GF) (b : SF) : SF := fun δ G => match f δ G with
  | some (w, _, δ1, G1) => fTurns w g b 0 w.n δ1 G1
  | none => none
theorem up_for   (h : UpS K κ (forF f g b) D σ H) : tFor (UpI K κ f) (UpG K κ g) (UpS K κ b) D σ H := by
  obtain ⟨ι, δ, G, fl, s, eq, k⟩ := h
  unfold forF at eq
  split at eq
  · rename_i w es δ1 G1 e1
    refine ⟨ι, δ, G, w, es, δ1, G1, s, e1, fun J vs ι1 H1 a wk => ?_⟩
    refine ⟨fun i m σ' H' => i + m = w.n ∧ ∃ ι' δ' G', σ'.length = δ'.length ∧ SR K κ ι' H' (σ' ++ tS es vs) (δ' ++ tD es) G' ∧ Step ι (own σ δ ++ ι) H ι' (own (σ' ++ tS es vs) (δ' ++ tD es) ++ ι') H' ∧ fTurns w g b i m δ' G' = some fl,
      ⟨w.n, by lia, ι1, δ1, G1, a.ar.l, a.ar.sr, a.st, eq⟩, ?_⟩
    rintro i m σ' H' ⟨him, ι', δ', G', l, s', st, e⟩
    have sub : ∀ a, a ∈ own σ' δ' ++ ι' → a ∈ own (σ' ++ tS es vs) (δ' ++ tD es) ++ ι' := fun a ha => own_sub l ha
    cases m with
    | zero =>
      have hi : i = w.n := by lia
      subst hi
      unfold fTurns at e
      split at e
      · rename_i hf
        cases e
        exact .inl ⟨wk.stop hf l s', k _ _ _ (s'.pop l) (st.sub sub)⟩
      · cases e
    | succ m =>
      unfold fTurns at e
      split at e
      · rename_i d hd
        obtain ⟨go, yl⟩ := wk.go (by lia) hd l s'
        refine .inr ⟨go, fun σ2 H2 => ∃ ι2 δ2 G2, σ2.length = δ2.length ∧ SR K κ ι2 H2 (σ2 ++ tS es vs) (δ2 ++ tD es) G2 ∧ Step ι (own σ δ ++ ι) H ι2 (own (σ2 ++ tS es vs) (δ2 ++ tD es) ++ ι2) H2 ∧ fTurns w g b (i + 1) m δ2 G2 = some fl,
          fun σ2 H2 q => ⟨m, Nat.lt_succ_self _, by lia, q⟩, fun x H3 hy => ?_⟩
        obtain ⟨sm, rx⟩ := yl x H3 hy
        have s3 := s'.same sm
        have st3 := st.trans (Step.same sm)
        split at e
        · rename_i δ4 G4 e4
          have p := (s3.pop l).push_im rx
          -- behind the target
          refine ⟨ι', δ', G', .im d, δ4, G4, l, p, e4, fun σ4 ι4 H4 s4 st4 => ?_⟩
          rw [own_im l] at st4
          -- the temporaries lie beside it
          have jn : ∀ {σ5 : St} {δ5 : De} {G5 : List M} {ι5 : List Addr} {H5 : Hp}, SR K κ ι5 H5 σ5 δ5 G5 → Step ι4 (own σ4 δ4 ++ ι4) H4 ι5 (own σ5 δ5 ++ ι5) H5 →
              SR K κ ι5 H5 (σ5 ++ tS es vs) (δ5 ++ tD es) G5 ∧ Step ι (own σ δ ++ ι) H ι5 (own (σ5 ++ tS es vs) (δ5 ++ tD es) ++ ι5) H5 := fun {σ5 δ5 G5 ι5 H5} s5 st5 => by
            have j := SR.join s3 l (by rw [List.append_nil, List.append_nil]; exact s5) s5.len (by rw [List.append_nil, List.append_nil]; exact st4.trans st5)
            rw [List.append_nil, List.append_nil] at j
            exact ⟨j.1, st3.trans j.2⟩
          split at e
          · rename_i δ5 G5 e5
            exact ⟨ι4, δ4, G4, _, s4, e5, fun σ5 ι5 H5 s5 st5 => ⟨ι5, δ5, G5, s5.len, (jn s5 st5).1, (jn s5 st5).2, e⟩⟩
          · rename_i δ5 G5 e5
            exact ⟨ι4, δ4, G4, _, s4, e5, fun σ5 ι5 H5 s5 st5 => ⟨ι5, δ5, G5, s5.len, (jn s5 st5).1, (jn s5 st5).2, e⟩⟩
          · rename_i δ5 G5 e5
            cases e
            exact ⟨ι4, δ4, G4, _, s4, e5, fun σ5 ι5 H5 s5 st5 => k _ _ _ s5 ((jn s5 st5).2.sub fun a ha => own_sub s5.len ha)⟩
          · rename_i x5 G5 e5
            cases e
            refine ⟨ι4, δ4, G4, _, s4, e5, fun v ι5 H5 s5 st5 => k _ _ _ s5 ((jn s5 st5).2.sub fun a ha => own_sub s5.len ha)⟩
          · cases e
        · cases e
      · cases e
  · cases eq
end
end B
namespace B
open PySem L2
section
theorem own_swap (l : σ.length = δ.length) (l2 : τ.length = θ.length) : cnt a (own (τ ++ σ) (θ ++ δ)) = cnt a (own (σ ++ τ) (δ ++ θ)) := by
  rw [own_app _ _ l, own_app _ _ l2]
  simp only [cnt, List.count_append]
  lia
theorem SR.swap (h : SR K κ ι H (σ ++ τ) (δ ++ θ) G) (l : σ.length = δ.length) : SR K κ ι H (τ ++ σ) (θ ++ δ) G := by
  obtain ⟨p, q⟩ := paired_split l h.sl
  exact ⟨paired_app q p, h.gs, fun a => by rw [own_swap l (Paired.length q)]; exact h.nd a⟩
theorem mem_swap  (l : σ.length = δ.length) (l2 : τ.length = θ.length) (h : a ∈ own (τ ++ σ) (θ ++ δ) ++ l1) : a ∈ own (σ ++ τ) (δ ++ θ) ++ l1 := by
  simp only [List.mem_append] at h ⊢
  rcases h with h | h
  · left; rw [cnt_pos] at h ⊢; rw [← own_swap l l2]; exact h
  · exact .inr h
noncomputable abbrev FF := List Vl → List M → Option (Vl × List M)
noncomputable def UpF (K : PySem.W.Frag) (κ : Str → Addr) (n : Nat) (fn : FF) : Sp := fun vs H Q _ => ∃ ι xs G x G', xs.length = n ∧ SR K κ ι H (vs.map some) (xs.map some) G ∧ fn xs G = some (x, G') ∧
  ∀ v ι' H', SR K κ ι' H' [some v] [some x] G' → Step ι (own (vs.map some) (xs.map some) ++ ι) H ι' (own [some v] [some x] ++ ι') H' → Q v H'
noncomputable def vlA : List Ev → Option (List Vl)
  | [] => some []
  | .v x :: es => (vlA es).map (x :: ·)
  | .s _ :: _ => none
noncomputable def callP (n : Nat) (fn : FF) : List Ev → Mo Ev := fun es δ G => match vlA es with
  | some xs => if xs.length = n then match fn xs G with
    | some (x, G') => some (.v x, δ, G')
    | none => none
    else none
  | none => none
theorem vlA_ts : ∀ {es : List Ev} {vs : List V} {xs : List Vl}, vlA es = some xs → es.length = vs.length → tS es vs = vs.map some ∧ tD es = xs.map some
  | [], [], _, h, _ => by cases h; exact ⟨rfl, rfl⟩
  | [], _ :: _, _, _, l => by cases l
  | _ :: _, [], _, _, l => by cases l
  | .s i :: _, _ :: _, _, h, _ => by cases h
  | .v x :: es, v :: vs, xs, h, l => by
    have h : (vlA es).map (x :: ·) = some xs := h
    cases e : vlA es with
    | none => rw [e] at h; cases h
    | some ys =>
      rw [e] at h; cases h
      obtain ⟨p, q⟩ := vlA_ts e (by simpa using l)
      exact ⟨by show some v :: tS es vs = _; rw [p]; rfl, by show some x :: tD es = _; rw [q]; rfl⟩
theorem prim_call  : Prim K κ (fun vs H Q => UpF K κ n fn vs H Q E) (callP n fn) := by
  intro ι H σ δ G es vs e δ' G' Q a h k
  unfold callP at h
  split at h
  · rename_i xs hx
    split at h
    · rename_i hl
      split at h
      · rename_i x G1 e1
        cases h
        obtain ⟨t1, t2⟩ := vlA_ts hx a.len
        have sr := a.sr
        rw [t1, t2] at sr k
        have sw := sr.swap a.l
        have lt : (vs.map some).length = (xs.map some).length := Paired.length (paired_split a.l sr.sl).2
        refine ⟨ι, xs, G, x, _, hl, sw.pop lt, e1, fun v ι' H' s st => ?_⟩
        have s' : SR K κ ι' H' ([some v] ++ []) ([some x] ++ []) _ := s
        obtain ⟨j1, j2⟩ := SR.join sw lt s' rfl st
        rw [List.append_nil, List.append_nil] at j1 j2
        refine k v ι' H' ⟨⟨a.l, j1.swap rfl, .cons (fun _ h => by cases h) .nil⟩, (j2.wide fun y hy => mem_swap a.l lt hy).sub fun y hy => ?_⟩
        exact mem_swap rfl a.l hy
      · cases h
    · cases h
  · cases h
/-- a def's body, from its arguments; N names in all -/
noncomputable def runF (n r : Nat) (body : SF) : FF := fun xs G => if xs.length = n then match body (xs.map some ++ List.replicate r none) G with
  | some (.rt x G') => some (x, G')
  | some (.nx _ G') => some (.im .non, G')
  | _ => none
  else none
theorem paired_no : ∀ (r : Nat), Paired (RpE K κ ι H) (List.replicate r none) (List.replicate r none)
  | 0 => .nil
  | r + 1 => .cons (.no _) (paired_no r)
theorem own_no : ∀ (r : Nat), own (List.replicate r none) (List.replicate r none) = []
  | 0 => rfl
  | r + 1 => own_no r
theorem SR.nones (h : SR K κ ι H σ δ G) (r : Nat) : SR K κ ι H (σ ++ List.replicate r none) (δ ++ List.replicate r none) G ∧ own (σ ++ List.replicate r none) (δ ++ List.replicate r none) = own σ δ := by
  have e : own (σ ++ List.replicate r none) (δ ++ List.replicate r none) = own σ δ := by rw [own_app _ _ h.len, own_no, List.append_nil]
  exact ⟨⟨paired_app h.sl (paired_no r), h.gs, fun a => by rw [e]; exact h.nd a⟩, e⟩
theorem up_run   (h : UpF K κ n (runF n r body) vs H Q E) : vs.length = n ∧ UpS K κ body { nx := fun _ H' => Q .non H', rt := Q } (vs.map some ++ List.replicate r none) H := by
  obtain ⟨ι, xs, G, x, G', hl, s, eq, k⟩ := h
  have lv : vs.length = n := by have := s.len; rw [List.length_map, List.length_map] at this; lia
  refine ⟨lv, ?_⟩
  unfold runF at eq
  rw [if_pos hl] at eq
  obtain ⟨s0, e0⟩ := s.nones r
  split at eq
  · rename_i x' G1 e1
    cases eq
    refine ⟨ι, _, G, _, s0, e1, ?_⟩
    rw [e0]
    exact fun v ι' H' s' st => k v ι' H' s' st
  · rename_i δ1 G1 e1
    cases eq
    refine ⟨ι, _, G, _, s0, e1, ?_⟩
    rw [e0]
    intro σ' ι' H' s' st
    obtain ⟨p, q⟩ := SR.last (s'.push_im .non) s'.len
    refine k _ _ _ p (st.sub fun a ha => ?_)
    have := q a ha
    rw [own_im s'.len] at this
    exact this
  · cases eq
noncomputable def PrimI (K : PySem.W.Frag) (κ : Str → Addr) (r : List V → Hp → (It → Hp → Prop) → Prop) (p : List Ev → De → List M → Option Wk) : Prop :=
  ∀ (ι : List Addr) (H : Hp) (σ : St) (δ : De) (G : List M) (es : List Ev) (vs : List V) (w : Wk) (R : It → Hp → Prop), Args K κ ι H σ δ G es vs → p es δ G = some w →
    (∀ J, Walks K κ J (tS es vs) (tD es) w → R J H) → r vs H R
noncomputable def itF (fa : Mo (List Ev)) (p : List Ev → De → List M → Option Wk) : IF := fun δ G => match fa δ G with
  | some (es, δ1, G1) => (p es δ1 G1).map fun w => (w, es, δ1, G1)
  | none => none
theorem up_it   (hp : PrimI K κ r p) (h : UpI K κ (itF fa p) σ H R) : UpA K κ fa σ H fun vs H1 => r vs H1 R := by
  obtain ⟨ι, δ, G, w, es, δ', G', s, eq, k⟩ := h
  unfold itF at eq
  split at eq
  · rename_i es1 δ1 G1 e1
    cases q : p es1 δ1 G1 with
    | none => rw [q] at eq; cases eq
    | some w' =>
      rw [q] at eq
      cases eq
      exact ⟨ι, δ, G, _, _, _, s, e1, fun vs ι1 H1 a => hp _ _ _ _ _ _ _ _ _ a.ar q fun J wk => k J vs ι1 H1 a wk⟩
  · cases eq
noncomputable def one (f : Mo Ev) : Mo (List Ev) := bd f fun e => rt [e]
theorem up_one  (h : UpA K κ (one f) σ H fun vs H1 => ∃ v, vs = [v] ∧ Q v H1) : UpE K κ f σ H Q := by
  obtain ⟨ι, δ, G, es, δ', G', s, eq, k⟩ := h
  obtain ⟨x, δ1, G1, e1, eq⟩ := bd_inv eq
  cases eq
  refine ⟨ι, δ, G, x, _, _, s, e1, fun v ι1 H1 a => ?_⟩
  obtain ⟨v', e', q⟩ := k _ _ _ a
  cases e'
  exact q
/-- range(n) -/
noncomputable def rng1P : List Ev → De → List M → Option Wk := fun es _ _ => match es with
  | [.v (.im (.int j))] => if j < 2 ^ 62 ∧ -(2 ^ 62) ≤ j then some ⟨j.toNat, fun i _ _ => some (.int i), fun _ _ => true⟩ else none
  | _ => none
theorem walks_range   : Walks K κ (Itr lo n) τ θ ⟨n, fun i _ _ => some (.int (lo + i)), fun _ _ => true⟩ where
  go := fun hi hd _ _ => by
    cases hd
    refine ⟨hi, fun x H' y => ?_⟩
    obtain ⟨e1, e2⟩ := y
    subst e1; subst e2
    exact ⟨(fun _ _ h => h), .int _⟩
  stop := fun _ _ _ => Nat.le_refl _
theorem prim_rng1 : PrimI K κ (fun vs H R => ∃ j : Int, vs = [.int j] ∧ -(2 ^ 62) ≤ j ∧ j < 2 ^ 62 ∧ R (Itr 0 j.toNat) H) rng1P := by
  intro ι H σ δ G es vs w R a h k
  unfold rng1P at h
  split at h
  · rename_i j
    split at h
    · rename_i hj
      cases h
      obtain ⟨v, rfl⟩ := len1 a.len
      have r := a.im (j := 0) rfl rfl
      cases rpInt (r)
      refine ⟨j, rfl, hj.2, hj.1, k _ ?_⟩
      have := walks_range (K := K) (κ := κ) (lo := 0) (n := j.toNat) (τ := tS [.v (.im (.int j))] [.int j]) (θ := tD [.v (.im (.int j))])
      simpa using this
    · cases h
  · cases h
/-- the items of a list, of a tuple -/
noncomputable def lsW (e : Ev) (n : Nat) : Wk := ⟨n, fun i δ G => (sq δ G e).bind (·[i]?), fun δ G => match sq δ G e with | some xs => decide (xs.length ≤ n) | none => false⟩
noncomputable def isL (δ : De) (G : List M) : Ev → Bool
  | .v (.im (.fro _)) => true
  | .v (.im (.ref _)) => true
  | .v (.ow (.lst _)) => true
  | _ => false
noncomputable def lsP : List Ev → De → List M → Option Wk := fun es δ G => match es with
  | [e] => if isL δ G e then (sq δ G e).map fun xs => lsW e xs.length else none
  | _ => none
noncomputable def tpP : List Ev → De → List M → Option Wk := fun es δ G => match es with
  | [.v (.im (.tup xs))] => some (lsW (.v (.im (.tup xs))) xs.length)
  | [.v (.im (.con xs))] => some (lsW (.v (.im (.con xs))) xs.length)
  | _ => none
theorem args_one  (he : e = .v x) (l : σ.length = δ.length) (h : SR K κ ι H (σ ++ tS [e] [v]) (δ ++ tD [e]) G) : Args K κ ι H σ δ G [e] [v] := ⟨l, h, .cons (fun i q => by rw [he] at q; cases q) .nil⟩
theorem sqL_of  (a : Args K κ ι H σ δ G [e] [v]) (hl : isL δ G e = true) (h : sq δ G e = some xs) : ∃ b ys, v = .ref b ∧ SqL K H b ys ∧ RpIs K ι H ys xs := by
  cases e with
  | s i => cases hl
  | v x =>
    cases x with
    | ow m =>
      cases m with
      | lst ys =>
        cases h
        obtain ⟨b, e1, zs, h3, r⟩ := a.pk (j := 0) rfl rfl rfl
        exact ⟨b, zs, e1, SqL.of h3, r⟩
      | _ => cases hl
    | im d =>
      cases d with
      | fro ys =>
        cases h
        have r := a.im (j := 0) rfl rfl
        obtain ⟨_, _, rfl, q, r9⟩ := rpFro r
        exact ⟨_, _, rfl, q.sq, r9⟩
      | ref k =>
        have h : (match pk δ G (.v (.im (.ref k))) with | some (.lst xs) => some xs | _ => none) = some xs := h
        split at h
        · rename_i ys e1
          cases h
          obtain ⟨b, e1, zs, h3, r⟩ := a.pk (j := 0) rfl rfl e1
          exact ⟨b, zs, e1, SqL.of h3, r⟩
        · cases h
      | _ => cases hl
theorem isL_v (h : isL δ G e = true) : ∃ x, e = .v x := by
  cases e with
  | v x => exact ⟨x, rfl⟩
  | s i => cases h
theorem isL_any (h : isL δ G e = true) : isL δ1 G1 e = true := by
  cases e with
  | s i => cases h
  | v x =>
    cases x with
    | ow m => cases m <;> first | rfl | cases h
    | im d => cases d <;> first | rfl | cases h
theorem walks_ls  (hl : isL δ G e = true) : Walks K κ (Itl K b) (tS [e] [.ref b]) (tD [e]) (lsW e n) where
  go := fun {i d ι H σ δ' G'} hi hd l s => by
    obtain ⟨x, hx⟩ := isL_v hl
    have hd : (sq δ' G' e).bind (·[i]?) = some d := hd
    cases q : sq δ' G' e with
    | none => rw [q] at hd; cases hd
    | some xs =>
      rw [q] at hd
      obtain ⟨b', ys, e1, h1, r⟩ := sqL_of (args_one hx l s) (isL_any hl) q
      cases e1
      obtain ⟨v, hv, rv⟩ := r.get hd
      refine ⟨⟨ys, v, h1, hv⟩, fun x H' y => ?_⟩
      obtain ⟨e2, e3⟩ := y
      subst e2
      have := e3 ys h1
      rw [hv] at this; cases this
      exact ⟨(fun _ _ h => h), rv⟩
  stop := fun {ι H σ δ' G'} hf l s => by
    obtain ⟨x, hx⟩ := isL_v hl
    have hf : (match sq δ' G' e with | some xs => decide (xs.length ≤ n) | none => false) = true := hf
    cases q : sq δ' G' e with
    | none => rw [q] at hf; cases hf
    | some xs =>
      rw [q] at hf
      obtain ⟨b', ys, e1, h1, r⟩ := sqL_of (args_one hx l s) (isL_any hl) q
      cases e1
      exact ⟨ys, h1, by rw [r.len]; exact of_decide_eq_true hf⟩
theorem prim_ls : PrimI K κ (fun vs H R => ∃ v, vs = [v] ∧ ∃ a, v = .ref a ∧ (∃ xs, SqL K H a xs) ∧ R (Itl K a) H) lsP := by
  intro ι H σ δ G es vs w R a h k
  unfold lsP at h
  split at h
  · rename_i e
    split at h
    · rename_i hl
      cases q : sq δ G e with
      | none => rw [q] at h; cases h
      | some xs =>
        rw [q] at h
        cases h
        obtain ⟨v, rfl⟩ := len1 a.len
        obtain ⟨b, ys, e1, h1, r⟩ := sqL_of a hl q
        subst e1
        exact ⟨_, rfl, b, rfl, ⟨ys, h1⟩, k _ (walks_ls hl)⟩
    · cases h
  · cases h
theorem prim_tp : PrimI K κ (fun vs H R => ∃ v, vs = [v] ∧ ∃ a, v = .ref a ∧ (∃ xs, SqT K H a xs) ∧ R (Itt K a) H) tpP := by
  intro ι H σ δ G es vs w R a h k
  unfold tpP at h
  have go : ∀ {x : I} {xs : List I}, (x = .tup xs ∨ x = .con xs) → Args K κ ι H σ δ G [.v (.im x)] vs → sq δ G (.v (.im x)) = some xs → (∀ J, Walks K κ J (tS [.v (.im x)] vs) (tD [.v (.im x)]) (lsW (.v (.im x)) xs.length) → R J H) →
      ∃ v, vs = [v] ∧ ∃ a, v = .ref a ∧ (∃ xs, SqT K H a xs) ∧ R (Itt K a) H := fun {x xs} hx a hq k => by
    have tv : ∀ {ι : List Addr} {H : Hp} {v : V}, RpI K ι H v x → ∃ b ys, v = .ref b ∧ SqT K H b ys ∧ RpIs K ι H ys xs := fun r => by
      rcases hx with rfl | rfl
      · obtain ⟨_, _, rfl, h, r9⟩ := rpTup r
        exact ⟨_, _, rfl, SqT.of h, r9⟩
      · obtain ⟨_, _, rfl, h, r9⟩ := rpCon r
        exact ⟨_, _, rfl, SqT.kon h, r9⟩
    have sx : ∀ (δ : De) (G : List M), sq δ G (.v (.im x)) = some xs := fun δ G => by rcases hx with rfl | rfl <;> rfl
    obtain ⟨v, rfl⟩ := len1 a.len
    obtain ⟨b, ys, e1, h1, r⟩ := tv (a.im (j := 0) rfl rfl)
    subst e1
    refine ⟨_, rfl, b, rfl, ⟨ys, h1⟩, k _ ⟨fun {i d ι' H' σ' δ' G'} hi hd l s => ?_, fun {ι' H' σ' δ' G'} hf l s => ?_⟩⟩
    · obtain ⟨b', zs, e2, h2, r2⟩ := tv ((args_one rfl l s).im (j := 0) rfl rfl)
      cases e2
      have hd : (sq δ' G' (.v (.im x))).bind (·[i]?) = some d := hd
      rw [sx] at hd
      have hd : xs[i]? = some d := hd
      obtain ⟨v, hv, rv⟩ := r2.get hd
      refine ⟨⟨zs, v, h2, hv⟩, fun x H' y => ?_⟩
      obtain ⟨e2, e3⟩ := y
      subst e2
      have := e3 zs h2
      rw [hv] at this; cases this
      exact ⟨(fun _ _ h => h), rv⟩
    · obtain ⟨b', zs, e2, h2, r2⟩ := tv ((args_one rfl l s).im (j := 0) rfl rfl)
      cases e2
      exact ⟨zs, h2, by rw [r2.len]; exact Nat.le_refl _⟩
  split at h
  · cases h
    exact go (.inl rfl) a rfl k
  · cases h
    exact go (.inr rfl) a rfl k
  · cases h
end
end B
namespace B
open PySem L2
section
/-- the slots that are looked at from within become things -/
noncomputable def boxS : List Nat → Mo Unit
  | [] => rt ()
  | i :: is => fun δ G => match δ[i]? with
    | some (some (.ow m)) => boxS is (δ.set i (some (.im (.ref G.length)))) (G ++ [m])
    | _ => boxS is δ G
theorem boxS_ok : ∀ {ix : List Nat} {δ δ' : De} {G G' : List M} {ι : List Addr} {u : Unit}, boxS ix δ G = some (u, δ', G') → SR K κ ι H σ δ G → ∃ ι', SR K κ ι' H σ δ' G' ∧ Step ι (own σ δ ++ ι) H ι' (own σ δ' ++ ι') H
  | [], _, _, _, _, ι, _, h, s => by cases h; exact ⟨ι, s, Step.refl _ _ _⟩
  | i :: is, δ, δ', G, G', ι, u, h, s => by
    unfold boxS at h
    split at h
    · rename_i m hm
      obtain ⟨a, e1, r⟩ := s.get_ow hm
      have n := After.nil s
      have a1 : After K κ σ ι (own σ δ ++ ι) H [.s i] δ G [.ref a] ι H := ⟨⟨s.len, n.ar.sr, .cons (fun j h => by cases h; exact e1) .nil⟩, n.st⟩
      have hb : bxE (.s i) δ G = some (.v (.im (.ref G.length)), δ.set i (some (.im (.ref G.length))), G ++ [m]) := by unfold bxE; dsimp only; rw [hm]
      obtain ⟨ι2, a2⟩ := after_bx a1 hb
      obtain ⟨s2, st2⟩ := a2.drop
      obtain ⟨ι3, s3, st3⟩ := boxS_ok h s2
      exact ⟨ι3, s3, st2.trans st3⟩
    · exact boxS_ok h s
noncomputable def inD1 (δ : De) (i : Nat) : Option Vl := match δ[i]? with
  | some (some (.im d)) => some (.im d)
  | _ => none
noncomputable def inD (ix : List Nat) (δ : De) : De := ix.map (inD1 δ)
noncomputable def inV (ix : List Nat) (σ : St) : St := ix.map fun i => (σ[i]?).getD none
theorem inner (h : SR K κ ι H σ δ G) : ∀ (ix : List Nat), Paired (RpE K κ ι H) (inV ix σ) (inD ix δ) ∧ own (inV ix σ) (inD ix δ) = []
  | [] => ⟨.nil, rfl⟩
  | i :: ix => by
    obtain ⟨p, q⟩ := inner h ix
    have one : RpE K κ ι H ((σ[i]?).getD none) (inD1 δ i) ∧ own1 ((σ[i]?).getD none) (inD1 δ i) = [] := by
      unfold inD1
      split
      · rename_i d hd
        obtain ⟨v, e, r⟩ := h.get_im hd
        rw [e]
        exact ⟨.im r, own1_im _ _⟩
      · exact ⟨.no _, own1_no _⟩
    refine ⟨.cons one.1 p, ?_⟩
    show own1 _ _ ++ own (inV ix σ) (inD ix δ) = []
    rw [one.2, q]; rfl
theorem ims_slots : ∀ {xs : List V} {ds : List I}, RpIs K ι H xs ds → Paired (RpE K κ ι H) (xs.map some) (ds.map fun d => some (Vl.im d)) ∧ own (xs.map some) (ds.map fun d => some (Vl.im d)) = []
  | _, _, .nil => ⟨.nil, rfl⟩
  | _, _, .cons r rs => by
    obtain ⟨p, q⟩ := ims_slots rs
    refine ⟨.cons (.im r) p, ?_⟩
    show own1 _ _ ++ own _ _ = []
    rw [own1_im, q]; rfl
/-- the turns of a comprehension -/
noncomputable def cTurns (w : Wk) (c : I → Option (List I)) (tt : Mo Bool) (te : Mo Ev) (di : De) : Nat → Nat → List I → De → List M → Option (List I × List M)
  | i, 0, acc, δ, G => if w.fin δ G then some (acc, G) else none
  | i, r + 1, acc, δ, G => match w.at_ i δ G with
    | some d => match c d with
      | some ds => match tt ((ds.map fun d => some (Vl.im d)) ++ di) G with
        | some (true, δa, Ga) => match te δa Ga with
          | some (.v (.im y), _, Gb) => cTurns w c tt te di (i + 1) r (acc ++ [y]) δ Gb
          | _ => none
        | some (false, _, Ga) => cTurns w c tt te di (i + 1) r acc δ Ga
        | none => none
      | none => none
    | none => none
/-- a target of n names -/
noncomputable def Tgt (K : PySem.W.Frag) (g : TG) (n : Nat) (c : I → Option (List I)) : Prop := ∀ (ι : List Addr) (H : Hp) (x : V) (d : I) (ds : List I) (σ' : St) (Q : St → Hp → Prop), RpI K ι H x d → c d = some ds →
  ds.length = n ∧ ((∀ xs, RpIs K ι H xs ds → Q (xs.map some ++ σ') H) → g x (List.replicate n none ++ σ') H Q)
noncomputable def c1 : I → Option (List I) := fun d => some [d]
noncomputable def cN (n : Nat) : I → Option (List I) := fun d => match d with
  | .tup ds => if ds.length = n then some ds else none
  | _ => none
theorem tgt_1 : Tgt K (gName 0) 1 c1 := by
  intro ι H x d ds σ' Q r h
  cases h
  exact ⟨rfl, fun k => k [x] (.cons r .nil)⟩
theorem rows_set : ∀ (vs : List V) (pre : St) (σ' : St) (Q : St → Hp → Prop), Q (pre ++ (vs.map some ++ σ')) H → gRow ((List.range vs.length).map (pre.length + ·)) vs (pre ++ (List.replicate vs.length none ++ σ')) H Q
  | [], pre, σ', Q, h => ⟨rfl, h⟩
  | v :: vs, pre, σ', Q, h => by
    have e : (List.range (v :: vs).length).map (pre.length + ·) = pre.length :: (List.range vs.length).map ((pre ++ [some v]).length + ·) := by
      rw [List.length_cons, List.range_succ_eq_map, List.map_cons, List.map_map]
      congr 1
      refine List.map_congr_left fun j _ => ?_
      simp
      lia
    rw [e]
    refine ⟨v, vs, rfl, ?_⟩
    show gRow _ vs ((pre ++ (List.replicate (vs.length + 1) none ++ σ')).set pre.length (some v)) H Q
    have e2 : (pre ++ (List.replicate (vs.length + 1) none ++ σ')).set pre.length (some v) = (pre ++ [some v]) ++ (List.replicate vs.length none ++ σ') := by
      rw [List.set_append_right _ _ (Nat.le_refl _), Nat.sub_self, List.replicate_succ]
      simp
    rw [e2]
    refine rows_set vs (pre ++ [some v]) σ' Q ?_
    have e3 : pre ++ [some v] ++ (vs.map some ++ σ') = pre ++ ((v :: vs).map some ++ σ') := by simp
    rw [e3]
    exact h
theorem tgt_n (n : Nat) : Tgt K (gTup K n (gRow (List.range n))) n (cN n) := by
  intro ι H x d ds σ' Q r h
  unfold cN at h
  split at h
  · rename_i xs
    split at h
    · rename_i hl
      cases h
      refine ⟨hl, fun k => ?_⟩
      cases r with
      | @tup a ys _ h1 r =>
        have e := r.len
        refine ⟨a, ys, rfl, SqT.of h1, by lia, ?_⟩
        have q := rows_set (H := H) ys [] σ' Q (k ys r)
        have e1 : (List.range ys.length).map (([] : St).length + ·) = List.range n := by
          rw [e, hl]; simp
        rw [e1] at q
        have e2 : n = ys.length := by lia
        rw [e2]
        rw [← e2] at q ⊢
        exact q
    · cases h
  · cases h
noncomputable def compF (fi : IF) (ix : List Nat) (c : I → Option (List I)) (tt : Mo Bool) (te : Mo Ev) : Mo Ev := fun δ G => match boxS ix δ G with
  | some (_, δ0, G0) => match fi δ0 G0 with
    | some (w, _, δ1, G1) => if w.n ≤ 100000 then match cTurns w c tt te (inD ix δ1) 0 w.n [] δ1 G1 with
      | some (ds, G2) => some (.v (.ow (.lst ds)), δ1, G2)
      | none => none
      else none
    | none => none
  | none => none
theorem line100 : 100000 < sizeLine := by decide
theorem up_comp     (hg : ∀ z, Tgt K (g z) n c) (h : UpE K κ (compF fi ix c tt te) σ H Q) :
    tCompG n ix (UpI K κ fi) g (fun _ => UpT K κ tt) (fun _ => UpE K κ te) σ H Q := by
  obtain ⟨ι, δ, G, e, δ', G', s, eq, k⟩ := h
  unfold compF at eq
  split at eq
  · rename_i u δ0 G0 e0
    split at eq
    · rename_i w es δ1 G1 e1
      split at eq
      · rename_i hn
        split at eq
        · rename_i ds G2 e2
          obtain ⟨ι0, s0, st0⟩ := boxS_ok e0 s
          refine ⟨ι0, δ0, G0, w, es, δ1, G1, s0, e1, fun J vs ι1 H1 a wk => ?_⟩
          intro D hD
          have lo : (σ ++ tS es vs).length = (δ1 ++ tD es).length := by
            have := a.ar.sr.len; exact this
          refine ⟨fun i m ys H' => i + m = w.n ∧ H' D = some (.lst ys) ∧ ∃ ι' G' acc, SR K κ ι' H' ((σ ++ tS es vs) ++ [some (.ref D)]) ((δ1 ++ tD es) ++ [some (.ow (.lst acc))]) G' ∧
            Step ι (own σ δ ++ ι) H ι' (own ((σ ++ tS es vs) ++ [some (.ref D)]) ((δ1 ++ tD es) ++ [some (.ow (.lst acc))]) ++ ι') H' ∧ acc.length ≤ i ∧ acc.length = ys.length ∧ cTurns w c tt te (inD ix δ1) i m acc δ1 G' = some (ds, G2), ⟨w.n, by lia, upd_same, ι1, G1, [], ?_, ?_, Nat.le_refl _, rfl, e2⟩, ?_⟩
          · exact a.ar.sr.push_ow hD ⟨[], upd_same, .nil⟩
          · exact (st0.trans a.st).trans (Step.lay_ow lo hD)
          · rintro i m ys H' ⟨him, hys, ι', G', acc, s', st, hac, hay, et⟩
            refine ⟨hys, ?_⟩
            have sb := s'.pop lo
            cases m with
            | zero =>
              unfold cTurns at et
              split at et
              · rename_i hf
                cases et
                have hi : i = w.n := by lia
                subst hi
                refine .inl ⟨wk.stop hf a.ar.l sb, ?_⟩
                -- the list alone beside the slots
                have l1 := a.ar.l
                obtain ⟨pa, pc⟩ := paired_split lo s'.sl
                obtain ⟨pa, pb⟩ := paired_split l1 pa
                have lt := Paired.length pb
                have e3 : own ((σ ++ tS es vs) ++ [some (.ref D)]) ((δ1 ++ tD es) ++ [some (.ow (.lst ds))]) = own σ δ1 ++ own (tS es vs) (tD es) ++ [D] := by rw [own_ow lo, own_app _ _ l1]
                have e4 : own (σ ++ [some (.ref D)]) (δ1 ++ [some (.ow (.lst ds))]) = own σ δ1 ++ [D] := own_ow l1
                refine k _ ι' H' (af3 eq ⟨⟨l1, ⟨paired_app pa pc, s'.gs, fun x => ?_⟩, .cons (fun _ h => by cases h) .nil⟩, st.sub fun x hx => ?_⟩)
                · have n' := s'.nd x
                  rw [e3] at n'
                  show cnt x (own (σ ++ [some (.ref D)]) (δ1 ++ [some (.ow (.lst ds))])) + cnt x ι' ≤ 1
                  rw [e4]
                  simp only [cnt, List.count_append] at n' ⊢
                  lia
                · have hx : x ∈ own (σ ++ [some (.ref D)]) (δ1 ++ [some (.ow (.lst ds))]) ++ ι' := hx
                  rw [e4] at hx
                  rw [e3]
                  simp only [List.mem_append] at hx ⊢
                  rcases hx with (hx | hx) | hx
                  · exact .inl (.inl (.inl hx))
                  · exact .inl (.inr hx)
                  · exact .inr hx
              · cases et
            | succ m =>
              unfold cTurns at et
              split at et
              · rename_i d hd
                obtain ⟨go, yl⟩ := wk.go (by lia) hd a.ar.l sb
                refine .inr ⟨go, by have := line100; lia, fun ys' H5 => i + 1 + m = w.n ∧ H5 D = some (.lst ys') ∧ ∃ ι5 G5 acc5, SR K κ ι5 H5 ((σ ++ tS es vs) ++ [some (.ref D)]) ((δ1 ++ tD es) ++ [some (.ow (.lst acc5))]) G5 ∧
                  Step ι (own σ δ ++ ι) H ι5 (own ((σ ++ tS es vs) ++ [some (.ref D)]) ((δ1 ++ tD es) ++ [some (.ow (.lst acc5))]) ++ ι5) H5 ∧ acc5.length ≤ i + 1 ∧ acc5.length = ys'.length ∧ cTurns w c tt te (inD ix δ1) (i + 1) m acc5 δ1 G5 = some (ds, G2), fun ys' H5 q => ⟨m, Nat.lt_succ_self _, q⟩, fun x H3 hy z => ?_⟩
                obtain ⟨sm, rx⟩ := yl x H3 hy
                split at et
                · rename_i dd hc
                  obtain ⟨hl, tg⟩ := hg z ι' H3 x d dd (inV ix σ) _ rx hc
                  refine tg fun xs rs => ?_
                  -- the block's own slots
                  have s3 := s'.same sm
                  have st3 := st.trans (Step.same (ι := ι') (fp := own ((σ ++ tS es vs) ++ [some (.ref D)]) ((δ1 ++ tD es) ++ [some (.ow (.lst acc))]) ++ ι') sm)
                  obtain ⟨p1, o1⟩ := ims_slots (κ := κ) rs
                  obtain ⟨p2, o2⟩ := inner ((s3.pop lo).pop a.ar.l) ix
                  have lx := Paired.length p1
                  have oin : own (xs.map some ++ inV ix σ) (dd.map (fun d => some (Vl.im d)) ++ inD ix δ1) = [] := by rw [own_app _ _ lx, o1, o2]; rfl
                  have sin : SR K κ ι' H3 (xs.map some ++ inV ix σ) (dd.map (fun d => some (Vl.im d)) ++ inD ix δ1) G' := ⟨paired_app p1 p2, s3.gs, fun y => by
                    rw [oin]; have := s3.nd y; simp only [cnt, List.count_nil] at *; lia⟩
                  have lin := sin.len
                  have both : SR K κ ι' H3 ((xs.map some ++ inV ix σ) ++ ((σ ++ tS es vs) ++ [some (.ref D)])) ((dd.map (fun d => some (Vl.im d)) ++ inD ix δ1) ++ ((δ1 ++ tD es) ++ [some (.ow (.lst acc))])) G' := ⟨paired_app sin.sl s3.sl, s3.gs, fun y => by
                    rw [own_app _ _ lin, oin]; have := s3.nd y; simpa using this⟩
                  have kn : KeepN n ix σ (xs.map some ++ inV ix σ) := by
                    have lxs : xs.length = n := by rw [List.length_map, List.length_map] at lx; lia
                    refine ⟨by rw [List.length_append, List.length_map]; unfold inV; rw [List.length_map, lxs], fun j v hj => ?_⟩
                    unfold inStN at hj
                    by_cases hjn : j < n
                    · rw [List.getElem?_append_left (by simpa using hjn), List.getElem?_replicate, if_pos hjn] at hj
                      cases hj
                    · rw [List.getElem?_append_right (by simp; lia)] at hj
                      rw [List.getElem?_append_right (by simp; lia)]
                      simp only [List.length_replicate, List.length_map, lxs] at hj ⊢
                      exact hj
                  refine ⟨kn, ?_⟩
                  -- the outer ones behind a step of the block
                  have jn : ∀ {σ5 : St} {δ5 : De} {θ5 : De} {τ5 : St} {G5 : List M} {ι5 : List Addr} {H5 : Hp}, σ5.length = δ5.length → SR K κ ι5 H5 (σ5 ++ τ5) (δ5 ++ θ5) G5 → Step ι' (own (xs.map some ++ inV ix σ) (dd.map (fun d => some (Vl.im d)) ++ inD ix δ1) ++ ι') H3 ι5 (own (σ5 ++ τ5) (δ5 ++ θ5) ++ ι5) H5 →
                      SR K κ ι5 H5 (((σ ++ tS es vs) ++ [some (.ref D)]) ++ τ5) (((δ1 ++ tD es) ++ [some (.ow (.lst acc))]) ++ θ5) G5 ∧ Step ι (own σ δ ++ ι) H ι5 (own (((σ ++ tS es vs) ++ [some (.ref D)]) ++ τ5) (((δ1 ++ tD es) ++ [some (.ow (.lst acc))]) ++ θ5) ++ ι5) H5 ∧ H5 D = some (.lst ys) := fun {σ5 δ5 θ5 τ5 G5 ι5 H5} l5 s5 st5 => by
                    obtain ⟨j1, j2⟩ := SR.join both lin s5 l5 st5
                    have lT : ((σ ++ tS es vs) ++ [some (V.ref D)]).length = ((δ1 ++ tD es) ++ [some (Vl.ow (.lst acc))]).length := s3.len
                    have lj : (((σ ++ tS es vs) ++ [some (V.ref D)]) ++ τ5).length = (((δ1 ++ tD es) ++ [some (Vl.ow (.lst acc))]) ++ θ5).length := by
                      have := j1.len; rw [List.length_append, List.length_append (as := δ5)] at this; lia
                    refine ⟨(j1.swap l5).pop lj, ?_, ?_⟩
                    · refine (st3.trans (j2.wide fun y hy => ?_)).sub fun y hy => ?_
                      · rw [own_app _ _ lin, oin] at hy; exact hy
                      · exact mem_swap (σ := σ5) (δ := δ5) l5 lj (own_sub lj hy)
                    · have q := sm _ _ hys
                      refine st5.keep D _ q fun hm => ?_
                      rw [oin] at hm
                      have n' := s3.nd D
                      rw [own_ow lo] at n'
                      have := cnt_pos.mp (show D ∈ ι' from hm)
                      have c1 : List.count D [D] = 1 := by simp
                      simp only [cnt, List.count_append] at *
                      lia
                  split at et
                  · rename_i δa Ga ea
                    refine ⟨ι', _, G', true, δa, Ga, sin, ea, fun ι4 H4 s4 st4 => ?_⟩
                    dsimp only
                    rw [if_pos rfl]
                    split at et
                    · rename_i y δb Gb eb
                      refine ⟨ι4, δa, Ga, _, δb, Gb, s4, eb, fun yv ι5 H5 a5 => ?_⟩
                      obtain ⟨j1, j2, j3⟩ := jn a5.ar.l a5.ar.sr (st4.trans a5.st)
                      refine ⟨j3, by lia, upd_same, ι5, Gb, acc ++ [y], ?_⟩
                      have ry : RpI K ι5 H5 yv y := a5.ar.im (j := 0) rfl rfl
                      have lT : ((σ ++ tS es vs) ++ [some (V.ref D)]).length = ((δ1 ++ tD es) ++ [some (Vl.ow (.lst acc))]).length := s3.len
                      have s6 := j1.pop lT
                      have i1 : ((σ ++ tS es vs) ++ [some (V.ref D)])[(σ ++ tS es vs).length]? = some (some (.ref D)) := by rw [List.getElem?_append_right (Nat.le_refl _), Nat.sub_self]; rfl
                      have i2 : ((δ1 ++ tD es) ++ [some (Vl.ow (.lst acc))])[(σ ++ tS es vs).length]? = some (some (.ow (.lst acc))) := by rw [lo, List.getElem?_append_right (Nat.le_refl _), Nat.sub_self]; rfl
                      obtain ⟨q1, q2⟩ := s6.poke i1 i2 (m' := .lst (acc ++ [y])) (o := .lst (ys ++ [yv])) (fun ρ kp => by
                        obtain ⟨zs, h1, h2⟩ := ρ
                        rw [j3] at h1; cases h1
                        exact ⟨_, upd_same, (h2.app (.cons ry .nil)).mono (Pre.refl _) kp⟩)
                      have e5 : ((δ1 ++ tD es) ++ [some (Vl.ow (.lst acc))]).set (σ ++ tS es vs).length (some (.ow (.lst (acc ++ [y])))) = (δ1 ++ tD es) ++ [some (.ow (.lst (acc ++ [y])))] := by rw [lo, List.set_append_right _ _ (Nat.le_refl _), Nat.sub_self]; rfl
                      rw [e5] at q1 q2
                      refine ⟨q1, (j2.sub fun w hw => own_sub lT hw).trans q2, by rw [List.length_append]; simp; lia, by rw [List.length_append, List.length_append]; simp; lia, et⟩
                    · cases et
                  · rename_i δa Ga ea
                    refine ⟨ι', _, G', false, δa, Ga, sin, ea, fun ι4 H4 s4 st4 => ?_⟩
                    dsimp only
                    rw [if_neg Bool.false_ne_true]
                    have s4' : SR K κ ι4 H4 ((xs.map some ++ inV ix σ) ++ []) (δa ++ []) Ga := by rw [List.append_nil, List.append_nil]; exact s4
                    obtain ⟨j1, j2, j3⟩ := jn (τ5 := []) (θ5 := []) s4.len s4' (by rw [List.append_nil, List.append_nil]; exact st4)
                    rw [List.append_nil, List.append_nil] at j1 j2
                    exact ⟨by lia, j3, ι4, Ga, acc, j1, j2, by lia, hay, et⟩
                  · cases et
                · cases et
              · cases et
        · cases eq
      · cases eq
    · cases eq
  · cases eq
end
end B
namespace B
open PySem L2
section
variable {κ : Str → Addr}    
noncomputable def putI (f : Str) (d : I) : List (Str × I) → List (Str × I)
  | [] => [(f, d)]
  | (g, x) :: r => if g = f then (g, d) :: r else (g, x) :: putI f d r
noncomputable def fldP (c f : Str) : List Ev → Mo Ev := fun es δ G => match es with
  | [.v (.im (.ref k))] => match G[k]? with
    | some (.obj c' fs) => if c' = c then match fs.lookup f with
      | some d => some (.v (.im d), δ, G)
      | none => none
      else none
    | _ => none
  | _ => none
/-- o.f = value -/
noncomputable def fldS (c f : Str) (fo fv : Mo Ev) : SF := fun δ G => match fv δ G with
  | some (.v (.im d), δ1, G1) => match fo δ1 G1 with
    | some (.v (.im (.ref k)), δ2, G2) => match G2[k]? with
      | some (.obj c' fs) => if c' = c ∧ fs.length < 1000 then some (.nx δ2 (G2.set k (.obj c (putI f d fs)))) else none
      | _ => none
    | _ => none
  | _ => none
noncomputable def methF (c m : Str) (n : Nat) (fn : FF) (fo : Mo Ev) (fa : Mo (List Ev)) : Mo Ev := bd fo fun e => fun δ G => match e with
  | .v (.im (.ref k)) => match G[k]? with
    | some (.obj c' fs) => if c' = c ∧ (fs.lookup m).isNone then bd fa (fun es => callP n fn (.v (.im (.ref k)) :: es)) δ G else none
    | _ => none
  | _ => none
noncomputable def makeP (c : Str) (n : Nat) (fn : FF) : List Ev → Mo Ev := fun es δ G => match vlA es with
  | some xs => if xs.length + 1 = n then match fn (.im (.ref G.length) :: xs) (G ++ [.obj c []]) with
    | some (.im .non, G') => some (.v (.im (.ref G.length)), δ, G')
    | _ => none
    else none
  | none => none
end
end B
namespace B
open PySem PySem.Spec PyProof.Rows L2
section
variable {X : Cx} {e : Expr} {es : List Expr} {st : Stmt} {sts : List Stmt}
theorem pe_imp (h : PE X e t) (k : ∀ σ H Q, t' σ H Q → t σ H Q) : PE X e t' := fun pins s σ H Q I q => h pins s σ H Q I (k σ H Q q)
theorem pt_imp (h : PT X e t) (k : ∀ σ H Q, t' σ H Q → t σ H Q) : PT X e t' := fun pins s σ H Q I q => h pins s σ H Q I (k σ H Q q)
theorem pw_imp (h : PW X e t) (k : ∀ σ H Q, t' σ H Q → t σ H Q) : PW X e t' := fun w pins s σ H Q I q => h w pins s σ H Q I (k σ H Q q)
theorem pa_imp (h : PA X es t) (k : ∀ σ H Q, t' σ H Q → t σ H Q) : PA X es t' := fun pos pins s σ H Q I q => h pos pins s σ H Q I (k σ H Q q)
theorem ps_imp {t t' : TS} (h : PS X st t) (k : ∀ D σ H, t' D σ H → t D σ H) : PS X st t' := fun pins s σ H D I q => h pins s σ H D I (k D σ H q)
theorem pss_imp (h : PSs X sts t) (k : ∀ D σ H, t' D σ H → t D σ H) : PSs X sts t' := fun pins s σ H D I q => h pins s σ H D I (k D σ H q)
theorem pi_imp  (h : PI X tg iter t) (k : ∀ σ H R, t' σ H R → t σ H R) : PI X tg iter t' := fun pins s σ H R I q => h pins s σ H R I (k σ H R q)
theorem pg_imp  (h : PG X tg t) (k : ∀ v σ H Q, t' v σ H Q → t v σ H Q) : PG X tg t' := fun pins s σ H v u Q I r q => h pins s σ H v u Q I r (k v σ H Q q)
theorem pe_or (h : PE X e t) (h' : PE X e t') : PE X e (fun σ H Q => t σ H Q ∨ t' σ H Q) := fun pins s σ H Q I q => q.elim (h pins s σ H Q I) (h' pins s σ H Q I)
theorem pt_or (h : PT X e t) (h' : PT X e t') : PT X e (fun σ H Q => t σ H Q ∨ t' σ H Q) := fun pins s σ H Q I q => q.elim (h pins s σ H Q I) (h' pins s σ H Q I)
theorem ps_or {t t' : TS} (h : PS X st t) (h' : PS X st t') : PS X st (fun D σ H => t D σ H ∨ t' D σ H) := fun pins s σ H D I q => q.elim (h pins s σ H D I) (h' pins s σ H D I)
theorem pi_or  (h : PI X tg iter t) (h' : PI X tg iter t') : PI X tg iter (fun σ H R => t σ H R ∨ t' σ H R) := fun pins s σ H R I q => q.elim (h pins s σ H R I) (h' pins s σ H R I)
end
section
variable {X : Cx} {κ : Str → Addr} {a b c : Expr} {fa fb fv : Mo Ev} {fc fd : Mo Bool} {fs : Mo (List Ev)} {es : List Expr} {pos : Pos}
@[irreducible] noncomputable def LE (X : Cx) (κ : Str → Addr) (e : Expr) (f : Mo Ev) : Prop := PE X e (UpE X.K κ f)
theorem LE.mk   (h : PE X e (UpE X.K κ f)) : LE X κ e f := by unfold LE; exact h
theorem LE.pe   (h : LE X κ e f) : PE X e (UpE X.K κ f) := by unfold LE at h; exact h
@[irreducible] noncomputable def LT (X : Cx) (κ : Str → Addr) (e : Expr) (f : Mo Bool) : Prop := PT X e (UpT X.K κ f)
theorem LT.mk   (h : PT X e (UpT X.K κ f)) : LT X κ e f := by unfold LT; exact h
theorem LT.pe   (h : LT X κ e f) : PT X e (UpT X.K κ f) := by unfold LT at h; exact h
@[irreducible] noncomputable def LW (X : Cx) (κ : Str → Addr) (e : Expr) (f : Mo Bool) : Prop := PW X e (UpT X.K κ f)
theorem LW.mk   (h : PW X e (UpT X.K κ f)) : LW X κ e f := by unfold LW; exact h
theorem LW.pe   (h : LW X κ e f) : PW X e (UpT X.K κ f) := by unfold LW at h; exact h
@[irreducible] noncomputable def LA (X : Cx) (κ : Str → Addr) (es : List Expr) (f : Mo (List Ev)) : Prop := PA X es (UpA X.K κ f)
theorem LA.mk   (h : PA X es (UpA X.K κ f)) : LA X κ es f := by unfold LA; exact h
theorem LA.pe   (h : LA X κ es f) : PA X es (UpA X.K κ f) := by unfold LA at h; exact h
@[irreducible] noncomputable def LS (X : Cx) (κ : Str → Addr) (s : Stmt) (f : SF) : Prop := PS X s (UpS X.K κ f)
theorem LS.mk   (h : PS X s (UpS X.K κ f)) : LS X κ s f := by unfold LS; exact h
theorem LS.pe   (h : LS X κ s f) : PS X s (UpS X.K κ f) := by unfold LS at h; exact h
@[irreducible] noncomputable def LSs (X : Cx) (κ : Str → Addr) (s : List Stmt) (f : SF) : Prop := PSs X s (UpS X.K κ f)
theorem LSs.mk   (h : PSs X s (UpS X.K κ f)) : LSs X κ s f := by unfold LSs; exact h
theorem LSs.pe   (h : LSs X κ s f) : PSs X s (UpS X.K κ f) := by unfold LSs at h; exact h
@[irreducible] noncomputable def LI (X : Cx) (κ : Str → Addr) (tg e : Expr) (f : IF) : Prop := PI X tg e (UpI X.K κ f)
theorem LI.mk   (h : PI X tg e (UpI X.K κ f)) : LI X κ tg e f := by unfold LI; exact h
theorem LI.pe   (h : LI X κ tg e f) : PI X tg e (UpI X.K κ f) := by unfold LI at h; exact h
@[irreducible] noncomputable def LG (X : Cx) (κ : Str → Addr) (tg : Expr) (f : GF) : Prop := PG X tg (UpG X.K κ f)
theorem LG.mk   (h : PG X tg (UpG X.K κ f)) : LG X κ tg f := by unfold LG; exact h
theorem LG.pe   (h : LG X κ tg f) : PG X tg (UpG X.K κ f) := by unfold LG at h; exact h
theorem e_var (i : Nat) (hN : X.N[i]? = some x := by rfl) (hv : Vis X.env.scope x := by first | exact Or.inl rfl | exact Or.inr (Or.inl rfl) | exact Or.inr (Or.inr rfl)) (hd : (x == ("__debug__" : Str)) = false := by decide)
    (hcd : (x == ("__classdict__" : Str)) = false := by decide) : LE X κ (.Name x pos) (varF i) := .mk (pe_imp (pe_var hN hv hd hcd) fun _ _ _ => up_var)
theorem e_int {j pos} : LE X κ (.Constant (.int i) j pos) (conF (.int i)) := .mk (pe_imp pe_int fun _ _ _ => up_con fun _ _ => .int _)
theorem e_bl {j pos} : LE X κ (.Constant (.bool i) j pos) (conF (.bl i)) := .mk (pe_imp pe_bl fun _ _ _ => up_con fun _ _ => .bl _)
theorem e_non {j pos} : LE X κ (.Constant .none j pos) (conF .non) := .mk (pe_imp pe_non fun _ _ _ => up_con fun _ _ => .non)
theorem e_str {j pos} : LE X κ (.Constant (.str x) j pos) (conF (.str x)) := .mk (pe_imp pe_str fun _ _ _ => up_con fun _ _ => .str _)
theorem e_glob   (hg : Gl X x) (hm : X.mg x = some u) (r : RelV v u) (rd : ∀ ι H, RpI X.K ι H v d) (hd : (x == ("__debug__" : Str)) = false := by decide) : LE X κ (.Name x pos) (conF d) := .mk (pe_imp (pe_glob hg hm r hd) fun _ _ _ => up_con rd)
theorem e_box (h : LE X κ a fa) : LE X κ a (boxF fa) := .mk (pe_imp h.pe fun _ _ _ => up_box)
theorem a_nil : LA X κ [] nilF := .mk (pa_imp pa_nil fun _ _ _ => upA_nil)
theorem a_cons (h : LE X κ a fa) (r : LA X κ es fs) (hs : starEach (a :: es) X.env = (false, eval a X.env) :: starEach es X.env := by rfl) : LA X κ (a :: es) (consF fa fs) := .mk (pa_imp (pa_cons h.pe r.pe hs) fun _ _ _ => upA_cons)
theorem e_op  (ho : OpR X (binaryOp op) r) (hp : Prim X.K κ (r2 r) p) (ha : LE X κ a fa) (hb : LE X κ b fb) : LE X κ (.BinOp a op b pos) (opF p fa fb) := .mk (pe_imp (pe_op ho ha.pe hb.pe) fun _ _ _ => up_op hp)
theorem e_un  (ho : UnR X (unaryOp op) r) (hp : Prim X.K κ (r1 r) p) (ha : LE X κ a fa) : LE X κ (.UnaryOp op a pos) (unF p fa) := .mk (pe_imp (pe_un ho ha.pe) fun _ _ _ => up_un hp)
theorem e_cmpR  (ho : OpR X (compareOp op) r) (hp : Prim X.K κ (r2 r) p) (ha : LE X κ a fa) (hb : LE X κ b fb) (hm : behindInMarks op b = false) : LE X κ (.Compare a [op] [b] pos) (opF p fa fb) := .mk (pe_imp (pe_cmpR ho ha.pe hb.pe hm) fun _ _ _ => up_op hp)
theorem t_cmpR  (ho : OpR X (compareOp op) r) (hp : Prim X.K κ (r2 r) p) (ha : LE X κ a fa) (hb : LE X κ b fb) (hm : behindInMarks op b = false) : LT X κ (.Compare a [op] [b] pos) (tstF (opF p fa fb)) := .mk (pt_imp (pt_cmpR ho ha.pe hb.pe hm) fun σ H Q h => up_op hp (up_test h))
theorem e_tup {x1} (h : LA X κ es fs) : LE X κ (.Tuple es x1 pos) (bd fs tupP) := .mk (pe_imp (pe_tup h.pe) fun _ _ _ q => up_args prim_tup q)
theorem e_lst (h : LA X κ es fs) : LE X κ (.List es pos) (bd fs lstP) := .mk (pe_imp (pe_lst h.pe) fun _ _ _ q => up_args prim_lst q)
theorem t_w (h : LW X κ a fc) : LT X κ a fc := .mk (h.pe.pt)
theorem w_and1 (h : LT X κ a fc) : LW X κ (.BoolOp .And [a] pos) fc := .mk (pw_and1 h.pe)
theorem w_or1 (h : LT X κ a fc) : LW X κ (.BoolOp .Or [a] pos) fc := .mk (pw_or1 h.pe)
theorem w_and {rest : List Expr} (h : LT X κ a fc) (k : LW X κ (.BoolOp .And (b :: rest) pos) fd) : LW X κ (.BoolOp .And (a :: b :: rest) pos) (andF fc fd) := .mk (pw_imp (pw_and h.pe k.pe) fun _ _ _ => up_and)
theorem w_or {rest : List Expr} (h : LT X κ a fc) (k : LW X κ (.BoolOp .Or (b :: rest) pos) fd) : LW X κ (.BoolOp .Or (a :: b :: rest) pos) (orF fc fd) := .mk (pw_imp (pw_or h.pe k.pe) fun _ _ _ => up_or)
theorem t_not (h : LT X κ a fc) : LT X κ (.UnaryOp .Not a pos) (notF fc) := .mk (pt_imp (pt_not h.pe) fun _ _ _ => up_not)
/-- a value's truth -/
noncomputable def truE : Ev → Mo Bool := fun e δ G => match e with
  | .v (.im .non) => some (false, δ, G)
  | .v (.im (.bl b)) => some (b, δ, G)
  | .v (.im (.int i)) => some (i != 0, δ, G)
  | .v (.im (.str y)) => if y.length ≤ 1000000 then some ((y.length : Int) != 0, δ, G) else none
  | e => match pk δ G e with
    | some (.dic kvs) => some (!kvs.isEmpty, δ, G)
    | _ => match sq δ G e with
      | some xs => some (!xs.isEmpty, δ, G)
      | none => none
theorem isE {K : PySem.W.Frag} {ι : List Addr} {H : Hp} {vs : List V} {xs : List I} (r : RpIs K ι H vs xs) : (!xs.isEmpty) = !vs.isEmpty := by cases r <;> rfl
theorem tru_of {K : PySem.W.Frag} {e : Ev} {c : Bool} (a : Args K κ ι H σ δ G [e] [v]) (h : truE e δ G = some (c, δ', G')) : TruV K v H c ∧ δ' = δ ∧ G' = G := by
  have seqs : ∀ {xs : List I}, sq δ G e = some xs → TruV K v H (!xs.isEmpty) := fun hx => by
    obtain ⟨b, ys, e2, h2, r⟩ := a.sq (j := 0) rfl rfl hx
    subst e2
    rw [isE r]
    rcases h2 with h2 | h2
    · exact .inl ⟨ys, h2, rfl⟩
    · exact .inr (.inl ⟨ys, h2, rfl⟩)
  unfold truE at h
  split at h
  · cases h; cases rpNon (a.im (j := 0) rfl rfl); exact ⟨rfl, rfl, rfl⟩
  · cases h; cases rpBl (a.im (j := 0) rfl rfl); exact ⟨rfl, rfl, rfl⟩
  · cases h; cases rpInt (a.im (j := 0) rfl rfl); exact ⟨rfl, rfl, rfl⟩
  · split at h
    · rename_i y hy
      cases h; cases rpStr (a.im (j := 0) rfl rfl)
      exact ⟨⟨Nat.le_trans hy (by decide), rfl⟩, rfl, rfl⟩
    · cases h
  · split at h
    · rename_i kvs hp
      cases h
      obtain ⟨b, e2, ws, h1, h2, h3⟩ := a.pk (j := 0) rfl rfl hp
      subst e2
      refine ⟨.inr (.inr ⟨ws, h1, ?_⟩), rfl, rfl⟩
      have := congrArg List.length h2
      simp at this
      cases kvs <;> cases ws <;> simp_all
    · split at h
      · rename_i xs hx
        cases h
        exact ⟨seqs hx, rfl, rfl⟩
      · cases h
theorem up_tru {K : PySem.W.Frag} {f : Mo Ev} {σ : L2.St} {H : Hp} {Q : Bool → Hp → Prop} (h : UpT K κ (bd f truE) σ H Q) : UpE K κ f σ H fun x H' => ∃ k, TruV K x H' k ∧ Q k H' := by
  obtain ⟨ι, δ, G, t, δ', G', s, eq, k⟩ := h
  obtain ⟨x, δ1, G1, e1, eq⟩ := bd_inv eq
  refine ⟨ι, δ, G, x, δ1, G1, s, e1, fun v ι1 H1 a => ?_⟩
  obtain ⟨p, q⟩ := a.drop
  obtain ⟨h1, rfl, rfl⟩ := tru_of a.ar eq
  exact ⟨_, h1, k _ _ p q⟩
theorem t_tru (h : LE X κ a fa) (he : ∀ whole, isTrue a X.env whole = (do let v ← whole; standAt a.pos; holding [v] (truthy v)) := by intro _; rfl) : LT X κ a (bd fa truE) := .mk (pt_imp (pt_truth h.pe he) fun _ _ _ q => up_tru q)
noncomputable def isP : List Ev → Mo Ev := fun es δ G => match es with
  | [.v (.im .non)] => some (.v (.im (.bl true)), δ, G)
  | [_] => some (.v (.im (.bl false)), δ, G)
  | _ => none
theorem Args.nn {K : PySem.W.Frag} {ι : List Addr} {H : Hp} {σ : L2.St} {δ : De} {G : List M} {e : Ev} {v : V} (a : Args K κ ι H σ δ G [e] [v]) (h : e ≠ .v (.im .non)) (hs : ∀ i, e = .s i → ∃ m, δ[i]? = some (some (.ow m))) : v ≠ .non := by
  cases e with
  | s i =>
    obtain ⟨m, hm⟩ := hs i rfl
    obtain ⟨b, e1, r⟩ := a.base.get_ow hm
    have al := al_at (j := 0) a.al rfl rfl
    rw [al] at e1; cases e1
    intro z; cases z
  | v x =>
    cases x with
    | ow m =>
      have r := tsd (paired_split a.l a.sr.sl).2 (j := 0) rfl rfl
      cases r
      intro z; cases z
    | im d =>
      have r := a.im (j := 0) rfl rfl
      cases r <;> first | exact absurd rfl h | (intro z; cases z)
noncomputable def slOk (δ : De) : Ev → Bool
  | .s i => match δ[i]? with
    | some (some (.ow _)) => true
    | _ => false
  | _ => true
theorem slOk_of  (h : slOk δ e = true) : ∀ i, e = .s i → ∃ m, δ[i]? = some (some (.ow m)) := by
  intro i hi
  subst hi
  unfold slOk at h
  dsimp only at h
  split at h
  · rename_i m hm; exact ⟨m, hm⟩
  · cases h
noncomputable def isQ (pos : Bool) : List Ev → Mo Ev := fun es δ G => match es with
  | [.v (.im .non)] => some (.v (.im (.bl pos)), δ, G)
  | [e] => if slOk δ e then some (.v (.im (.bl (!pos))), δ, G) else none
  | _ => none
theorem prim_is {K : PySem.W.Frag} : Prim K κ (r1 fun x H1 Q => Q (.bl (decide (x = .non))) H1) (isQ true) := by
  intro ι H σ δ G es vs e δ' G' Q a h k
  unfold isQ at h
  split at h
  · obtain ⟨v, rfl⟩ := len1 a.len
    cases rpNon (a.im (j := 0) rfl rfl)
    exact ⟨_, rfl, k _ _ _ (af3 h (fin_im a (.bl _)))⟩
  · rename_i e0 hne
    split at h
    · rename_i hs
      obtain ⟨v, rfl⟩ := len1 a.len
      have n := a.nn (fun z => hne (by rw [z])) (slOk_of hs)
      refine ⟨_, rfl, ?_⟩
      dsimp only
      rw [decide_eq_false n]
      exact k _ _ _ (af3 h (fin_im a (.bl _)))
    · cases h
  · cases h
theorem prim_isn {K : PySem.W.Frag} : Prim K κ (r1 fun x H1 Q => Q (.bl (!decide (x = .non))) H1) (isQ false) := by
  intro ι H σ δ G es vs e δ' G' Q a h k
  unfold isQ at h
  split at h
  · obtain ⟨v, rfl⟩ := len1 a.len
    cases rpNon (a.im (j := 0) rfl rfl)
    exact ⟨_, rfl, k _ _ _ (af3 h (fin_im a (.bl _)))⟩
  · rename_i e0 hne
    split at h
    · rename_i hs
      obtain ⟨v, rfl⟩ := len1 a.len
      have n := a.nn (fun z => hne (by rw [z])) (slOk_of hs)
      refine ⟨_, rfl, ?_⟩
      dsimp only
      rw [decide_eq_false n]
      exact k _ _ _ (af3 h (fin_im a (.bl _)))
    · cases h
  · cases h
theorem t_is {j pos'} (h : LE X κ a fa) : LT X κ (.Compare a [.Is] [.Constant .none j pos'] pos) (tstF (unF (isQ true) fa)) := .mk (pt_imp (pt_cmp (pc_isN h.pe)) fun _ _ _ q => up_un prim_is (up_test q))
theorem t_isn {j pos'} (h : LE X κ a fa) : LT X κ (.Compare a [.IsNot] [.Constant .none j pos'] pos) (tstF (unF (isQ false) fa)) := .mk (pt_imp (pt_cmp (pc_notN h.pe)) fun _ _ _ q => up_un prim_isn (up_test q))
variable {s : Stmt} {ss ss2 : List Stmt} {f g : SF}
theorem ss_nil : LSs X κ [] skipF := .mk (pss_imp pss_nil fun _ _ _ => up_skip)
theorem ss_one (h : LS X κ s f) : LSs X κ [s] f := .mk (pss_one h.pe)
theorem ss_cons (h : LS X κ s f) (r : LSs X κ ss g) : LSs X κ (s :: ss) (seqF f g) := .mk (pss_imp (pss_cons h.pe r.pe) fun _ _ _ => up_seq)
theorem s_ret (h : LE X κ a fa) : LS X κ (.Return (some a) pos) (retF fa) := .mk (ps_imp (ps_ret h.pe) fun _ _ _ => up_ret)
theorem s_expr (h : LE X κ a fa) (hs : swapsWith a none pos.line X.env = pure false := by rfl) : LS X κ (.Expr a pos) (dropF fa) := .mk (ps_imp (ps_expr h.pe hs) fun _ _ _ => up_drop)
theorem s_if (hc : LT X κ c fc) (ha : LSs X κ ss f) (hb : LSs X κ ss2 g) : LS X κ (.If c ss ss2 pos) (iteF' fc f g) := .mk (ps_imp (ps_if hc.pe ha.pe hb.pe) fun _ _ _ => up_if)
theorem s_while (hc : LT X κ c fc) (hb : LSs X κ ss f) (hp : PassesOwn (model X.prog X.w) X.A X.env X.xe := by exact PassesOwn.never) : LS X κ (.While c ss [] pos) (whF fc f) := .mk (ps_imp (ps_while hp hc.pe hb.pe) fun _ _ _ => up_while)
theorem s_for  (hi : LI X κ tg it fi) (hg : LG X κ tg gf) (hb : LSs X κ ss f) (hc : X.calm = true := by rfl) (hp : PassesOwn (model X.prog X.w) X.A X.env X.xe := by exact PassesOwn.never) (hs : ∀ x, foldedSetIterable it X.env x = pure x := by intro _; rfl) : LS X κ (.For tg it ss [] pos) (forF fi gf f) := .mk (ps_imp (ps_for hp hc hi.pe hg.pe hb.pe hs) fun _ _ _ => up_for)
theorem g_nm  (hN : X.N.Nodup) (hi : X.N[i]? = some x := by rfl) (hx : Loc X.env.scope x := by first | exact Or.inl rfl | exact Or.inr rfl) (hf : X.fn x = true ∨ X.env.scope.names.lookup x = some .local := by first | exact .inl rfl | exact .inr rfl | assumption) : LG X κ (.Name x p) (gNm i) := .mk (pg_imp (pg_name hN hi hx hf) fun _ _ _ _ => up_gnm)
end
end B
namespace B
open PySem PySem.Spec PyProof.Rows L2
section
variable {X : Cx} {K : PySem.W.Frag} {κ : Str → Addr}
noncomputable def intP (f : Int → Int → Option I) : List Ev → Mo Ev := fun es δ G => match es with
  | [.v (.im (.int i)), .v (.im (.int j))] => match f i j with
    | some d => some (.v (.im d), δ, G)
    | none => none
  | _ => none
theorem prim_rI {C : Int → Int → Prop} {g : Int → Int → V} {f : Int → Int → Option I} (hf : ∀ i j d, f i j = some d → C i j ∧ ∀ ι H, RpI K ι H (g i j) d) : Prim K κ (r2 (rI C g)) (intP f) := by
  intro ι H σ δ G es vs e δ' G' Q a h k
  unfold intP at h
  split at h
  · rename_i i j
    split at h
    · rename_i d hd
      obtain ⟨v, u, rfl⟩ := len2 a.len
      cases rpInt (a.im (j := 0) rfl rfl)
      cases rpInt (a.im (j := 1) rfl rfl)
      obtain ⟨c, r⟩ := hf i j d hd
      exact ⟨_, _, rfl, i, j, rfl, rfl, c, k _ _ _ (af3 h (fin_im a (r ι H)))⟩
    · cases h
  · cases h
theorem prim_rI0 {g : Int → Int → V} {f : Int → Int → Option I} (hf : ∀ i j d, f i j = some d → ∀ ι H, RpI K ι H (g i j) d) : Prim K κ (r2 (rI0 g)) (intP f) := by
  intro ι H σ δ G es vs e δ' G' Q a h k
  obtain ⟨x, y, e1, i, j, e2, e3, _, q⟩ := prim_rI (fun i j d hd => ⟨trivial, hf i j d hd⟩) ι H σ δ G es vs e δ' G' Q a h k
  exact ⟨x, y, e1, i, j, e2, e3, q⟩
theorem Prim.or {r r' : R2} {p p' : List Ev → Mo Ev} (h : Prim K κ (r2 r) p) (h' : Prim K κ (r2 r') p') : Prim K κ (r2 fun x y H Q => r x y H Q ∨ r' x y H Q) (fun es δ G => match p es δ G with | some z => some z | none => p' es δ G) := by
  intro ι H σ δ G es vs e δ' G' Q a hp k
  dsimp only at hp
  split at hp
  · rename_i z hz
    cases hp
    obtain ⟨x, y, e1, q⟩ := h ι H σ δ G es vs _ _ _ Q a hz k
    exact ⟨x, y, e1, .inl q⟩
  · obtain ⟨x, y, e1, q⟩ := h' ι H σ δ G es vs _ _ _ Q a hp k
    exact ⟨x, y, e1, .inr q⟩
noncomputable def orP (p p' : List Ev → Mo Ev) : List Ev → Mo Ev := fun es δ G => match p es δ G with | some z => some z | none => p' es δ G
noncomputable def catS : List Ev → Mo Ev := fun es δ G => match es with
  | [.v (.im (.str x)), .v (.im (.str y))] => if x.length + y.length ≤ 1000000 then some (.v (.im (.str (x ++ y))), δ, G) else none
  | _ => none
theorem prim_catS : Prim K κ (r2 fun x y H Q => ∃ i j, x = .str i ∧ y = .str j ∧ i.length + j.length ≤ sizeLine ∧ Q (.str (i ++ j)) H) catS := by
  intro ι H σ δ G es vs e δ' G' Q a h k
  unfold catS at h
  split at h
  · rename_i i j
    split at h
    · rename_i hl
      obtain ⟨v, u, rfl⟩ := len2 a.len
      cases rpStr (a.im (j := 0) rfl rfl)
      cases rpStr (a.im (j := 1) rfl rfl)
      exact ⟨_, _, rfl, i, j, rfl, rfl, Nat.le_trans hl (by decide), k _ _ _ (af3 h (fin_im a (.str _)))⟩
    · cases h
  · cases h
noncomputable def rCatTT (K : PySem.W.Frag) : R2 := fun x y H Q => ∃ a b xs ys, x = .ref a ∧ y = .ref b ∧ SqT K H a xs ∧ SqT K H b ys ∧ xs.length + ys.length ≤ sizeLine ∧
  (xs = [] → Q (.ref b) H) ∧ (xs ≠ [] → ys = [] → Q (.ref a) H) ∧ (xs ≠ [] → ys ≠ [] → ∀ p, H p = none → Q (.ref p) (upd H p (.tup (xs ++ ys))))
theorem op_catTT : OpR X (binaryOp .Add) (rCatTT X.K) := by
  intro pins s σ H x y v u Q I rx ry h
  obtain ⟨a, b, xs, ys, rfl, rfl, ha, hb, hz, q0, q1, q2⟩ := h
  by_cases hx : xs = []
  · cases rx
    cases ry
    obtain ⟨its, r1, p1, _⟩ := I.tuple ha
    obtain ⟨its2, r2, p2, _⟩ := I.tuple hb
    have hi : its = [] := r1.nil_iff.mpr hx
    obtain ⟨⟨cls, dd, data, sl⟩, ho, hc, n, hd⟩ := id p1
    obtain ⟨⟨cls2, dd2, data2, sl2⟩, ho2, hc2, n2, hd2⟩ := id p2
    simp only at hc hd hc2 hd2
    subst hc hd hc2 hd2
    exact concat_meets ⟨_, ho, rfl⟩ ⟨_, ho2, rfl⟩ noFill_tuple_add seq_tuple_add PySem.F.slot_tuple_add PySem.F.entry_tuple_add (PySem.F.args_tuple_add_2 _ _)
      (tuple_addW0 a b its.toArray its2.toArray n n2 dd dd2 sl sl2 (by simp [hi])) ⟨ho, ho2, ⟨.ref b, H, I, rfl, q0 hx⟩⟩
  · exact op_catT pins s σ H _ _ v u Q I rx ry ⟨a, b, xs, ys, rfl, rfl, ha, hb, hx, hz, q1 hx, q2 hx⟩
noncomputable def catT : List Ev → Mo Ev := fun es δ G => match es with
  | [.v (.im (.tup xs)), .v (.im (.tup ys))] => if xs.length + ys.length ≤ 1000000 then some (.v (.im (.tup (xs ++ ys))), δ, G) else none
  | _ => none
theorem prim_catT : Prim K κ (r2 (rCatTT K)) catT := by
  intro ι H σ δ G es vs e δ' G' Q a h k
  unfold catT at h
  split at h
  · rename_i xs ys
    split at h
    · rename_i hl
      obtain ⟨v, u, rfl⟩ := len2 a.len
      have ra := a.im (j := 0) rfl rfl
      have rb := a.im (j := 1) rfl rfl
      cases ra with
      | @tup p vs1 _ h1 r1 =>
        cases rb with
        | @tup q vs2 _ h2 r2 =>
          have l1 := r1.len
          have l2 := r2.len
          refine ⟨_, _, rfl, p, q, vs1, vs2, rfl, rfl, SqT.of h1, SqT.of h2, Nat.le_trans (by lia) (show 1000000 ≤ sizeLine by decide), fun e => ?_, fun _ e => ?_, fun _ _ p' hp => ?_⟩
          · subst e
            cases r1
            exact k _ _ _ (af3 h (fin_im a (.tup h2 r2)))
          · subst e
            cases r2
            exact k _ _ _ (af3 h (fin_im a (by rw [List.append_nil]; exact .tup h1 r1)))
          · exact k _ _ _ (af3 h (fin_tup a hp (r1.app r2)))
    · cases h
  · cases h
noncomputable def catL : List Ev → Mo Ev := fun es δ G => match es with
  | [a, b] => match pk δ G a, pk δ G b with
    | some (.lst xs), some (.lst ys) => if xs.length + ys.length ≤ 1000000 then some (.v (.ow (.lst (xs ++ ys))), δ, G) else none
    | _, _ => none
  | _ => none
theorem prim_catL : Prim K κ (r2 rCat) catL := by
  intro ι H σ δ G es vs e δ' G' Q a h k
  unfold catL at h
  split at h
  · rename_i x y
    split at h
    · rename_i xs ys hx hy
      split at h
      · rename_i hl
        obtain ⟨v, u, rfl⟩ := len2 a.len
        obtain ⟨p, e1, vs1, h1, r1⟩ := a.pk (j := 0) rfl rfl hx
        obtain ⟨q, e2, vs2, h2, r2⟩ := a.pk (j := 1) rfl rfl hy
        subst e1; subst e2
        have l1 := r1.len
        have l2 := r2.len
        exact ⟨_, _, rfl, p, q, vs1, vs2, rfl, rfl, h1, h2, Nat.le_trans (by lia) (show 1000000 ≤ sizeLine by decide), fun p' hp => k _ _ _ (af3 h (fin_lst a hp (r1.app r2)))⟩
      · cases h
    · cases h
  · cases h
noncomputable def addI : List Ev → Mo Ev := intP fun i j => some (.int (i + j))
noncomputable def addP : List Ev → Mo Ev := orP addI (orP catS (orP catT catL))
theorem q_add  (hr : Room k A) : OpR X (binaryOp .Add) (fun x y H Q => rI0 (fun i j => .int (i + j)) x y H Q ∨ ((∃ i j, x = .str i ∧ y = .str j ∧ i.length + j.length ≤ sizeLine ∧ Q (.str (i ++ j)) H) ∨ (rCatTT X.K x y H Q ∨ rCat x y H Q))) :=
  op_add.or (op_add_str.or (op_catTT.or op_cat))
theorem p_add : Prim K κ (r2 fun x y H Q => rI0 (fun i j => .int (i + j)) x y H Q ∨ ((∃ i j, x = .str i ∧ y = .str j ∧ i.length + j.length ≤ sizeLine ∧ Q (.str (i ++ j)) H) ∨ (rCatTT K x y H Q ∨ rCat x y H Q))) addP :=
  Prim.or (prim_rI0 fun i j d h ι H => by cases h; exact .int _) (Prim.or prim_catS (Prim.or prim_catT prim_catL))
noncomputable def subP : List Ev → Mo Ev := intP fun i j => some (.int (i - j))
theorem q_sub  (hr : Room k A) : OpR X (binaryOp .Sub) (rI0 fun i j => .int (i - j)) := op_sub
theorem p_sub : Prim K κ (r2 (rI0 fun i j => .int (i - j))) subP := prim_rI0 fun i j d h ι H => by cases h; exact .int _
noncomputable def mulI : List Ev → Mo Ev := intP fun i j => if (-(2 ^ 64) < i ∧ i < 2 ^ 64) ∨ (-(2 ^ 64) < j ∧ j < 2 ^ 64) then some (.int (i * j)) else none
noncomputable def repL : List Ev → Mo Ev := fun es δ G => match es with
  | [a, .v (.im (.int j))] => match pk δ G a with
    | some (.lst xs) => if 0 ≤ j ∧ j ≤ 1000 ∧ xs.length ≤ 1000 then some (.v (.ow (.lst (List.replicate j.toNat xs).flatten)), δ, G) else none
    | _ => none
  | _ => none
theorem RpIs.rep {ι : List Addr} {H : Hp} {vs : List V} {xs : List I} (r : RpIs K ι H vs xs) : ∀ n : Nat, RpIs K ι H (List.replicate n vs).flatten (List.replicate n xs).flatten
  | 0 => .nil
  | n + 1 => by rw [List.replicate_succ, List.replicate_succ, List.flatten_cons, List.flatten_cons]; exact r.app (RpIs.rep r n)
theorem prim_repL : Prim K κ (r2 rRep) repL := by
  intro ι H σ δ G es vs e δ' G' Q a h k
  unfold repL at h
  split at h
  · rename_i x j
    split at h
    · rename_i xs hx
      split at h
      · rename_i hl
        obtain ⟨v, u, rfl⟩ := len2 a.len
        obtain ⟨p, e1, vs1, h1, r1⟩ := a.pk (j := 0) rfl rfl hx
        cases rpInt (a.im (j := 1) rfl rfl)
        subst e1
        have l1 := r1.len
        refine ⟨_, _, rfl, p, j, vs1, rfl, rfl, h1, by lia, by lia, Nat.le_trans (Nat.mul_le_mul (show vs1.length ≤ 1000 by lia) (show j.toNat ≤ 1000 by lia)) (show 1000 * 1000 ≤ sizeLine by decide), fun p' hp => k _ _ _ (af3 h (fin_lst a hp (r1.rep _)))⟩
      · cases h
    · cases h
  · cases h
noncomputable def repS : List Ev → Mo Ev := fun es δ G => match es with
  | [.v (.im (.str z)), .v (.im (.int j))] => if 0 ≤ j ∧ j ≤ 1000 ∧ z.length ≤ 1000 then some (.v (.im (.str (PySem.Txt.mul z j))), δ, G) else none
  | _ => none
noncomputable def rRepS : R2 := fun x y H Q => ∃ z n, x = .str z ∧ y = .int n ∧ MulOk z n ∧ Q (.str (PySem.Txt.mul z n)) H
theorem mulOk_of  (h : 0 ≤ j ∧ j ≤ 1000 ∧ z.length ≤ 1000) : MulOk z j := by
  obtain ⟨h0, h1, h2⟩ := h
  have hb : (z.length : Int) * j ≤ 1000 * 1000 := Int.mul_le_mul (by lia) h1 h0 (by lia)
  have hn : z.length * j.toNat ≤ 1000 * 1000 := Nat.mul_le_mul h2 (by lia)
  refine ⟨by simp only [Bool.or_eq_false_iff, decide_eq_false_iff_not]; lia, fun h3 _ h4 => ?_, fun _ _ => ?_⟩
  · have := (Int.le_ediv_iff_mul_le (c := j) (a := (z.length : Int)) (b := 2 ^ 63 - 1) (by lia)).mpr (by lia)
    lia
  · exact decide_eq_false (by have : (1000 * 1000 : Nat) ≤ sizeLine := by decide
                              lia)
theorem prim_repS : Prim K κ (r2 rRepS) repS := by
  intro ι H σ δ G es vs e δ' G' Q a h k
  unfold repS at h
  split at h
  · rename_i z j
    split at h
    · rename_i hl
      obtain ⟨v, u, rfl⟩ := len2 a.len
      cases rpStr (a.im (j := 0) rfl rfl)
      cases rpInt (a.im (j := 1) rfl rfl)
      exact ⟨_, _, rfl, z, j, rfl, rfl, mulOk_of hl, k _ _ _ (af3 h (fin_im a (.str _)))⟩
    · cases h
  · cases h
noncomputable def mulP : List Ev → Mo Ev := orP mulI (orP repL repS)
theorem q_mul  (hr : Room k A) : OpR X (binaryOp .Mult) (fun x y H Q => rI CMul (fun i j => .int (i * j)) x y H Q ∨ (rRep x y H Q ∨ rRepS x y H Q)) := op_mul.or (op_rep.or op_mul_str)
theorem p_mul : Prim K κ (r2 fun x y H Q => rI CMul (fun i j => .int (i * j)) x y H Q ∨ (rRep x y H Q ∨ rRepS x y H Q)) mulP := Prim.or (prim_rI fun i j d h => by
  split at h
  · rename_i c; cases h; exact ⟨c, fun ι H => .int _⟩
  · cases h) (Prim.or prim_repL prim_repS)
noncomputable def fdivP : List Ev → Mo Ev := intP fun i j => if 0 < j ∧ j < 2 ^ 200 then some (.int (i / j)) else none
theorem q_fdiv  (hr : Room k A) : OpR X (binaryOp .FloorDiv) (rI (fun _ j => 0 < j ∧ j < 2 ^ 200) fun i j => .int (i / j)) := op_fdivB
theorem p_fdiv : Prim K κ (r2 (rI (fun _ j => 0 < j ∧ j < 2 ^ 200) fun i j => .int (i / j))) fdivP := prim_rI fun i j d h => by
  split at h
  · rename_i c; cases h; exact ⟨c, fun ι H => .int _⟩
  · cases h
noncomputable def modP : List Ev → Mo Ev := intP fun i j => if 0 < j then some (.int (i % j)) else none
theorem q_mod  (hr : Room k A) : OpR X (binaryOp .Mod) (rI (fun _ j => 0 < j) fun i j => .int (i % j)) := op_mod
theorem p_mod : Prim K κ (r2 (rI (fun _ j => 0 < j) fun i j => .int (i % j))) modP := prim_rI fun i j d h => by
  split at h
  · rename_i c; cases h; exact ⟨c, fun ι H => .int _⟩
  · cases h
noncomputable def powP : List Ev → Mo Ev := intP fun i j => if 0 ≤ j ∧ j ≤ 1000000 ∧ i.natAbs < 2 ^ 64 then some (.int (i ^ j.toNat)) else none
theorem q_pow  (hr : Room k A) : OpR X (binaryOp .Pow) (rI CPow fun i j => .int (i ^ j.toNat)) := op_pow
theorem p_pow : Prim K κ (r2 (rI CPow fun i j => .int (i ^ j.toNat))) powP := prim_rI fun i j d h => by
  split at h
  · rename_i c; cases h; exact ⟨c, fun ι H => .int _⟩
  · cases h
noncomputable def shlP : List Ev → Mo Ev := intP fun i j => if 0 ≤ j ∧ j ≤ 1000000 ∧ i.natAbs < 2 ^ 64 then some (.int (i * 2 ^ j.toNat)) else none
noncomputable def shrP : List Ev → Mo Ev := intP fun i j => if 0 ≤ j then some (.int (i / 2 ^ j.toNat)) else none
noncomputable def negP : List Ev → Mo Ev := fun es δ G => match es with
  | [.v (.im (.int i))] => some (.v (.im (.int (-i))), δ, G)
  | _ => none
theorem prim_neg : Prim K κ (r1 (rU fun i => .int (-i))) negP := by
  intro ι H σ δ G es vs e δ' G' Q a h k
  unfold negP at h
  split at h
  · rename_i i
    obtain ⟨v, rfl⟩ := len1 a.len
    cases rpInt (a.im (j := 0) rfl rfl)
    exact ⟨_, rfl, i, rfl, k _ _ _ (af3 h (fin_im a (.int _)))⟩
  · cases h
theorem e_neg  (h : LE X κ a fa) : LE X κ (.UnaryOp .USub a pos) (unF negP fa) := e_un un_neg prim_neg h
noncomputable def ltP : List Ev → Mo Ev := intP fun i j => some (.bl (decide (i < j)))
noncomputable def leP : List Ev → Mo Ev := intP fun i j => some (.bl (decide (i ≤ j)))
noncomputable def gtP : List Ev → Mo Ev := intP fun i j => some (.bl (decide (j < i)))
noncomputable def geP : List Ev → Mo Ev := intP fun i j => some (.bl (decide (j ≤ i)))
end
end B
set_option maxHeartbeats 400000
namespace B
open PySem PySem.Spec PyProof.Rows L2
section
noncomputable def isTp (K : PySem.W.Frag) (H : Hp) (x : V) : Prop := ∃ a xs, x = .ref a ∧ SqT K H a xs
noncomputable def EqF (K : PySem.W.Frag) (H : Hp) (x y : V) (b : Bool) : Prop := (flatV x = true ∧ flatV y = true ∧ b = eqV x y) ∨ (isTp K H x ∧ flatV y = true ∧ b = false) ∨ (flatV x = true ∧ isTp K H y ∧ b = false)
noncomputable def EqV (K : PySem.W.Frag) (H : Hp) : Nat → V → V → Bool → Prop
  | 0, x, y, b => EqF K H x y b
  | n + 1, x, y, b => EqF K H x y b ∨ ∃ a c xs ys e, x = .ref a ∧ y = .ref c ∧ SqT K H a xs ∧ SqT K H c ys ∧ (∀ (j : Nat) u w, xs[j]? = some u → ys[j]? = some w → EqV K H n u w (e j)) ∧ b = ((List.range (min xs.length ys.length)).all e && xs.length == ys.length)
theorem eqV_refl (h : flatV x = true) : eqV x x = true := by
  cases x with
  | non => rfl
  | bl b => exact beq_self_eq_true b
  | int i => exact beq_self_eq_true i
  | str z => exact beq_self_eq_true z
  | _ => cases h
theorem EqF.refl   (I : Inv X pins σ H s) (h : EqF X.K H x x b) : b = true := by
  rcases h with ⟨h1, _, rfl⟩ | ⟨⟨a, xs, rfl, _⟩, h2, _⟩ | ⟨h2, ⟨a, xs, rfl, _⟩, _⟩
  · exact eqV_refl h1
  · cases h2
  · cases h2
theorem EqV.refl  (I : Inv X pins σ H s) : ∀ {n : Nat} {x : V} {b : Bool}, EqV X.K H n x x b → b = true
  | 0, _, _, h => EqF.refl I h
  | n + 1, x, b, h => by
    rcases h with h | ⟨a, c, xs, ys, e, e1, e2, h1, h2, he, rfl⟩
    · exact EqF.refl I h
    · subst e1; cases e2
      have := I.tuple_inj h1 h2
      subst this
      rw [Nat.min_self]
      have : (List.range xs.length).all e = true := by
        rw [List.all_eq_true]
        intro j hj
        have hj : j < xs.length := by simpa using hj
        exact EqV.refl I (he j _ _ (List.getElem?_eq_getElem hj) (List.getElem?_eq_getElem hj))
      rw [this]; simp
theorem seqEl  (r : Vals xs us) (h : j < us.toArray.size) : ∃ x, xs[j]? = some x ∧ RelV x us.toArray[j] := by
  have l := r.length
  have h' : j < xs.length := by rw [l]; simpa using h
  obtain ⟨u, eu, ru⟩ := r.get (List.getElem?_eq_getElem h')
  refine ⟨_, List.getElem?_eq_getElem h', ?_⟩
  have : us.toArray[j]? = some u := by simpa using eu
  rw [Array.getElem?_eq_getElem h] at this
  rw [Option.some.inj this]
  exact ru
theorem eqF_at    (I : Inv X pins σ H s) (h : EqF X.K H x y b) (ru : RelV x u) (rw' : RelV y w) (hu : A.units < cLine) : SeqAt.EqAt A s u w b := by
  rcases h with ⟨h1, h2, rfl⟩ | ⟨⟨a, xs, rfl, ht⟩, h2, rfl⟩ | ⟨h2, ⟨a, xs, rfl, ht⟩, rfl⟩
  · exact eqAt_V ru rw' h1 h2
  · cases ru
    obtain ⟨its, r1, p1, _⟩ := I.tuple ht
    have p1 : s.heap.IsTuple a its.toArray := p1
    cases y with
    | non => cases rw'; exact SeqAt.EqAt.tuple_none p1 hu
    | bl c => cases rw'; exact SeqAt.EqAt.tuple_bool _ p1 hu
    | int i => obtain ⟨t, rfl⟩ := rw'; exact SeqAt.EqAt.tuple_int _ _ p1 hu
    | str z => obtain ⟨t, rfl⟩ := rw'; exact SeqAt.EqAt.tuple_str _ _ p1 hu
    | _ => cases h2
  · cases rw'
    obtain ⟨its, r1, p1, _⟩ := I.tuple ht
    have p1 : s.heap.IsTuple a its.toArray := p1
    cases x with
    | non => cases ru; exact SeqAt.EqAt.none_tuple p1 hu
    | bl c => cases ru; exact SeqAt.EqAt.bool_tuple _ p1 hu
    | int i => obtain ⟨t, rfl⟩ := ru; exact SeqAt.EqAt.int_tuple _ _ p1 hu
    | str z => obtain ⟨t, rfl⟩ := ru; exact SeqAt.EqAt.str_tuple _ _ p1 hu
    | _ => cases h2
theorem eqV_at : ∀ {n : Nat} {A : Around} {pins : List (Addr × Obj)} {σ : L2.St} {s : Shared} {x y : V} {u w : Value} {b : Bool}, Inv X pins σ H s → EqV X.K H n x y b → RelV x u → RelV y w → A.units + n < cLine → SeqAt.EqAt A s u w b
  | 0, _, _, _, _, _, _, _, _, _, I, h, ru, rw', hu => eqF_at I h ru rw' hu
  | n + 1, A, _, _, s, _, _, _, _, _, I, h, ru, rw', hu => by
    rcases h with h | ⟨a, c, xs, ys, e, e1, e2, h1, h2, he, rfl⟩
    · exact eqF_at I h ru rw' (by lia)
    · subst e1; subst e2
      cases ru; cases rw'
      by_cases hac : a = c
      · subst hac
        have := EqV.refl (n := n + 1) I (.inr ⟨a, a, xs, ys, e, rfl, rfl, h1, h2, he, rfl⟩)
        rw [this]
        exact SeqAt.EqAt.same _
      · obtain ⟨its, r1, p1, _⟩ := I.tuple h1
        obtain ⟨its2, r2, p2, _⟩ := I.tuple h2
        have q := SeqAt.RcAt.tuples (A := A) (show s.heap.IsTuple a its.toArray from p1) (show s.heap.IsTuple c its2.toArray from p2) (by lia) (fun j z1 z2 => by
          obtain ⟨x, ex, rx⟩ := seqEl r1 z1
          obtain ⟨y, ey, ry⟩ := seqEl r2 z2
          exact eqV_at I (he j x y ex ey) rx ry (by show A.units + 1 + n < cLine; lia))
        rw [List.size_toArray, List.size_toArray, ← r1.length, ← r2.length] at q
        exact SeqAt.EqAt.of_refs hac q
end
end B
namespace B
open PySem PySem.Spec PyProof.Rows L2
section
/-- two lists -/
noncomputable def EqL (K : PySem.W.Frag) (H : Hp) (n : Nat) (x y : V) (b : Bool) : Prop := ∃ a c xs ys, x = .ref a ∧ y = .ref c ∧ SqL K H a xs ∧ SqL K H c ys ∧ ((xs.length ≠ ys.length ∧ b = false) ∨ (xs.length = ys.length ∧ ∃ e, (∀ (j : Nat) u w, xs[j]? = some u → ys[j]? = some w → EqV K H n u w (e j)) ∧ b = (List.range xs.length).all e))
noncomputable def EqTop (K : PySem.W.Frag) (H : Hp) (x y : V) (b : Bool) : Prop := (scal x y = true ∧ b = decide (x = y)) ∨ (isTp K H x ∧ flatV y = true ∧ b = false) ∨ (flatV x = true ∧ isTp K H y ∧ b = false) ∨
  (∃ a c xs ys e, x = .ref a ∧ y = .ref c ∧ SqT K H a xs ∧ SqT K H c ys ∧ (∀ (j : Nat) u w, xs[j]? = some u → ys[j]? = some w → EqV K H 40 u w (e j)) ∧ b = ((List.range (min xs.length ys.length)).all e && xs.length == ys.length)) ∨ EqL K H 40 x y b
theorem op_eqN (hu : X.A.units + 50 < cLine) : OpR X (compareOp .Eq) (fun x y H Q => ∃ b, EqTop X.K H x y b ∧ Q (.bl b) H) := by
  intro pins s σ H x y v u Q I rx ry h
  obtain ⟨b, h, q⟩ := h
  have hu0 : X.A.units < cLine := by lia
  have hel : ∀ {xs ys : List V} {us ws : List Value} {e : Nat → Bool}, Vals xs us → Vals ys ws → (∀ (j : Nat) u w, xs[j]? = some u → ys[j]? = some w → EqV X.K H 40 u w (e j)) → ∀ j (z1 : j < us.toArray.size) (z2 : j < ws.toArray.size), SeqAt.EqAt X.A.in1 s us.toArray[j] ws.toArray[j] (e j) := fun r1 r2 he j z1 z2 => by
    obtain ⟨x, ex, rx⟩ := seqEl r1 z1
    obtain ⟨y, ey, ry⟩ := seqEl r2 z2
    exact eqV_at I (he j x y ex ey) rx ry (by show X.A.units + 1 + 40 < cLine; lia)
  rcases h with ⟨hs, rfl⟩ | ⟨⟨a, xs, rfl, ht⟩, h2, rfl⟩ | ⟨h2, ⟨a, xs, rfl, ht⟩, rfl⟩ | ⟨a, c, xs, ys, e, rfl, rfl, h1, h2, he, rfl⟩ | ⟨a, c, xs, ys, rfl, rfl, h1, h2, h3⟩
  · exact op_eq pins s σ H x y v u Q I rx ry ⟨hs, q⟩
  · cases rx
    obtain ⟨its, r1, p1, _⟩ := I.tuple ht
    have p1 : s.heap.IsTuple a its.toArray := p1
    have fin : EP X pins σ Q (.bool false) s := ⟨.bl false, H, I, rfl, q⟩
    cases y with
    | non => cases ry; exact SeqAt.RcAt.tuple_none p1 hu0 _ _ _ _ fin
    | bl c => cases ry; exact SeqAt.RcAt.tuple_bool _ p1 hu0 _ _ _ _ fin
    | int i => obtain ⟨t, rfl⟩ := ry; exact SeqAt.RcAt.tuple_int _ _ p1 hu0 _ _ _ _ fin
    | str z => obtain ⟨t, rfl⟩ := ry; exact SeqAt.RcAt.tuple_str _ _ p1 hu0 _ _ _ _ fin
    | _ => cases h2
  · cases ry
    obtain ⟨its, r1, p1, _⟩ := I.tuple ht
    have p1 : s.heap.IsTuple a its.toArray := p1
    have fin : EP X pins σ Q (.bool false) s := ⟨.bl false, H, I, rfl, q⟩
    cases x with
    | non => cases rx; exact SeqAt.RcAt.none_tuple p1 hu0 _ _ _ _ fin
    | bl c => cases rx; exact SeqAt.RcAt.bool_tuple _ p1 hu0 _ _ _ _ fin
    | int i => obtain ⟨t, rfl⟩ := rx; exact SeqAt.RcAt.int_tuple _ _ p1 hu0 _ _ _ _ fin
    | str z => obtain ⟨t, rfl⟩ := rx; exact SeqAt.RcAt.str_tuple _ _ p1 hu0 _ _ _ _ fin
    | _ => cases h2
  · cases rx; cases ry
    obtain ⟨its, r1, p1, _⟩ := I.tuple h1
    obtain ⟨its2, r2, p2, _⟩ := I.tuple h2
    refine SeqAt.RcAt.tuples (show s.heap.IsTuple a its.toArray from p1) (show s.heap.IsTuple c its2.toArray from p2) hu0 (hel r1 r2 he) _ _ _ _ ?_
    rw [List.size_toArray, List.size_toArray, ← r1.length, ← r2.length]
    exact ⟨.bl _, H, I, rfl, q⟩
  · cases rx; cases ry
    obtain ⟨its, r1, p1, _⟩ := I.list h1
    obtain ⟨its2, r2, p2, _⟩ := I.list h2
    have l1 := r1.length
    have l2 := r2.length
    rcases h3 with ⟨hn, rfl⟩ | ⟨hn, e, he, rfl⟩
    · exact SeqAt.RcAt.lists_lengths p1.isList p2.isList (by simp; lia) hu0 X.prog X.w X.xe _ ⟨.bl _, H, I, rfl, q⟩
    · refine SeqAt.eq_listAt p1.isList p2.isList (by simp; lia) hu0 (hel r1 r2 he) ?_
      rw [List.size_toArray, ← l1]
      exact ⟨.bl _, H, I, rfl, q⟩
end
end B
namespace B
open PySem PySem.Spec PyProof.Rows L2
section
theorem op_neN (hu : X.A.units + 50 < cLine) : OpR X (compareOp .NotEq) (fun x y H Q => ∃ b, EqTop X.K H x y b ∧ Q (.bl (!b)) H) := by
  intro pins s σ H x y v u Q I rx ry h
  obtain ⟨b, h, q⟩ := h
  have hu0 : X.A.units < cLine := by lia
  have hel : ∀ {xs ys : List V} {us ws : List Value} {e : Nat → Bool}, Vals xs us → Vals ys ws → (∀ (j : Nat) u w, xs[j]? = some u → ys[j]? = some w → EqV X.K H 40 u w (e j)) → ∀ j (z1 : j < us.toArray.size) (z2 : j < ws.toArray.size), SeqAt.EqAt X.A.in1 s us.toArray[j] ws.toArray[j] (e j) := fun r1 r2 he j z1 z2 => by
    obtain ⟨x, ex, rx⟩ := seqEl r1 z1
    obtain ⟨y, ey, ry⟩ := seqEl r2 z2
    exact eqV_at I (he j x y ex ey) rx ry (by show X.A.units + 1 + 40 < cLine; lia)
  rcases h with ⟨hs, rfl⟩ | ⟨⟨a, xs, rfl, ht⟩, h2, rfl⟩ | ⟨h2, ⟨a, xs, rfl, ht⟩, rfl⟩ | ⟨a, c, xs, ys, e, rfl, rfl, h1, h2, he, rfl⟩ | ⟨a, c, xs, ys, rfl, rfl, h1, h2, h3⟩
  · exact op_ne pins s σ H x y v u Q I rx ry ⟨hs, q⟩
  · cases rx
    obtain ⟨its, r1, p1, _⟩ := I.tuple ht
    have p1 : s.heap.IsTuple a its.toArray := p1
    have fin : EP X pins σ Q (.bool true) s := ⟨.bl true, H, I, rfl, q⟩
    cases y with
    | non => cases ry; exact SeqAt.RcNeAt.tuple_none p1 hu0 _ _ _ _ fin
    | bl c => cases ry; exact SeqAt.RcNeAt.tuple_bool _ p1 hu0 _ _ _ _ fin
    | int i => obtain ⟨t, rfl⟩ := ry; exact SeqAt.RcNeAt.tuple_int _ _ p1 hu0 _ _ _ _ fin
    | str z => obtain ⟨t, rfl⟩ := ry; exact SeqAt.RcNeAt.tuple_str _ _ p1 hu0 _ _ _ _ fin
    | _ => cases h2
  · cases ry
    obtain ⟨its, r1, p1, _⟩ := I.tuple ht
    have p1 : s.heap.IsTuple a its.toArray := p1
    have fin : EP X pins σ Q (.bool true) s := ⟨.bl true, H, I, rfl, q⟩
    cases x with
    | non => cases rx; exact SeqAt.RcNeAt.none_tuple p1 hu0 _ _ _ _ fin
    | bl c => cases rx; exact SeqAt.RcNeAt.bool_tuple _ p1 hu0 _ _ _ _ fin
    | int i => obtain ⟨t, rfl⟩ := rx; exact SeqAt.RcNeAt.int_tuple _ _ p1 hu0 _ _ _ _ fin
    | str z => obtain ⟨t, rfl⟩ := rx; exact SeqAt.RcNeAt.str_tuple _ _ p1 hu0 _ _ _ _ fin
    | _ => cases h2
  · cases rx; cases ry
    obtain ⟨its, r1, p1, _⟩ := I.tuple h1
    obtain ⟨its2, r2, p2, _⟩ := I.tuple h2
    refine SeqAt.RcNeAt.tuples (show s.heap.IsTuple a its.toArray from p1) (show s.heap.IsTuple c its2.toArray from p2) hu0 (hel r1 r2 he) _ _ _ _ ?_
    rw [List.size_toArray, List.size_toArray, ← r1.length, ← r2.length]
    exact ⟨.bl _, H, I, rfl, q⟩
  · cases rx; cases ry
    obtain ⟨its, r1, p1, _⟩ := I.list h1
    obtain ⟨its2, r2, p2, _⟩ := I.list h2
    have l1 := r1.length
    have l2 := r2.length
    rcases h3 with ⟨hn, rfl⟩ | ⟨hn, e, he, rfl⟩
    · exact SeqAt.RcNeAt.lists_lengths p1.isList p2.isList (by simp; lia) hu0 X.prog X.w X.xe _ ⟨.bl _, H, I, rfl, q⟩
    · refine SeqAt.RcNeAt.lists p1.isList p2.isList (by simp; lia) hu0 (hel r1 r2 he) X.prog X.w X.xe _ ?_
      rw [List.size_toArray, ← l1]
      exact ⟨.bl _, H, I, rfl, q⟩
end
end B
namespace B
open PySem PySem.Spec PyProof.Rows L2
section
variable {X : Cx} {K : PySem.W.Frag} {κ : Str → Addr} {H : Hp}
noncomputable def eqZ (f : I → I → Option Bool) : List I → List I → Option Bool
  | [], [] => some true
  | x :: xs, y :: ys => match f x y, eqZ f xs ys with
    | some b, some c => some (b && c)
    | _, _ => none
  | [], _ :: _ => some false
  | _ :: _, [] => some false
noncomputable def tpl : I → Option (List I)
  | .tup xs => some xs
  | .con xs => some xs
  | _ => none
noncomputable def flI : I → Bool
  | .non => true
  | .bl _ => true
  | .int _ => true
  | .str _ => true
  | _ => false
noncomputable def eqFl : I → I → Bool
  | .non, .non => true
  | .bl a, .bl b => a == b
  | .bl a, .int b => (if a then 1 else 0) == b
  | .int a, .bl b => a == (if b then 1 else 0)
  | .int a, .int b => a == b
  | .str a, .str b => a == b
  | _, _ => false
noncomputable def eqD : Nat → I → I → Option Bool
  | 0, x, y => if flI x && flI y then some (eqFl x y) else if ((tpl x).isSome && flI y) || (flI x && (tpl y).isSome) then some false else none
  | n + 1, x, y => if flI x && flI y then some (eqFl x y) else if ((tpl x).isSome && flI y) || (flI x && (tpl y).isSome) then some false else match tpl x, tpl y with
    | some xs, some ys => eqZ (eqD n) xs ys
    | _, _ => none
variable {ι : List Addr}
theorem flat_of {v : V} {x : I} (r : RpI K ι H v x) (h : flI x = true) : flatV v = true := by cases r <;> first | rfl | cases h
noncomputable def toI : V → I
  | .bl b => .bl b
  | .int i => .int i
  | .str x => .str x
  | _ => .non
theorem toI_of (r : RpI K ι H v x) (h : flatV v = true) : x = toI v := by
  cases r <;> first | rfl | cases h
theorem eqFl_to (h : flatV v = true) (h' : flatV w = true) : eqFl (toI v) (toI w) = eqV v w := by
  cases v <;> first | cases h; done | (cases w <;> first | rfl | cases h')
theorem eqFl_of (r : RpI K ι H v x) (r' : RpI K ι H w y) (h : flI x = true) (h' : flI y = true) : eqFl x y = eqV v w := by
  have h := flat_of r h
  have h' := flat_of r' h'
  rw [toI_of r h, toI_of r' h', eqFl_to h h']
theorem tp_of {v : V} {x : I} {xs : List I} (r : RpI K ι H v x) (h : tpl x = some xs) : ∃ a vs, v = .ref a ∧ SqT K H a vs ∧ RpIs K ι H vs xs := by
  cases r with
  | tup h1 h2 => cases h; exact ⟨_, _, rfl, SqT.of h1, h2⟩
  | con h1 h2 => cases h; exact ⟨_, _, rfl, SqT.kon h1, h2⟩
  | _ => cases h
theorem eqZ_at {f : I → I → Option Bool} {E : V → V → Bool → Prop} (hf : ∀ {v w x y b}, RpI K ι H v x → RpI K ι H w y → f x y = some b → E v w b) : ∀ {vs ws : List V} {xs ys : List I} {b : Bool}, RpIs K ι H vs xs → RpIs K ι H ws ys → eqZ f xs ys = some b →
    ∃ e : Nat → Bool, (∀ (j : Nat) u w, vs[j]? = some u → ws[j]? = some w → E u w (e j)) ∧ b = ((List.range (min vs.length ws.length)).all e && vs.length == ws.length)
  | [], [], _, _, b, .nil, .nil, h => by cases h; exact ⟨fun _ => true, fun j u w e => by simp at e, rfl⟩
  | [], _ :: _, _, _, b, .nil, .cons _ _, h => by cases h; exact ⟨fun _ => true, fun j u w e => by simp at e, by simp⟩
  | _ :: _, [], _, _, b, .cons _ _, .nil, h => by cases h; exact ⟨fun _ => true, fun j u w _ e => by simp at e, by simp⟩
  | v :: vs, w :: ws, _, _, b, .cons r rs, .cons r' rs', h => by
    unfold eqZ at h
    split at h
    · rename_i b0 c h0 h1
      cases h
      obtain ⟨e', he, rfl⟩ := eqZ_at hf rs rs' h1
      refine ⟨fun j => match j with | 0 => b0 | j + 1 => e' j, fun j u w' e1 e2 => ?_, ?_⟩
      · cases j with
        | zero => simp at e1 e2; subst e1; subst e2; exact hf r r' h0
        | succ j => exact he j u w' (by simpa using e1) (by simpa using e2)
      · have e3 : min (v :: vs).length (w :: ws).length = min vs.length ws.length + 1 := by simp only [List.length_cons]; lia
        rw [e3, range_succ_all]
        have e4 : ((v :: vs).length == (w :: ws).length) = (vs.length == ws.length) := by simp
        rw [e4, Bool.and_assoc]
    · cases h
theorem eqD_at : ∀ {n : Nat} {v w : V} {x y : I} {b : Bool}, RpI K ι H v x → RpI K ι H w y → eqD n x y = some b → EqV K H n v w b := by
  have base : ∀ {v w : V} {x y : I} {b : Bool} {o : Option Bool}, RpI K ι H v x → RpI K ι H w y → (if flI x && flI y then some (eqFl x y) else if ((tpl x).isSome && flI y) || (flI x && (tpl y).isSome) then some false else o) = some b → EqF K H v w b ∨ o = some b := fun {v w x y b o} r r' h => by
    split at h
    · rename_i hf
      rw [Bool.and_eq_true] at hf
      cases h
      exact .inl (.inl ⟨flat_of r hf.1, flat_of r' hf.2, eqFl_of r r' hf.1 hf.2⟩)
    · split at h
      · rename_i hf
        cases h
        rw [Bool.or_eq_true, Bool.and_eq_true, Bool.and_eq_true] at hf
        rcases hf with ⟨h1, h2⟩ | ⟨h1, h2⟩
        · obtain ⟨xs, hx⟩ := Option.isSome_iff_exists.mp h1
          obtain ⟨a, vs, e1, h3, _⟩ := tp_of r hx
          exact .inl (.inr (.inl ⟨⟨a, vs, e1, h3⟩, flat_of r' h2, rfl⟩))
        · obtain ⟨xs, hx⟩ := Option.isSome_iff_exists.mp h2
          obtain ⟨a, vs, e1, h3, _⟩ := tp_of r' hx
          exact .inl (.inr (.inr ⟨flat_of r h1, ⟨a, vs, e1, h3⟩, rfl⟩))
      · exact .inr h
  intro n
  induction n with
  | zero =>
    intro v w x y b r r' h
    unfold eqD at h
    rcases base r r' h with q | q
    · exact q
    · cases q
  | succ n ih =>
    intro v w x y b r r' h
    unfold eqD at h
    rcases base r r' h with q | q
    · exact .inl q
    · split at q
      · rename_i xs ys hx hy
        obtain ⟨a, vs, e1, h1, r1⟩ := tp_of r hx
        obtain ⟨c, ws, e2, h2, r2⟩ := tp_of r' hy
        obtain ⟨e, he, hb⟩ := eqZ_at (fun r r' h => ih r r' h) r1 r2 q
        exact .inr ⟨a, c, vs, ws, e, e1, e2, h1, h2, he, hb⟩
      · cases q
theorem eqV_dec (h : scal x y = true) (hf : flatV x = true) : eqV x y = decide (x = y) := by
  cases x <;> first | exact Bool.noConfusion hf | (cases y <;> first | rfl | exact Bool.noConfusion h | skip)
  · rename_i a b
    show (a == b) = _
    by_cases e : a = b
    · subst e; simp
    · rw [beq_eq_false_iff_ne.mpr e, decide_eq_false (fun z => e (by injection z))]
  · rename_i a b
    show (a == b) = _
    by_cases e : a = b
    · subst e; simp
    · rw [beq_eq_false_iff_ne.mpr e, decide_eq_false (fun z => e (by injection z))]
  · rename_i a b
    show (a == b) = _
    by_cases e : a = b
    · subst e; simp
    · rw [beq_eq_false_iff_ne.mpr e, decide_eq_false (fun z => e (by injection z))]
noncomputable def mixI : I → I → Bool
  | .bl _, .int _ => true
  | .int _, .bl _ => true
  | _, _ => false
noncomputable def eqE (δ : De) (G : List M) (a b : Ev) : Option Bool :=
  match imE a, imE b with
  | some x, some y => if mixI x y then none else match eqD 41 x y with
    | some r => some r
    | none => match pk δ G a, pk δ G b with
      | some (.lst xs), some (.lst ys) => eqZ (eqD 40) xs ys
      | _, _ => none
  | _, _ => match pk δ G a, pk δ G b with
    | some (.lst xs), some (.lst ys) => eqZ (eqD 40) xs ys
    | _, _ => none
noncomputable def eqP : List Ev → Mo Ev := fun es δ G => match es with
  | [a, b] => match eqE δ G a b with
    | some r => some (.v (.im (.bl r)), δ, G)
    | none => none
  | _ => none
noncomputable def neP : List Ev → Mo Ev := fun es δ G => match es with
  | [a, b] => match eqE δ G a b with
    | some r => some (.v (.im (.bl (!r))), δ, G)
    | none => none
  | _ => none
theorem scal_to (h : flatV v = true) (h' : flatV u = true) (hm : ¬ mixI (toI v) (toI u) = true) : scal v u = true := by
  cases v <;> first | cases h; done | (cases u <;> first | rfl | cases h'; done | exact absurd rfl hm)
theorem scal_of (r : RpI K ι H v x) (r' : RpI K ι H u y) (h : flatV v = true) (h' : flatV u = true) (hm : ¬ mixI x y = true) : scal v u = true := by
  rw [toI_of r h, toI_of r' h'] at hm
  exact scal_to h h' hm
theorem eqE_top {σ : L2.St} {δ : De} {G : List M} {a b : Ev} {v u : V} {r : Bool} (A : Args K κ ι H σ δ G [a, b] [v, u]) (h : eqE δ G a b = some r) : EqTop K H v u r := by
  have lists : (match pk δ G a, pk δ G b with | some (.lst xs), some (.lst ys) => eqZ (eqD 40) xs ys | _, _ => none) = some r → EqTop K H v u r := fun h => by
    split at h
    · rename_i xs ys hx hy
      obtain ⟨p, e1, vs, h1, r1⟩ := A.pk (j := 0) rfl rfl hx
      obtain ⟨q, e2, ws, h2, r2⟩ := A.pk (j := 1) rfl rfl hy
      obtain ⟨e, he, hb⟩ := eqZ_at (fun r r' h => eqD_at r r' h) r1 r2 h
      refine .inr (.inr (.inr (.inr ⟨p, q, vs, ws, e1, e2, SqL.of h1, SqL.of h2, ?_⟩)))
      by_cases hl : vs.length = ws.length
      · refine .inr ⟨hl, e, he, ?_⟩
        rw [hb, ← hl, Nat.min_self]; simp
      · refine .inl ⟨hl, ?_⟩
        rw [hb]
        have : (vs.length == ws.length) = false := by simpa using hl
        rw [this, Bool.and_false]
    · cases h
  unfold eqE at h
  split at h
  · rename_i x y hx hy
    split at h
    · cases h
    · rename_i hm
      split at h
      · rename_i r' hr
        cases h
        have ra : RpI K ι H v x := by
          cases a with
          | s i => cases hx
          | v z => cases z with
            | ow m => cases hx
            | im d => cases hx; exact A.im (j := 0) rfl rfl
        have rb : RpI K ι H u y := by
          cases b with
          | s i => cases hy
          | v z => cases z with
            | ow m => cases hy
            | im d => cases hy; exact A.im (j := 1) rfl rfl
        rcases eqD_at ra rb hr with q | ⟨a', c, xs, ys, e, e1, e2, h1, h2, he, hb⟩
        · rcases q with ⟨h1, h2, rfl⟩ | ⟨h1, h2, rfl⟩ | ⟨h1, h2, rfl⟩
          · have sc := scal_of ra rb h1 h2 hm
            exact .inl ⟨sc, eqV_dec sc h1⟩
          · exact .inr (.inl ⟨h1, h2, rfl⟩)
          · exact .inr (.inr (.inl ⟨h1, h2, rfl⟩))
        · exact .inr (.inr (.inr (.inl ⟨a', c, xs, ys, e, e1, e2, h1, h2, he, hb⟩)))
      · exact lists h
  · exact lists h
theorem prim_eq : Prim K κ (r2 fun x y H Q => ∃ b, EqTop K H x y b ∧ Q (.bl b) H) eqP := by
  intro ι H σ δ G es vs e δ' G' Q a h k
  unfold eqP at h
  split at h
  · split at h
    · rename_i r hr
      obtain ⟨v, u, rfl⟩ := len2 a.len
      exact ⟨_, _, rfl, r, eqE_top a hr, k _ _ _ (af3 h (fin_im a (.bl _)))⟩
    · cases h
  · cases h
theorem prim_ne : Prim K κ (r2 fun x y H Q => ∃ b, EqTop K H x y b ∧ Q (.bl (!b)) H) neP := by
  intro ι H σ δ G es vs e δ' G' Q a h k
  unfold neP at h
  split at h
  · split at h
    · rename_i r hr
      obtain ⟨v, u, rfl⟩ := len2 a.len
      exact ⟨_, _, rfl, r, eqE_top a hr, k _ _ _ (af3 h (fin_im a (.bl _)))⟩
    · cases h
  · cases h
end
section
variable {X : Cx} {κ : Str → Addr} {a b : Expr} {fa fb : Mo Ev} {pos : Pos} {k : Nat}
theorem hu50 (hr : Room k X.A) : X.A.units + 50 < cLine := by have := hr.units; lia
theorem e_eq (hr : Room k X.A) (ha : LE X κ a fa) (hb : LE X κ b fb) : LE X κ (.Compare a [.Eq] [b] pos) (opF eqP fa fb) := e_cmpR (op_eqN (hu50 hr)) prim_eq ha hb (nomark _)
theorem t_eq (hr : Room k X.A) (ha : LE X κ a fa) (hb : LE X κ b fb) : LT X κ (.Compare a [.Eq] [b] pos) (tstF (opF eqP fa fb)) := t_cmpR (op_eqN (hu50 hr)) prim_eq ha hb (nomark _)
theorem t_ne (hr : Room k X.A) (ha : LE X κ a fa) (hb : LE X κ b fb) : LT X κ (.Compare a [.NotEq] [b] pos) (tstF (opF neP fa fb)) := t_cmpR (op_neN (hu50 hr)) prim_ne ha hb (nomark _)
theorem e_lt (hr : Room k X.A) (ha : LE X κ a fa) (hb : LE X κ b fb) : LE X κ (.Compare a [.Lt] [b] pos) (opF ltP fa fb) := e_cmpR op_lt (prim_rI0 fun i j d h ι H => by cases h; exact .bl _) ha hb (nomark _)
theorem t_lt (hr : Room k X.A) (ha : LE X κ a fa) (hb : LE X κ b fb) : LT X κ (.Compare a [.Lt] [b] pos) (tstF (opF ltP fa fb)) := t_cmpR op_lt (prim_rI0 fun i j d h ι H => by cases h; exact .bl _) ha hb (nomark _)
theorem t_gt (hr : Room k X.A) (ha : LE X κ a fa) (hb : LE X κ b fb) : LT X κ (.Compare a [.Gt] [b] pos) (tstF (opF gtP fa fb)) := t_cmpR op_gt (prim_rI0 fun i j d h ι H => by cases h; exact .bl _) ha hb (nomark _)
theorem t_ge (hr : Room k X.A) (ha : LE X κ a fa) (hb : LE X κ b fb) : LT X κ (.Compare a [.GtE] [b] pos) (tstF (opF geP fa fb)) := t_cmpR op_ge (prim_rI0 fun i j d h ι H => by cases h; exact .bl _) ha hb (nomark _)
end
end B
namespace B
open PySem PySem.Spec PyProof.Rows L2
section
variable {X : Cx} {K : PySem.W.Frag} {κ : Str → Addr} {ι : List Addr} {H : Hp}
theorem RpIs.at {vs : List V} {xs : List I} {i : Int} {d : I} (r : RpIs K ι H vs xs) (h : atI xs i = some d) : ∃ v, atI vs i = some v ∧ RpI K ι H v d := by
  unfold atI at h ⊢
  rw [r.len]
  cases q : ixN xs.length i with
  | none => rw [q] at h; cases h
  | some j =>
    rw [q] at h
    obtain ⟨v, hv, rv⟩ := r.get h
    exact ⟨v, hv, rv⟩
noncomputable def ixS : List Ev → Mo Ev := fun es δ G => match es with
  | [a, .v (.im (.int i))] => match sq δ G a with
    | some xs => match atI xs i with
      | some d => some (.v (.im d), δ, G)
      | none => none
    | none => match a with
      | .v (.im (.str z)) => match atI z.cps.toList i with
        | some c => if z.length ≤ 1000000 then some (.v (.im (.str ⟨#[c]⟩)), δ, G) else none
        | none => none
      | _ => none
  | _ => none
theorem prim_ixS : Prim K κ (r2 (rIx K)) ixS := by
  intro ι H σ δ G es vs e δ' G' Q a h k
  unfold ixS at h
  split at h
  · rename_i x i
    split at h
    · rename_i xs hx
      split at h
      · rename_i d hd
        obtain ⟨v, u, rfl⟩ := len2 a.len
        obtain ⟨p, ys, e1, h1, r⟩ := a.sq (j := 0) rfl rfl hx
        cases rpInt (a.im (j := 1) rfl rfl)
        subst e1
        obtain ⟨w, hw, rw'⟩ := r.at hd
        rcases h1 with h1 | h1
        · exact ⟨_, _, rfl, .inl ⟨p, ys, i, w, rfl, rfl, h1, hw, k _ _ _ (af3 h (fin_im a rw'))⟩⟩
        · exact ⟨_, _, rfl, .inr (.inl ⟨p, ys, i, w, rfl, rfl, h1, hw, k _ _ _ (af3 h (fin_im a rw'))⟩)⟩
      · cases h
    · split at h
      · rename_i z _
        split at h
        · rename_i c hc
          split at h
          · rename_i hz
            obtain ⟨v, u, rfl⟩ := len2 a.len
            cases rpStr (a.im (j := 0) rfl rfl)
            cases rpInt (a.im (j := 1) rfl rfl)
            exact ⟨_, _, rfl, .inr (.inr ⟨z, i, c, rfl, rfl, Nat.le_trans hz (by decide), hc, k _ _ _ (af3 h (fin_im a (.str _)))⟩)⟩
          · cases h
        · cases h
      · cases h
  · cases h
noncomputable def keyI : I → Option Key
  | .int i => some (.inl i)
  | .str x => some (.inr x)
  | _ => none
noncomputable def keysI : List I → Option (List Key)
  | [] => some []
  | x :: xs => match keyI x, keysI xs with
    | some k, some ks => some (k :: ks)
    | _, _ => none
noncomputable def keyT : I → Option (List Key)
  | .tup xs => keysI xs
  | _ => none
theorem keyI_of {v : V} {x : I} {k : Key} (r : RpI K ι H v x) (h : keyI x = some k) : v = kV k := by
  cases r <;> first | (cases h; rfl) | cases h
theorem keysI_of : ∀ {vs : List V} {xs : List I} {ks : List Key}, RpIs K ι H vs xs → keysI xs = some ks → vs = ks.map kV
  | [], [], _, .nil, h => by cases h; rfl
  | v :: vs, x :: xs, ks, .cons r rs, h => by
    unfold keysI at h
    split at h
    · rename_i k ks' h1 h2
      cases h
      rw [List.map_cons, keyI_of r h1, keysI_of rs h2]
    · cases h
theorem keyT_of {v : V} {x : I} {ks : List Key} (r : RpI K ι H v x) (h : keyT x = some ks) : ∃ b, v = .ref b ∧ H b = some (.tup (ks.map kV)) := by
  cases r with
  | tup h1 h2 => exact ⟨_, rfl, by rw [h1, keysI_of h2 h]⟩
  | _ => cases h
noncomputable def valI {κ' : Type} [DecidableEq κ'] : List (κ' × I) → κ' → Option I
  | [], _ => none
  | (g, x) :: r, k => if g = k then some x else valI r k
noncomputable def hasI {κ' : Type} [DecidableEq κ'] (kvs : List (κ' × I)) (k : κ') : Bool := kvs.any fun kv => decide (kv.1 = k)
noncomputable def putD {κ' : Type} [DecidableEq κ'] (kvs : List (κ' × I)) (k : κ') (d : I) : List (κ' × I) := if hasI kvs k then kvs.map (fun kv => if kv.1 = k then (kv.1, d) else kv) else kvs ++ [(k, d)]
theorem valI_rel {κ' : Type} [DecidableEq κ'] {k : κ'} : ∀ {ws : List (κ' × V)} {kvs : List (κ' × I)}, ws.map (·.1) = kvs.map (·.1) → RpIs K ι H (ws.map (·.2)) (kvs.map (·.2)) →
    (∀ d, valI kvs k = some d → ∃ v, valV ws k = some v ∧ RpI K ι H v d) ∧ (valI kvs k = none → valV ws k = none)
  | [], [], _, _ => ⟨fun d h => (by cases h), fun _ => rfl⟩
  | [], _ :: _, e, _ => by cases e
  | _ :: _, [], e, _ => by cases e
  | (g, v) :: ws, (g', x) :: kvs, e, r => by
    simp only [List.map_cons, List.cons.injEq] at e
    obtain ⟨e1, e2⟩ := e
    subst e1
    cases r with
    | cons r rs =>
      obtain ⟨p, q⟩ := valI_rel e2 rs
      by_cases hg : g = k
      · rw [valV_pos hg]
        unfold valI
        rw [if_pos hg]
        exact ⟨fun d h => (by cases h; exact ⟨v, rfl, r⟩), fun h => (by cases h)⟩
      · rw [valV_neg hg]
        unfold valI
        rw [if_neg hg]
        exact ⟨p, q⟩
theorem any_keys {κ' α β : Type} [DecidableEq κ'] {k : κ'} : ∀ {ws : List (κ' × α)} {kvs : List (κ' × β)}, ws.map (·.1) = kvs.map (·.1) → (ws.any fun kv => decide (kv.1 = k)) = (kvs.any fun kv => decide (kv.1 = k))
  | [], [], _ => rfl
  | [], _ :: _, e => by cases e
  | _ :: _, [], e => by cases e
  | (g, v) :: ws, (g', x) :: kvs, e => by
    simp only [List.map_cons, List.cons.injEq] at e
    obtain ⟨e1, e2⟩ := e
    subst e1
    rw [List.any_cons, List.any_cons, any_keys e2]
theorem map_keys {κ' : Type} [DecidableEq κ'] {k : κ'} {v : V} {d : I} (rv : RpI K ι H v d) : ∀ {ws : List (κ' × V)} {kvs : List (κ' × I)}, ws.map (·.1) = kvs.map (·.1) → RpIs K ι H (ws.map (·.2)) (kvs.map (·.2)) →
    (ws.map fun kv => if kv.1 = k then (kv.1, v) else kv).map (·.1) = (kvs.map fun kv => if kv.1 = k then (kv.1, d) else kv).map (·.1) ∧ RpIs K ι H ((ws.map fun kv => if kv.1 = k then (kv.1, v) else kv).map (·.2)) ((kvs.map fun kv => if kv.1 = k then (kv.1, d) else kv).map (·.2))
  | [], [], _, _ => ⟨rfl, .nil⟩
  | [], _ :: _, e, _ => by cases e
  | _ :: _, [], e, _ => by cases e
  | (g, w) :: ws, (g', x) :: kvs, e, r => by
    simp only [List.map_cons, List.cons.injEq] at e
    obtain ⟨e1, e2⟩ := e
    subst e1
    cases r with
    | cons r rs =>
      obtain ⟨p, q⟩ := map_keys rv e2 rs
      by_cases hg : g = k
      · simp only [List.map_cons, if_pos hg]
        exact ⟨by rw [p], .cons rv q⟩
      · simp only [List.map_cons, if_neg hg]
        exact ⟨by rw [p], .cons r q⟩
theorem putD_rel {κ' : Type} [DecidableEq κ'] {k : κ'} {v : V} {d : I} {ws : List (κ' × V)} {kvs : List (κ' × I)} (rv : RpI K ι H v d) (e : ws.map (·.1) = kvs.map (·.1)) (r : RpIs K ι H (ws.map (·.2)) (kvs.map (·.2))) :
    (putK ws k v).map (·.1) = (putD kvs k d).map (·.1) ∧ RpIs K ι H ((putK ws k v).map (·.2)) ((putD kvs k d).map (·.2)) := by
  unfold putK putD hasI
  rw [any_keys e]
  split
  · exact map_keys rv e r
  · rw [List.map_append, List.map_append, List.map_append, List.map_append, e]
    exact ⟨rfl, r.app (.cons rv .nil)⟩
/-- what a dict holds at a key -/
noncomputable def getD' (δ : De) (G : List M) (a : Ev) (x : I) : Option (Option I) := match pk δ G a with
  | some (.dic kvs) => (keyI x).map fun k => valI kvs k
  | some (.dit kvs) => (keyT x).map fun k => valI kvs k
  | _ => none
theorem getD_of {σ : L2.St} {δ : De} {G : List M} {es : List Ev} {vs : List V} {j j' : Nat} {a : Ev} {x : I} {v u : V} {o : Option I} (A : Args K κ ι H σ δ G es vs) (h1 : es[j]? = some a) (h2 : vs[j]? = some v) (h3 : es[j']? = some (.v (.im x))) (h4 : vs[j']? = some u)
    (h : getD' δ G a x = some o) : ∃ b ov, v = .ref b ∧ DGet H b u ov ∧ (∀ d, o = some d → ∃ w, ov = some w ∧ RpI K ι H w d) ∧ (o = none → ov = none) := by
  have ru := A.im h3 h4
  unfold getD' at h
  split at h
  · rename_i kvs hp
    obtain ⟨b, e1, ws, hw, e2, r⟩ := A.pk h1 h2 hp
    cases hk : keyI x with
    | none => rw [hk] at h; cases h
    | some k =>
      rw [hk] at h
      cases h
      have eu := keyI_of ru hk
      subst eu
      obtain ⟨p, q⟩ := valI_rel e2 r
      exact ⟨b, _, e1, DGet.k hw, p, q⟩
  · rename_i kvs hp
    obtain ⟨b, e1, ws, hw, e2, r⟩ := A.pk h1 h2 hp
    cases hk : keyT x with
    | none => rw [hk] at h; cases h
    | some k =>
      rw [hk] at h
      cases h
      obtain ⟨c, eu, hc⟩ := keyT_of ru hk
      subst eu
      obtain ⟨p, q⟩ := valI_rel e2 r
      exact ⟨b, _, e1, DGet.t hw hc, p, q⟩
  · cases h
noncomputable def ixD : List Ev → Mo Ev := fun es δ G => match es with
  | [a, .v (.im x)] => match getD' δ G a x with
    | some (some d) => some (.v (.im d), δ, G)
    | _ => none
  | _ => none
theorem prim_ixD : Prim K κ (r2 fun x y H2 Q => ∃ a v, x = .ref a ∧ DGet H2 a y (some v) ∧ Q v H2) ixD := by
  intro ι H σ δ G es vs e δ' G' Q a h k
  unfold ixD at h
  split at h
  · split at h
    · rename_i d hd
      obtain ⟨v, u, rfl⟩ := len2 a.len
      obtain ⟨b, ov, e1, g, p, _⟩ := getD_of a (j := 0) (j' := 1) rfl rfl rfl rfl hd
      obtain ⟨w, rfl, rw'⟩ := p d rfl
      exact ⟨_, _, rfl, b, w, e1, g, k _ _ _ (af3 h (fin_im a rw'))⟩
    · cases h
  · cases h
noncomputable def ixP : List Ev → Mo Ev := orP ixS ixD
theorem up_ix {fo fi : Mo Ev} {σ : L2.St} {Q : VK} (h : UpE K κ (opF ixP fo fi) σ H Q) : tOp (rIx K) (UpE K κ fo) (UpE K κ fi) σ H Q ∨ tDGet (UpE K κ fo) (UpE K κ fi) σ H Q := by
  obtain ⟨ι, δ, G, e, δ', G', s, eq, k⟩ := h
  obtain ⟨x, δ1, G1, e1, eq1⟩ := bd_inv eq
  obtain ⟨y, δ2, G2, e2, eq2⟩ := bd_inv eq1
  have eq2 : orP ixS ixD [x, y] δ2 G2 = some (e, δ', G') := eq2
  unfold orP at eq2
  split at eq2
  · rename_i z hz
    cases eq2
    refine .inl (up_op prim_ixS ⟨ι, δ, G, _, _, _, s, ?_, k⟩)
    unfold opF
    rw [bd_of e1, bd_of e2]; exact hz
  · refine .inr (up_op prim_ixD ⟨ι, δ, G, _, _, _, s, ?_, k⟩)
    unfold opF
    rw [bd_of e1, bd_of e2]; exact eq2
noncomputable def inL (neg : Bool) : List Ev → Mo Ev := fun es δ G => match es with
  | [.v (.im x), b] => match sq δ G b with
    | some xs => if flI x && xs.all flI then some (.v (.im (.bl (if neg then !(xs.any fun y => eqFl y x) else xs.any fun y => eqFl y x))), δ, G) else none
    | none => none
  | _ => none
noncomputable def inD' (neg : Bool) : List Ev → Mo Ev := fun es δ G => match es with
  | [.v (.im x), b] => match getD' δ G b x with
    | some o => some (.v (.im (.bl (if neg then !o.isSome else o.isSome))), δ, G)
    | none => none
  | _ => none
theorem prim_inD : Prim K κ (r2 fun y x H2 Q => ∃ a o, x = .ref a ∧ DGet H2 a y o ∧ Q (.bl o.isSome) H2) (inD' false) := by
  intro ι H σ δ G es vs e δ' G' Q a h k
  unfold inD' at h
  split at h
  · split at h
    · rename_i o ho
      obtain ⟨v, u, rfl⟩ := len2 a.len
      obtain ⟨b, ov, e1, g, p, q⟩ := getD_of a (j := 1) (j' := 0) rfl rfl rfl rfl ho
      have : ov.isSome = o.isSome := by
        cases o with
        | none => rw [q rfl]; rfl
        | some d => obtain ⟨w, rfl, _⟩ := p d rfl; rfl
      refine ⟨_, _, rfl, b, ov, e1, g, ?_⟩
      rw [this]
      exact k _ _ _ (af3 h (fin_im a (.bl _)))
    · cases h
  · cases h
theorem prim_ninD : Prim K κ (r2 fun y x H2 Q => ∃ a o, x = .ref a ∧ DGet H2 a y o ∧ Q (.bl (!o.isSome)) H2) (inD' true) := by
  intro ι H σ δ G es vs e δ' G' Q a h k
  unfold inD' at h
  split at h
  · split at h
    · rename_i o ho
      obtain ⟨v, u, rfl⟩ := len2 a.len
      obtain ⟨b, ov, e1, g, p, q⟩ := getD_of a (j := 1) (j' := 0) rfl rfl rfl rfl ho
      have : ov.isSome = o.isSome := by
        cases o with
        | none => rw [q rfl]; rfl
        | some d => obtain ⟨w, rfl, _⟩ := p d rfl; rfl
      refine ⟨_, _, rfl, b, ov, e1, g, ?_⟩
      rw [this]
      exact k _ _ _ (af3 h (fin_im a (.bl _)))
    · cases h
  · cases h
end
section
variable {X : Cx} {κ : Str → Addr} {a b : Expr} {fa fb : Mo Ev} {pos : Pos} {k : Nat}
theorem e_ix (hr : Room k X.A) (ha : LE X κ a fa) (hb : LE X κ b fb) (hs : PlainIx b := by exact (fun _ _ => rfl)) : LE X κ (.Subscript a b pos) (opF ixP fa fb) := .mk (pe_imp (pe_or (pe_ix ix_seq ha.pe hb.pe hs) (pe_dget (hu_of hr) ha.pe hb.pe hs)) fun _ _ _ => up_ix)
end
end B
namespace B
open PySem PySem.Spec PyProof.Rows L2
section
variable {X : Cx} {K : PySem.W.Frag} {κ : Str → Addr} {ι : List Addr} {H : Hp}
theorem eqFl_any {v : V} {x : I} (r : RpI K ι H v x) (hx : flI x = true) : ∀ {vs : List V} {xs : List I}, RpIs K ι H vs xs → xs.all flI = true → vs.all flatV = true ∧ (xs.any fun y => eqFl y x) = vs.any fun y => eqV y v
  | [], [], .nil, _ => ⟨rfl, rfl⟩
  | w :: vs, y :: xs, .cons r' rs, h => by
    rw [List.all_cons, Bool.and_eq_true] at h
    obtain ⟨p, q⟩ := eqFl_any r hx rs h.2
    rw [List.all_cons, List.any_cons, List.any_cons, p, q, eqFl_of r' r h.1 hx, flat_of r' h.1]
    exact ⟨rfl, rfl⟩
theorem prim_inL : Prim K κ (r2 (rIn K false)) (inL false) := by
  intro ι H σ δ G es vs e δ' G' Q a h k
  unfold inL at h
  split at h
  · rename_i x b
    split at h
    · rename_i xs hx
      split at h
      · rename_i hf
        rw [Bool.and_eq_true] at hf
        obtain ⟨v, u, rfl⟩ := len2 a.len
        obtain ⟨p, ys, e1, h1, r⟩ := a.sq (j := 1) rfl rfl hx
        have rx := a.im (j := 0) rfl rfl
        obtain ⟨p1, p2⟩ := eqFl_any rx hf.1 r hf.2
        refine ⟨_, _, rfl, p, ys, e1, h1, flat_of rx hf.1, p1, ?_⟩
        have : L2.inV v ys = xs.any fun y => eqFl y x := p2.symm
        rw [this]
        exact k _ _ _ (af3 h (fin_im a (.bl _)))
      · cases h
    · cases h
  · cases h
theorem prim_ninL : Prim K κ (r2 (rIn K true)) (inL true) := by
  intro ι H σ δ G es vs e δ' G' Q a h k
  unfold inL at h
  split at h
  · rename_i x b
    split at h
    · rename_i xs hx
      split at h
      · rename_i hf
        rw [Bool.and_eq_true] at hf
        obtain ⟨v, u, rfl⟩ := len2 a.len
        obtain ⟨p, ys, e1, h1, r⟩ := a.sq (j := 1) rfl rfl hx
        have rx := a.im (j := 0) rfl rfl
        obtain ⟨p1, p2⟩ := eqFl_any rx hf.1 r hf.2
        refine ⟨_, _, rfl, p, ys, e1, h1, flat_of rx hf.1, p1, ?_⟩
        have : L2.inV v ys = xs.any fun y => eqFl y x := p2.symm
        rw [this]
        exact k _ _ _ (af3 h (fin_im a (.bl _)))
      · cases h
    · cases h
  · cases h
noncomputable def inP : List Ev → Mo Ev := orP (inL false) (inD' false)
noncomputable def ninP : List Ev → Mo Ev := orP (inL true) (inD' true)
theorem up_or2 {p p' : List Ev → Mo Ev} {r r' : R2} {fo fi : Mo Ev} {σ : L2.St} {Q : VK} (h1 : Prim K κ (r2 r) p) (h2 : Prim K κ (r2 r') p') (h : UpE K κ (opF (orP p p') fo fi) σ H Q) : tOp r (UpE K κ fo) (UpE K κ fi) σ H Q ∨ tOp r' (UpE K κ fo) (UpE K κ fi) σ H Q := by
  obtain ⟨ι, δ, G, e, δ', G', s, eq, k⟩ := h
  obtain ⟨x, δ1, G1, e1, eq1⟩ := bd_inv eq
  obtain ⟨y, δ2, G2, e2, eq2⟩ := bd_inv eq1
  have eq2 : orP p p' [x, y] δ2 G2 = some (e, δ', G') := eq2
  unfold orP at eq2
  split at eq2
  · rename_i z hz
    cases eq2
    refine .inl (up_op h1 ⟨ι, δ, G, _, _, _, s, ?_, k⟩)
    unfold opF
    rw [bd_of e1, bd_of e2]; exact hz
  · refine .inr (up_op h2 ⟨ι, δ, G, _, _, _, s, ?_, k⟩)
    unfold opF
    rw [bd_of e1, bd_of e2]; exact eq2
end
section
variable {X : Cx} {κ : Str → Addr} {a b : Expr} {fa fb : Mo Ev} {pos : Pos} {k : Nat}
theorem e_in (hr : Room k X.A) (ha : LE X κ a fa) (hb : LE X κ b fb) (hm : behindInMarks .In b = false := by rfl) : LE X κ (.Compare a [.In] [b] pos) (opF inP fa fb) := .mk (pe_imp (pe_or (pe_cmpR op_in_seq ha.pe hb.pe hm) (pe_cmp (pc_din (hu_of hr) ha.pe hb.pe) hm)) fun _ _ _ => up_or2 prim_inL prim_inD)
theorem t_in (hr : Room k X.A) (ha : LE X κ a fa) (hb : LE X κ b fb) (hm : behindInMarks .In b = false := by rfl) : LT X κ (.Compare a [.In] [b] pos) (tstF (opF inP fa fb)) := .mk (pt_imp (pt_or (pt_cmpR op_in_seq ha.pe hb.pe hm) (pt_cmp (pc_din (hu_of hr) ha.pe hb.pe) hm)) fun _ _ _ h => up_or2 prim_inL prim_inD (up_test h))
theorem t_nin (hr : Room k X.A) (ha : LE X κ a fa) (hb : LE X κ b fb) (hm : behindInMarks .NotIn b = false := by rfl) : LT X κ (.Compare a [.NotIn] [b] pos) (tstF (opF ninP fa fb)) := .mk (pt_imp (pt_or (pt_cmpR op_notIn_seq ha.pe hb.pe hm) (pt_cmp (pc_dnotin (hu_of hr) ha.pe hb.pe) hm)) fun _ _ _ h => up_or2 prim_ninL prim_ninD (up_test h))
end
section
variable {K : PySem.W.Frag} {κ : Str → Addr}
noncomputable def lenP : List Ev → Mo Ev := fun es δ G => match es with
  | [a] => match sq δ G a with
    | some xs => some (.v (.im (.int xs.length)), δ, G)
    | none => match a with
      | .v (.im (.str z)) => if z.length ≤ 1000000 then some (.v (.im (.int z.length)), δ, G) else none
      | a => match pk δ G a with
        | some (.dic kvs) => some (.v (.im (.int kvs.length)), δ, G)
        | _ => none
  | _ => none
theorem prim_len : Prim K κ (fun xs H Q => (∃ p ys, xs = [.ref p] ∧ (SqL K H p ys ∨ SqT K H p ys) ∧ Q (.int ys.length) H) ∨ ((∃ z, xs = [.str z] ∧ z.length ≤ sizeLine ∧ Q (.int z.length) H) ∨ (∃ a kvs, xs = [V.ref a] ∧ H a = some (.dK kvs) ∧ Q (.int kvs.length) H))) lenP := by
  intro ι H σ δ G es vs e δ' G' Q a h k
  unfold lenP at h
  split at h
  · rename_i x
    split at h
    · rename_i xs hx
      obtain ⟨v, rfl⟩ := len1 a.len
      obtain ⟨p, ys, e1, h1, r⟩ := a.sq (j := 0) rfl rfl hx
      subst e1
      exact .inl ⟨p, ys, rfl, h1, by rw [r.len]; exact k _ _ _ (af3 h (fin_im a (.int _)))⟩
    · split at h
      · split at h
        · rename_i hz
          obtain ⟨v, rfl⟩ := len1 a.len
          cases rpStr (a.im (j := 0) rfl rfl)
          exact .inr (.inl ⟨_, rfl, Nat.le_trans hz (by decide), k _ _ _ (af3 h (fin_im a (.int _)))⟩)
        · cases h
      · split at h
        · rename_i kvs hp
          obtain ⟨v, rfl⟩ := len1 a.len
          obtain ⟨b, e1, ws, hw, e2, r⟩ := a.pk (j := 0) rfl rfl hp
          subst e1
          have e3 : kvs.length = ws.length := by have := congrArg List.length e2; simpa using this.symm
          exact .inr (.inr ⟨b, ws, rfl, hw, by rw [← e3]; exact k _ _ _ (af3 h (fin_im a (.int _)))⟩)
        · cases h
  · cases h
noncomputable def tupleP : List Ev → Mo Ev := fun es δ G => match es with
  | [.v (.im (.tup xs))] => some (.v (.im (.tup xs)), δ, G)
  | [.v (.im (.con xs))] => some (.v (.im (.con xs)), δ, G)
  | [a] => match sq δ G a with
    | some xs => some (.v (.im (.tup xs)), δ, G)
    | none => none
  | _ => none
theorem sqL_any {ι : List Addr} {H : Hp} {σ : L2.St} {δ : De} {G : List M} {e : Ev} {v : V} {xs : List I} (a : Args K κ ι H σ δ G [e] [v]) (h : sq δ G e = some xs) (n1 : ∀ ys, e ≠ .v (.im (.tup ys))) (n2 : ∀ ys, e ≠ .v (.im (.con ys))) : ∃ b ys, v = .ref b ∧ SqL K H b ys ∧ RpIs K ι H ys xs := by
  have fromPk : (match B.pk δ G e with | some (.lst xs) => some xs | _ => none) = some xs → ∃ b ys, v = .ref b ∧ SqL K H b ys ∧ RpIs K ι H ys xs := fun q => by
    split at q
    · rename_i xs' e'
      cases q
      obtain ⟨b, e1, ys, h3, r⟩ := a.pk (j := 0) rfl rfl e'
      exact ⟨b, ys, e1, SqL.of h3, r⟩
    · cases q
  cases e with
  | s i => exact fromPk h
  | v x =>
    cases x with
    | ow m => exact fromPk h
    | im d =>
      have r := a.im (j := 0) rfl rfl
      cases r with
      | tup q r => exact absurd rfl (n1 _)
      | con q r => exact absurd rfl (n2 _)
      | fro q r => cases h; exact ⟨_, _, rfl, q.sq, r⟩
      | ref q => exact fromPk h
      | non => exact fromPk h
      | bl => exact fromPk h
      | int => exact fromPk h
      | str => exact fromPk h
      | ty => exact fromPk h
noncomputable def max2P : List Ev → Mo Ev := intP fun i j => some (.int (if j > i then j else i))
theorem prim_int2 {g : Int → Int → Int} : Prim K κ (fun xs H Q => ∃ i j, xs = [.int i, .int j] ∧ Q (.int (g i j)) H) (intP fun i j => some (.int (g i j))) := by
  intro ι H σ δ G es vs e δ' G' Q a h k
  obtain ⟨x, y, e1, i, j, e2, e3, q⟩ := prim_rI0 (fun i j d h ι H => by cases h; exact .int _) ι H σ δ G es vs e δ' G' Q a h k
  exact ⟨i, j, by rw [e1, e2, e3], q⟩
noncomputable def notT : Ev → Bool
  | .v (.im (.tup _)) => false
  | .v (.im (.con _)) => false
  | _ => true
noncomputable def lrevP : List Ev → Mo Ev := fun es δ G => match es with
  | [a] => if notT a then match sq δ G a with
    | some xs => some (.v (.ow (.lst xs.reverse)), δ, G)
    | none => none
    else none
  | _ => none
theorem prim_lrev : Prim K κ (r1 fun x H1 Q => ∃ l ys, x = .ref l ∧ SqL K H1 l ys ∧ ∀ p, H1 p = none → Q (.ref p) (upd H1 p (.lst ys.reverse))) lrevP := by
  intro ι H σ δ G es vs e δ' G' Q a h k
  unfold lrevP at h
  split at h
  · rename_i x
    split at h
    · rename_i hl
      split at h
      · rename_i xs hx
        obtain ⟨v, rfl⟩ := len1 a.len
        obtain ⟨p, ys, e1, h1, r⟩ := sqL_any a hx (fun ys z => by subst z; cases hl) (fun ys z => by subst z; cases hl)
        subst e1
        exact ⟨_, rfl, p, ys, rfl, h1, fun l hl => k _ _ _ (af3 h (fin_lst a hl r.rev))⟩
      · cases h
    · cases h
  · cases h
end
section
variable {X : Cx} {κ : Str → Addr} {a b e : Expr} {es : List Expr} {fa fb : Mo Ev} {fs : Mo (List Ev)} {p pos : Pos} {k : Nat}
theorem e_len (hr : Room k X.A) (hm : X.mg "len" = none) (ha : LA X κ (e :: es) fs) (hg : Gl X "len" := by rfl) (he : starEach (e :: es) X.env = (false, eval e X.env) :: starEach es X.env := by rfl) (hpl : (backTo pos (starEach es X.env)).any (·.1) = false := by rfl) : LE X κ (.Call (.Name "len" p) (e :: es) [] pos) (bd fs lenP) := .mk (pe_imp (pe_callB (call_len_seq.or (call_len_str.or call_lenD)) hg hm PySem.boot_len ha.pe (by decide) (by decide) he hpl) fun _ _ _ q => up_args prim_len q)
theorem e_max2 (hr : Room k X.A) (hm : X.mg "max" = none) (ha : LA X κ (e :: es) fs) (hg : Gl X "max" := by rfl) (hc : X.calm = true := by rfl) (he : starEach (e :: es) X.env = (false, eval e X.env) :: starEach es X.env := by rfl) (hpl : (backTo pos (starEach es X.env)).any (·.1) = false := by rfl) : LE X κ (.Call (.Name "max" p) (e :: es) [] pos) (bd fs max2P) := .mk (pe_imp (pe_callB (call_max2 hc) hg hm PyProof.Rows.boot_max ha.pe (by decide) (by decide) he hpl) fun _ _ _ q => up_args prim_int2 q)
theorem e_lrev (hl : X.mg "list" = none) (hv : X.mg "reversed" = none) (h : LE X κ e fa) (hc : X.calm = true := by rfl) (gl : Gl X "list" := by rfl) (gr : Gl X "reversed" := by rfl) (hs1 : starEach [e] X.env = [(false, eval e X.env)] := by rfl)
    (hs2 : starEach [.Call (.Name "reversed" p2) [e] [] q2] X.env = [(false, eval (.Call (.Name "reversed" p2) [e] [] q2) X.env)] := by rfl) : LE X κ (.Call (.Name "list" p1) [.Call (.Name "reversed" p2) [e] [] q2] [] q1) (unF lrevP fa) := .mk (pe_imp (pe_listrev hc gl hl gr hv h.pe hs1 hs2) fun _ _ _ q => up_un prim_lrev q)
end
end B
namespace B
open PySem PySem.Spec PyProof.Rows L2
section
variable {X : Cx} {K : PySem.W.Frag} {κ : Str → Addr} {ι : List Addr} {H : Hp} {σ : L2.St}
noncomputable def noPt : Mo (List Ev) := rt []
noncomputable def somePt (f : Mo Ev) : Mo (List Ev) := one f
noncomputable def ptE : List Ev → Option (Option Int)
  | [] => some none
  | [.v (.im (.int i))] => some (some i)
  | _ => none
noncomputable def UpO (K : PySem.W.Frag) (κ : Str → Addr) (f : Mo (List Ev)) : TO := fun σ H Q => ∃ ι δ G es o δ' G', SR K κ ι H σ δ G ∧ f δ G = some (es, δ', G') ∧ ptE es = some o ∧ ∀ vs ι' H', After K κ σ ι (own σ δ ++ ι) H es δ' G' vs ι' H' → Q o H'
theorem po_none' : PO X none (UpO X.K κ noPt) := fun pins s σ H Q I h => po_none pins s σ H Q I (by
  obtain ⟨ι, δ, G, es, o, δ', G', s, e, p, k⟩ := h
  cases e; cases p
  exact k _ _ _ (After.nil s))
theorem po_some'  (h : LE X κ e f) : PO X (some e) (UpO X.K κ (somePt f)) := fun pins s σ H Q I q => po_some h.pe pins s σ H Q I (by
  obtain ⟨ι, δ, G, es, o, δ', G', s, e, p, k⟩ := q
  obtain ⟨x, δ1, G1, e1, e2⟩ := bd_inv e
  cases e2
  refine ⟨ι, δ, G, x, _, _, s, e1, fun v ι1 H1 a => ?_⟩
  unfold ptE at p
  split at p
  · rename_i hq; cases hq
  · rename_i i hq
    cases p
    cases hq
    have r := a.ar.im (j := 0) rfl rfl
    cases rpInt (r)
    exact ⟨i, rfl, k _ _ _ a⟩
  · cases p)
noncomputable def cutI (xs : List I) (lo hi : Option Int) : List I := (xs.drop (HT.sIx xs.length 0 lo)).take (HT.sIx xs.length xs.length hi - HT.sIx xs.length 0 lo)
theorem RpIs.cut {vs : List V} {xs : List I} (r : RpIs K ι H vs xs) (lo hi : Option Int) : RpIs K ι H (cutV vs lo hi) (cutI xs lo hi) := by
  unfold cutV cutI
  rw [r.len]
  exact (r.drop _).take _
noncomputable def sliQ (lo hi : Option Int) : List Ev → Mo Ev := fun es δ G => match es with
  | .v (.im (.tup xs)) :: _ => some (.v (.im (.tup (cutI xs lo hi))), δ, G)
  | .v (.im (.str z)) :: _ => if z.length ≤ 1000000 then some (.v (.im (.str (Txt.slice z lo hi))), δ, G) else none
  | a :: _ => if notT a then match sq δ G a with
    | some xs => some (.v (.ow (.lst (cutI xs lo hi))), δ, G)
    | none => none
    else none
  | _ => none
noncomputable def sliF (fe : Mo Ev) (fl fh : Mo (List Ev)) : Mo Ev := bd fe fun x => bd fl fun ls => bd fh fun hs => fun δ G => match ptE ls, ptE hs with
  | some lo, some hi => sliQ lo hi (x :: (ls ++ hs)) δ G
  | _, _ => none
theorem sqL_head {δ : De} {G : List M} {e : Ev} {es : List Ev} {v : V} {vs : List V} {xs : List I} (a : Args K κ ι H σ δ G (e :: es) (v :: vs)) (h : sq δ G e = some xs) (n : notT e = true) : ∃ b ys, v = .ref b ∧ SqL K H b ys ∧ RpIs K ι H ys xs := by
  have fromPk : (match B.pk δ G e with | some (.lst xs) => some xs | _ => none) = some xs → ∃ b ys, v = .ref b ∧ SqL K H b ys ∧ RpIs K ι H ys xs := fun q => by
    split at q
    · rename_i xs' e'
      cases q
      obtain ⟨b, e1, ys, h3, r⟩ := a.pk (j := 0) rfl rfl e'
      exact ⟨b, ys, e1, SqL.of h3, r⟩
    · cases q
  cases e with
  | s i => exact fromPk h
  | v x =>
    cases x with
    | ow m => exact fromPk h
    | im d =>
      have r := a.im (j := 0) rfl rfl
      cases r with
      | tup q r => cases n
      | con q r => cases n
      | fro q r => cases h; exact ⟨_, _, rfl, q.sq, r⟩
      | ref q => exact fromPk h
      | non => exact fromPk h
      | bl => exact fromPk h
      | int => exact fromPk h
      | str => exact fromPk h
      | ty => exact fromPk h
noncomputable def rSlAll (K : PySem.W.Frag) : V → Option Int → Option Int → Hp → VK → Prop := fun x lo hi H Q => rSlL K x lo hi H Q ∨ (rSlTA x lo hi H Q ∨ rSlS x lo hi H Q)
theorem up_sli {fe : Mo Ev} {fl fh : Mo (List Ev)} {Q : VK} (h : UpE K κ (sliF fe fl fh) σ H Q) : tSl (rSlAll K) (UpE K κ fe) (UpO K κ fl) (UpO K κ fh) σ H Q := by
  obtain ⟨ι, δ, G, e, δ', G', s, eq, k⟩ := h
  obtain ⟨x, δ1, G1, e1, eq1⟩ := bd_inv eq
  obtain ⟨ls, δ2, G2, e2, eq2⟩ := bd_inv eq1
  obtain ⟨hs, δ3, G3, e3, eq3⟩ := bd_inv eq2
  split at eq3
  · rename_i lo hi hlo hhi
    refine ⟨ι, δ, G, x, δ1, G1, s, e1, fun v ι1 H1 a1 => ?_⟩
    refine ⟨ι1, δ1, G1, ls, lo, δ2, G2, a1.ar.base, e2, hlo, fun vs ι2 H2 a2 => ?_⟩
    refine ⟨ι2, δ2, G2, hs, hi, δ3, G3, a2.ar.base, e3, hhi, fun ws ι3 H3 a3 => ?_⟩
    have a23 := a2.app a3
    have a := a1.app a23
    have fin : ∀ {v' : V} {ι' : List Addr} {H' : Hp}, After K κ σ ι3 (own (σ ++ tS ([x] ++ (ls ++ hs)) ([v] ++ (vs ++ ws))) (δ3 ++ tD ([x] ++ (ls ++ hs))) ++ ι3) H3 [e] δ' G' [v'] ι' H' → Q v' H' := fun b => k _ _ _ (a.then b)
    have ar : Args K κ ι3 H3 σ δ3 G3 (x :: (ls ++ hs)) (v :: (vs ++ ws)) := a.ar
    unfold sliQ at eq3
    split at eq3
    · rename_i xs rest hq
      cases hq
      have r := ar.im (j := 0) rfl rfl
      obtain ⟨_, _, rfl, h1, h2⟩ := rpTup r
      refine .inr (.inl ⟨_, _, rfl, h1, fun b H' hb kp => ?_⟩)
      exact fin (af3 eq3 (fin_same a.ar kp (.tup hb ((h2.cut lo hi).mono (Pre.refl _) (Kp.same kp)))))
    · rename_i z rest hq
      cases hq
      split at eq3
      · rename_i hz
        cases rpStr (ar.im (j := 0) rfl rfl)
        exact .inr (.inr ⟨z, rfl, Nat.le_trans hz (by decide), fin (af3 eq3 (fin_im a.ar (.str _)))⟩)
      · cases eq3
    · rename_i a0 rest _ _ hq
      cases hq
      split at eq3
      · rename_i hn
        split at eq3
        · rename_i xs hx
          obtain ⟨b, ys, e4, h1, r⟩ := sqL_head ar hx hn
          exact .inl ⟨b, ys, e4, h1, fun p hp => fin (af3 eq3 (fin_lst a.ar hp (r.cut lo hi)))⟩
        · cases eq3
      · cases eq3
    · cases eq3
  · cases eq3
noncomputable def revP : List Ev → Mo Ev := fun es δ G => match es with
  | [.v (.im (.tup xs))] => some (.v (.im (.tup xs.reverse)), δ, G)
  | [a] => if notT a then match sq δ G a with
    | some xs => some (.v (.ow (.lst xs.reverse)), δ, G)
    | none => none
    else none
  | _ => none
theorem pick_rev (xs : List V) : pickV xs none none (some (-1)) = xs.reverse := by
  obtain ⟨h1, h2⟩ := pick_back xs
  refine List.ext_getElem? fun j => ?_
  by_cases hj : j < xs.length
  · rw [h2 j hj, List.getElem?_reverse hj]
  · rw [List.getElem?_eq_none_iff.mpr (by lia), List.getElem?_eq_none_iff.mpr (by rw [List.length_reverse]; lia)]
theorem up_rev {fe : Mo Ev} {tk : TO} {Q : VK} (htk : ∀ σ H Q, Q (some (-1)) H → tk σ H Q) (h : UpE K κ (unF revP fe) σ H Q) : tRevT K (UpE K κ fe) σ H Q ∨ tSlS K (UpE K κ fe) tNoPart tNoPart tk σ H Q := by
  obtain ⟨ι, δ, G, e, δ', G', s, eq, k⟩ := h
  obtain ⟨x, δ1, G1, e1, eq1⟩ := bd_inv eq
  unfold revP at eq1
  split at eq1
  · rename_i xs hq
    cases hq
    refine .inl ⟨ι, δ, G, _, _, _, s, e1, fun v ι1 H1 a => ?_⟩
    have r := a.ar.im (j := 0) rfl rfl
    obtain ⟨_, _, rfl, h1, h2⟩ := rpTup r
    exact ⟨_, _, rfl, SqT.of h1, fun p hp => k _ _ _ (af3 eq1 (a.then (fin_tup a.ar hp h2.rev)))⟩
  · rename_i a0 _ hq
    cases hq
    split at eq1
    · rename_i hn
      split at eq1
      · rename_i xs hx
        refine .inr ⟨ι, δ, G, _, _, _, s, e1, fun v ι1 H1 a => ?_⟩
        refine htk _ _ _ ?_
        obtain ⟨b, ys, e6, h1, r⟩ := sqL_head a.ar hx hn
        refine ⟨b, ys, e6, h1, (by decide), fun p hp => ?_⟩
        rw [pick_rev]
        exact k _ _ _ (af3 eq1 (a.then (fin_lst a.ar hp r.rev)))
      · cases eq1
    · cases eq1
  · cases eq1
end
section
variable {X : Cx} {κ : Str → Addr} {a b e st : Expr} {fa fb : Mo Ev} {fl fh : Mo (List Ev)} {lo hi : Option Expr} {pos p2 : Pos} {k : Nat}
theorem e_sli (h : LE X κ e fa) (hl : PO X lo (UpO X.K κ fl)) (hh : PO X hi (UpO X.K κ fh)) : LE X κ (.Subscript e (.Slice lo hi none p2) pos) (sliF fa fl fh) := .mk (pe_imp (pe_slice (sl_list.or (sl_tupA.or sl_str)) h.pe hl hh) fun _ _ _ => up_sli)
theorem e_rev {pu pc : Pos} {j} (h : LE X κ e fa) : LE X κ (.Subscript e (.Slice none none (some (.UnaryOp .USub (.Constant (.int 1) j pc) pu)) p2) pos) (unF revP fa) := .mk (pe_imp (pe_or (pe_revT h.pe (pe_un un_neg pe_int) fun _ _ _ q => ⟨1, rfl, q⟩) (pe_sliceS h.pe po_none po_none (pe_un un_neg pe_int))) fun _ _ _ q => up_rev (fun _ _ _ q => ⟨1, rfl, ⟨_, rfl, q⟩⟩) q)
end
end B
namespace B
open PySem PySem.Spec PyProof.Rows L2
section
variable {X : Cx} {K : PySem.W.Frag} {κ : Str → Addr} {ι : List Addr} {H : Hp} {σ : L2.St}
noncomputable def isLst (δ : De) (G : List M) (e : Ev) : Bool := match pk δ G e with
  | some (.lst _) => true
  | _ => false
noncomputable def bmF (p : List Ev → Mo Ev) (fo : Mo Ev) (fa : Mo (List Ev)) : Mo Ev := bd fo fun e => fun δ G => if isLst δ G e then bd fa (fun es => p (e :: es)) δ G else none
noncomputable def rM (r : V → List V → Hp → VK → Prop) : List V → Hp → VK → Prop := fun vs H Q => ∃ x xs, vs = x :: xs ∧ r x xs H Q
theorem lst_ty {δ : De} {G : List M} {e : Ev} {v : V} {fp : List Addr} {H0 : Hp} {ι0 : List Addr} (a : After K κ σ ι0 fp H0 [e] δ G [v] ι H) (h : isLst δ G e = true) : tyV K "list" v H := by
  unfold isLst at h
  split at h
  · rename_i xs hp
    obtain ⟨b, e1, ys, h1, r⟩ := a.ar.pk (j := 0) rfl rfl hp
    subst e1
    exact .inl ⟨rfl, ys, SqL.of h1⟩
  · cases h
theorem up_bm {p : List Ev → Mo Ev} {fo : Mo Ev} {fa : Mo (List Ev)} {r : V → List V → Hp → VK → Prop} {Q : VK} (hp : Prim K κ (rM r) p) (h : UpE K κ (bmF p fo fa) σ H Q) : tBM K "list" r (UpE K κ fo) (UpA K κ fa) σ H Q := by
  obtain ⟨ι, δ, G, e, δ', G', s, eq, k⟩ := h
  obtain ⟨x, δ1, G1, e1, eq1⟩ := bd_inv eq
  split at eq1
  · rename_i hl
    obtain ⟨es, δ2, G2, e2, eq2⟩ := bd_inv eq1
    refine ⟨ι, δ, G, x, δ1, G1, s, e1, fun v ι1 H1 a1 => ⟨lst_ty a1 hl, ?_⟩⟩
    refine ⟨ι1, δ1, G1, es, δ2, G2, a1.ar.base, e2, fun vs ι2 H2 a2 => ?_⟩
    have a := a1.app a2
    obtain ⟨y, ys, ey, q⟩ := hp _ _ _ _ _ _ _ _ _ _ Q a.ar eq2 fun v ι3 H3 d => k _ _ _ (a.then d)
    cases ey
    exact q
  · cases eq1
theorem up_bm0 {p : List Ev → Mo Ev} {fo : Mo Ev} {r : V → List V → Hp → VK → Prop} {Q : VK} (hp : Prim K κ (rM r) p) (hl : ∀ e δ G z, p [e] δ G = some z → isLst δ G e = true) (h : UpE K κ (unF p fo) σ H Q) : tBM0 K "list" r (UpE K κ fo) σ H Q := by
  obtain ⟨ι, δ, G, e, δ', G', s, eq, k⟩ := h
  obtain ⟨x, δ1, G1, e1, eq1⟩ := bd_inv eq
  refine ⟨ι, δ, G, x, δ1, G1, s, e1, fun v ι1 H1 a1 => ⟨lst_ty a1 (hl _ _ _ _ eq1), ?_⟩⟩
  obtain ⟨y, ys, ey, q⟩ := hp _ _ _ _ _ _ _ _ _ _ Q a1.ar eq1 fun v ι3 H3 d => k _ _ _ (a1.then d)
  cases ey
  exact q
noncomputable def append1P : List Ev → Mo Ev := fun es δ G => match es with
  | [a, .v (.im d)] => match pk δ G a with
    | some (.lst xs) => if xs.length < 1000000 then some (.v (.im .non), (pkS δ G (.lst (xs ++ [d])) a).1, (pkS δ G (.lst (xs ++ [d])) a).2) else none
    | _ => none
  | _ => none
theorem prim_append : Prim K κ (rM rAppend) append1P := by
  intro ι H σ δ G es vs e δ' G' Q a h k
  unfold append1P at h
  split at h
  · rename_i x d
    split at h
    · rename_i xs hx
      split at h
      · rename_i hl
        obtain ⟨v, u, rfl⟩ := len2 a.len
        obtain ⟨b, e1, ys, h1, r⟩ := a.pk (j := 0) rfl rfl hx
        subst e1
        have ru := a.im (j := 1) rfl rfl
        have l1 := r.len
        refine ⟨_, _, rfl, b, ys, u, rfl, rfl, h1, Nat.lt_of_lt_of_le (by lia) (show 1000000 ≤ sizeLine by decide), k _ _ _ (af3 h (fin_mut a (j := 0) rfl rfl hx (fun _ kp => ⟨_, upd_same, (r.app (.cons ru .nil)).mono (Pre.refl _) kp⟩) .non))⟩
      · cases h
    · cases h
  · cases h
noncomputable def extend1P : List Ev → Mo Ev := fun es δ G => match es with
  | [a, b] => match pk δ G a, sq δ G b with
    | some (.lst xs), some ys => if xs.length + ys.length ≤ 1000000 ∧ notC b then some (.v (.im .non), (pkS δ G (.lst (xs ++ ys)) a).1, (pkS δ G (.lst (xs ++ ys)) a).2) else none
    | _, _ => none
  | _ => none
where notC : Ev → Bool
  | .v (.im (.fro _)) => false
  | _ => true
theorem prim_extend : Prim K κ (rM fun x xs H Q => rExtend x xs H Q ∨ rExtendT K x xs H Q) extend1P := by
  intro ι H σ δ G es vs e δ' G' Q a h k
  unfold extend1P at h
  split at h
  · rename_i x y
    split at h
    · rename_i xs ys hx hy
      split at h
      · rename_i hl
        obtain ⟨v, u, rfl⟩ := len2 a.len
        obtain ⟨b, e1, zs, h1, r⟩ := a.pk (j := 0) rfl rfl hx
        subst e1
        have l1 := r.len
        have ty : (∃ c ws, u = .ref c ∧ H c = some (.lst ws) ∧ RpIs K ι H ws ys) ∨ (∃ c ws, u = .ref c ∧ SqT K H c ws ∧ RpIs K ι H ws ys) := by
          have fromPk : (match B.pk δ G y with | some (.lst xs) => some xs | _ => none) = some ys → ∃ c ws, u = .ref c ∧ H c = some (.lst ws) ∧ RpIs K ι H ws ys := fun q => by
            split at q
            · rename_i xs' e'
              cases q
              obtain ⟨b, e1, ws, h3, r⟩ := a.pk (j := 1) rfl rfl e'
              exact ⟨b, ws, e1, h3, r⟩
            · cases q
          cases y with
          | s i => exact .inl (fromPk hy)
          | v z =>
            cases z with
            | ow m => exact .inl (fromPk hy)
            | im d =>
              have r := a.im (j := 1) rfl rfl
              cases r with
              | tup q r => cases hy; exact .inr ⟨_, _, rfl, SqT.of q, r⟩
              | con q r => cases hy; exact .inr ⟨_, _, rfl, SqT.kon q, r⟩
              | fro q r => cases hl.2
              | ref q => exact .inl (fromPk hy)
              | non => exact .inl (fromPk hy)
              | bl => exact .inl (fromPk hy)
              | int => exact .inl (fromPk hy)
              | str => exact .inl (fromPk hy)
              | ty => exact .inl (fromPk hy)
        have fin : ∀ {ws : List V}, RpIs K ι H ws ys → Q .non (upd H b (.lst (zs ++ ws))) := fun rw' => k _ _ _ (af3 h (fin_mut a (j := 0) rfl rfl hx (fun _ kp => ⟨_, upd_same, (r.app rw').mono (Pre.refl _) kp⟩) .non))
        rcases ty with ⟨c, ws, rfl, hc, r2⟩ | ⟨c, ws, rfl, hc, r2⟩
        · have l2 := r2.len
          exact ⟨_, _, rfl, .inl ⟨b, c, zs, ws, rfl, rfl, h1, hc, Nat.le_trans (by lia) (show 1000000 ≤ sizeLine by decide), fin r2⟩⟩
        · have l2 := r2.len
          exact ⟨_, _, rfl, .inr ⟨b, c, zs, ws, rfl, rfl, h1, hc, Nat.le_trans (by lia) (show 1000000 ≤ sizeLine by decide), fin r2⟩⟩
      · cases h
    · cases h
  · cases h
noncomputable def pop0P : List Ev → Mo Ev := fun es δ G => match es with
  | [a] => match pk δ G a with
    | some (.lst xs) => match xs[xs.length - 1]? with
      | some d => some (.v (.im d), (pkS δ G (.lst xs.dropLast) a).1, (pkS δ G (.lst xs.dropLast) a).2)
      | none => none
    | _ => none
  | _ => none
theorem RpIs.dropLast {vs : List V} {xs : List I} (r : RpIs K ι H vs xs) : RpIs K ι H vs.dropLast xs.dropLast := by
  rw [List.dropLast_eq_take, List.dropLast_eq_take, r.len]
  exact r.take _
theorem prim_pop : Prim K κ (rM rPop) pop0P := by
  intro ι H σ δ G es vs e δ' G' Q a h k
  unfold pop0P at h
  split at h
  · rename_i x
    split at h
    · rename_i xs hx
      split at h
      · rename_i d hd
        obtain ⟨v, rfl⟩ := len1 a.len
        obtain ⟨b, e1, ys, h1, r⟩ := a.pk (j := 0) rfl rfl hx
        subst e1
        obtain ⟨w, hw, rw'⟩ := r.get hd
        refine ⟨_, _, rfl, b, ys, w, rfl, rfl, h1, by rw [r.len]; exact hw, k _ _ _ (af3 h (fin_mut a (j := 0) rfl rfl hx (fun _ kp => ⟨_, upd_same, r.dropLast.mono (Pre.refl _) kp⟩) rw'))⟩
      · cases h
    · cases h
  · cases h
theorem pop_lst (e : Ev) (δ : De) (G : List M) (z : Ev × De × List M) (h : pop0P [e] δ G = some z) : isLst δ G e = true := by
  unfold pop0P at h
  dsimp only at h
  unfold isLst
  split at h
  · rfl
  · cases h
noncomputable def putQ : List Ev → De → List M → Option (De × List M) := fun es δ G => match es with
  | [.v (.im d), a, .v (.im x)] => match pk δ G a with
    | some (.lst xs) => match x with
      | .int i => match ixN xs.length i with
        | some j => some (pkS δ G (.lst (xs.set j d)) a)
        | none => none
      | _ => none
    | some (.dic kvs) => match keyI x with
      | some k => if kvs.length < 1000000 then some (pkS δ G (.dic (putD kvs k d)) a) else none
      | none => none
    | some (.dit kvs) => match keyT x with
      | some k => if kvs.length < 1000000 then some (pkS δ G (.dit (putD kvs k d)) a) else none
      | none => none
    | _ => none
  | _ => none
noncomputable def putF' (fo fi fv : Mo Ev) : SF := fun δ G => match bd fv (fun v => bd fo fun o => bd fi fun i => rt [v, o, i]) δ G with
  | some (es, δ1, G1) => match putQ es δ1 G1 with
    | some (δ2, G2) => some (.nx δ2 G2)
    | none => none
  | none => none
theorem up_put {fo fi fv : Mo Ev} {D : Ends} (h : UpS K κ (putF' fo fi fv) D σ H) : tAsg (UpE K κ fv) (gSub (UpE K κ fo) (UpE K κ fi) rSetL) D σ H ∨ sDPut (UpE K κ fo) (UpE K κ fi) (UpE K κ fv) D σ H := by
  obtain ⟨ι, δ, G, fl, s, eq, k⟩ := h
  unfold putF' at eq
  split at eq
  · rename_i es δe Ge ee
    obtain ⟨v, δ1, G1, e1, ee⟩ := bd_inv ee
    obtain ⟨o, δ2, G2, e2, ee⟩ := bd_inv ee
    obtain ⟨i, δ3, G3, e3, ee⟩ := bd_inv ee
    cases ee
    split at eq
    · rename_i δ4 G4 e4
      cases eq
      -- what comes behind the three
      have go : ∀ {vv ov iv : V} {ι3 : List Addr} {H3 : Hp}, After K κ σ ι (own σ δ ++ ι) H [v, o, i] δe Ge [vv, ov, iv] ι3 H3 →
          (∃ p xs kk j, ov = .ref p ∧ iv = .int kk ∧ H3 p = some (.lst xs) ∧ ixN xs.length kk = some j ∧ D.nx σ (upd H3 p (.lst (xs.set j vv)))) ∨ (∃ a H4, ov = .ref a ∧ DPut H3 a iv vv H4 ∧ D.nx σ H4) := fun {vv ov iv ι3 H3} a => by
        unfold putQ at e4
        split at e4
        · rename_i d a0 x hq
          cases hq
          have rv := a.ar.im (j := 0) rfl rfl
          have rx := a.ar.im (j := 2) rfl rfl
          have nxt : ∀ {m m' : M} {b : Addr} {ob : HO}, isF m = false → pk δe Ge o = some m → ov = .ref b → (RpM K κ ι3 H3 b m → Kp H3 (upd H3 b ob) → RpM K κ ι3 (upd H3 b ob) b m') → (pkS δe Ge m' o = (δ4, G4)) → D.nx σ (upd H3 b ob) := fun hf hp eo hr he => by
            subst eo
            have f := fin_mut a.ar (j := 1) rfl rfl hp hr (RpI.non) hf
            obtain ⟨p, q⟩ := (a.then f).drop
            rw [he] at p q
            exact k _ _ _ p q
          split at e4
          · rename_i xs hp
            cases rx with
            | int kk =>
              dsimp only at e4
              split at e4
              · rename_i j hj
                obtain ⟨b, eb, ys, h1, r⟩ := a.ar.pk (j := 1) rfl rfl hp
                have l := r.len
                exact .inl ⟨b, ys, kk, j, eb, rfl, h1, by rw [l]; exact hj, nxt (m' := .lst (xs.set j d)) rfl hp eb (fun _ kp => ⟨_, upd_same, (r.set j rv).mono (Pre.refl _) kp⟩) (Option.some.inj e4)⟩
              · cases e4
            | _ => cases e4
          · rename_i kvs hp
            split at e4
            · rename_i kk hk
              split at e4
              · rename_i hl
                obtain ⟨b, eb, ws, h1, h2, r⟩ := a.ar.pk (j := 1) rfl rfl hp
                have ek := keyI_of rx hk
                subst ek
                have l : ws.length = kvs.length := by have := congrArg List.length h2; simpa using this
                refine .inr ⟨b, _, eb, DPut.k h1 (Nat.lt_of_lt_of_le (by lia) (show 1000000 ≤ sizeLine by decide)), nxt rfl hp eb (fun _ kp => ?_) (Option.some.inj e4)⟩
                obtain ⟨p, q⟩ := putD_rel rv h2 r
                exact ⟨_, upd_same, p, q.mono (Pre.refl _) kp⟩
              · cases e4
            · cases e4
          · rename_i kvs hp
            split at e4
            · rename_i kk hk
              split at e4
              · rename_i hl
                obtain ⟨b, eb, ws, h1, h2, r⟩ := a.ar.pk (j := 1) rfl rfl hp
                obtain ⟨c, ek, hc⟩ := keyT_of rx hk
                subst ek
                have l : ws.length = kvs.length := by have := congrArg List.length h2; simpa using this
                refine .inr ⟨b, _, eb, DPut.t h1 hc (Nat.lt_of_lt_of_le (by lia) (show 1000000 ≤ sizeLine by decide)), nxt rfl hp eb (fun _ kp => ?_) (Option.some.inj e4)⟩
                obtain ⟨p, q⟩ := putD_rel (k := kk) rv h2 r
                exact ⟨_, upd_same, p, q.mono (Pre.refl _) kp⟩
              · cases e4
            · cases e4
          · cases e4
        · cases e4
      -- is it a list
      by_cases hl : ∃ xs, pk δe Ge o = some (.lst xs)
      · left
        refine ⟨ι, δ, G, v, δ1, G1, s, e1, fun vv ι1 H1 a1 => ?_⟩
        refine ⟨ι1, δ1, G1, o, δ2, G2, a1.ar.base, e2, fun ov ι2 H2 a2 => ?_⟩
        refine ⟨ι2, δ2, G2, i, _, _, a2.ar.base, e3, fun iv ι3 H3 a3 => ?_⟩
        have a := a1.app (a2.app a3)
        rcases go a with q | ⟨a', H4, ea, dp, q⟩
        · exact q
        · exfalso
          obtain ⟨xs, hx⟩ := hl
          obtain ⟨b, eb, ys, h1, r⟩ := a.ar.pk (j := 1) rfl rfl hx
          rw [ea] at eb; cases eb
          rcases dp with ⟨_, _, h2, _⟩ | ⟨_, _, _, h2, _⟩ <;> (rw [h1] at h2; cases h2)
      · right
        refine ⟨ι, δ, G, v, δ1, G1, s, e1, fun vv ι1 H1 a1 => ?_⟩
        refine ⟨ι1, δ1, G1, o, δ2, G2, a1.ar.base, e2, fun ov ι2 H2 a2 => ?_⟩
        refine ⟨ι2, δ2, G2, i, _, _, a2.ar.base, e3, fun iv ι3 H3 a3 => ?_⟩
        have a := a1.app (a2.app a3)
        rcases go a with ⟨p, xs, kk, j, eo, _, h1, _, _⟩ | q
        · exfalso
          unfold putQ at e4
          split at e4
          · rename_i d a0 x hq
            cases hq
            split at e4
            · rename_i ys hp; exact hl ⟨ys, hp⟩
            · rename_i kvs hp
              obtain ⟨b, eb, ws, h2, _⟩ := a.ar.pk (j := 1) rfl rfl hp
              rw [eo] at eb; cases eb
              rw [h1] at h2; cases h2
            · rename_i kvs hp
              obtain ⟨b, eb, ws, h2, _⟩ := a.ar.pk (j := 1) rfl rfl hp
              rw [eo] at eb; cases eb
              rw [h1] at h2; cases h2
            · cases e4
          · cases e4
        · exact q
    · cases eq
  · cases eq
end
section
variable {X : Cx} {κ : Str → Addr} {a b e o : Expr} {es : List Expr} {fa fb fv : Mo Ev} {fs : Mo (List Ev)} {pos apos cpos pos' : Pos} {k : Nat}
theorem e_append1 (hr : Room k X.A) (ho : LE X κ o fa) (ha : LA X κ (e :: es) fs) (hbase : attributeBase o "append" X.env (eval o X.env) = eval o X.env := by rfl)
    (hfew : ((backTo cpos (starEach (e :: es) X.env)).all (fun x => !x.1) && (backToKw cpos (keywordEach [] X.env)).all (fun x => x.1.isSome) && decide ((e :: es).length + ([] : List Keyword).length + (if ([] : List Keyword).isEmpty then 0 else 1) < 30)) = true := by rfl)
    (hline : (apos.endLine == cpos.line) = true := by rfl) (hs : starEach (e :: es) X.env = (false, eval e X.env) :: starEach es X.env := by rfl) (hplain : (backTo cpos (starEach es X.env)).any (·.1) = false := by rfl) : LE X κ (.Call (.Attribute o "append" apos) (e :: es) [] cpos) (bmF append1P fa fs) := .mk (pe_imp (pe_bm PySem.F.plainAttrs_list PySem.F.slot_list_append PySem.F.type_list_append mt_append ho.pe ha.pe hbase hfew hline hs hplain) fun _ _ _ => up_bm prim_append)
theorem e_extend1 (hr : Room k X.A) (ho : LE X κ o fa) (ha : LA X κ (e :: es) fs) (hbase : attributeBase o "extend" X.env (eval o X.env) = eval o X.env := by rfl)
    (hfew : ((backTo cpos (starEach (e :: es) X.env)).all (fun x => !x.1) && (backToKw cpos (keywordEach [] X.env)).all (fun x => x.1.isSome) && decide ((e :: es).length + ([] : List Keyword).length + (if ([] : List Keyword).isEmpty then 0 else 1) < 30)) = true := by rfl)
    (hline : (apos.endLine == cpos.line) = true := by rfl) (hs : starEach (e :: es) X.env = (false, eval e X.env) :: starEach es X.env := by rfl) (hplain : (backTo cpos (starEach es X.env)).any (·.1) = false := by rfl) : LE X κ (.Call (.Attribute o "extend" apos) (e :: es) [] cpos) (bmF extend1P fa fs) := .mk (pe_imp (pe_bm PySem.F.plainAttrs_list PySem.F.slot_list_extend PySem.F.type_list_extend (MtR.or mt_extend mt_extendT) ho.pe ha.pe hbase hfew hline hs hplain) fun _ _ _ => up_bm prim_extend)
theorem e_pop0 (ho : LE X κ o fa) (hbase : attributeBase o "pop" X.env (eval o X.env) = eval o X.env := by rfl) (hline : (apos.endLine == cpos.line) = true := by rfl) : LE X κ (.Call (.Attribute o "pop" apos) [] [] cpos) (unF pop0P fa) := .mk (pe_imp (pe_bm0 PySem.F.plainAttrs_list PySem.F.slot_list_pop PySem.F.type_list_pop mt_pop ho.pe hbase hline) fun _ _ _ => up_bm0 prim_pop pop_lst)
theorem s_put (hr : Room k X.A) (ho : LE X κ o fa) (hi : LE X κ e fb) (hv : LE X κ a fv) (hs : swapsWith a (some (.Subscript o e pos')) pos.line X.env = pure false := by rfl) (hs1 : swapsWithSole [.Subscript o e pos'] a pos.line X.env = pure false := by rfl)
    (hw : swappedStores [.Subscript o e pos'] a X.env = pure none := by rfl) (h1 : (assignEach [.Subscript o e pos'] X.env).map (·.2) = [assign (.Subscript o e pos') X.env] := by rfl)
    (ha : ∀ v, assign (.Subscript o e pos') X.env v = (do
      let ov ← holding [v] (eval o X.env)
      let iv ← holding [v, ov] (eval e X.env)
      standAt pos'
      holding [v, ov, iv] (setItem ov iv v)
      release [v, ov, iv] []) := by intro _; rfl) : LS X κ (.Assign [.Subscript o e pos'] a pos) (putF' fa fb fv) := .mk (ps_imp (ps_or (ps_asg hv.pe (pg_sub ho.pe hi.pe set_list ha) hs1 hw h1) (ps_dput (hu_of hr) ho.pe hi.pe hv.pe hs)) fun _ _ _ => up_put)
end
end B
namespace B
open PySem PySem.Spec PyProof.Rows L2
section
variable {X : Cx} {K : PySem.W.Frag} {κ : Str → Addr} {ι : List Addr} {H : Hp} {σ : L2.St}
noncomputable def newK : Mo Ev := rt (.v (.ow (.dic [])))
noncomputable def newT : Mo Ev := rt (.v (.ow (.dit [])))
/-- the pairs of a display: keys and values by turns -/
noncomputable def UpPs (K : PySem.W.Frag) (κ : Str → Addr) (trs : List (TE × TE)) (f : Mo (List Ev)) : Prop := ∀ σ H Q, UpA K κ f σ H (fun vs H1 => ∀ ps : List (V × V), vs = ps.flatMap (fun p => [p.1, p.2]) → Q ps H1) → tPairs trs σ H Q
noncomputable def pnil : Mo (List Ev) := rt []
noncomputable def pcons (fk fv : Mo Ev) (r : Mo (List Ev)) : Mo (List Ev) := bd fk fun a => bd fv fun b => bd r fun es => rt (a :: b :: es)
theorem ups_nil : UpPs K κ [] pnil := fun σ H Q h => by
  obtain ⟨ι, δ, G, es, δ', G', s, e, k⟩ := h
  cases e
  exact k _ _ _ (After.nil s) [] rfl
theorem ups_cons {fk fv : Mo Ev} {r : Mo (List Ev)} {trs : List (TE × TE)} (hr : UpPs K κ trs r) : UpPs K κ ((UpE K κ fk, UpE K κ fv) :: trs) (pcons fk fv r) := fun σ H Q h => by
  obtain ⟨ι, δ, G, es, δ', G', s, e, k⟩ := h
  obtain ⟨x, δ1, G1, e1, e⟩ := bd_inv e
  obtain ⟨y, δ2, G2, e2, e⟩ := bd_inv e
  obtain ⟨zs, δ3, G3, e3, e⟩ := bd_inv e
  cases e
  refine ⟨ι, δ, G, x, δ1, G1, s, e1, fun v ι1 H1 a1 => ?_⟩
  refine ⟨ι1, δ1, G1, y, δ2, G2, a1.ar.base, e2, fun w ι2 H2 a2 => ?_⟩
  refine hr _ _ _ ⟨ι2, δ2, G2, zs, _, _, a2.ar.base, e3, fun vs ι3 H3 a3 ps hps => ?_⟩
  exact k _ _ _ (a1.app (a2.app a3)) ((v, w) :: ps) (by rw [hps]; rfl)
noncomputable def pairsE : List Ev → Option (List (Key × I))
  | [] => some []
  | .v (.im x) :: .v (.im d) :: r => match keyI x, pairsE r with
    | some k, some ps => some ((k, d) :: ps)
    | _, _ => none
  | _ => none
noncomputable def mergeI (ps : List (Key × I)) : List (Key × I) := ps.foldl (fun acc kv => putD acc kv.1 kv.2) []
noncomputable def dicF (f : Mo (List Ev)) : Mo Ev := bd f fun es δ G => match pairsE es with
  | some ps => if ps.length ≤ 15 then some (.v (.ow (.dic (mergeI ps))), δ, G) else none
  | none => none
theorem pairs_rel : ∀ {es : List Ev} {vs : List V} {ps : List (Key × I)}, Paired (RpE K κ ι H) (tS es vs) (tD es) → es.length = vs.length → pairsE es = some ps →
    ∃ kvs : List (Key × V), vs = (kvs.map fun kv => (kV kv.1, kv.2)).flatMap (fun p => [p.1, p.2]) ∧ kvs.map (·.1) = ps.map (·.1) ∧ RpIs K ι H (kvs.map (·.2)) (ps.map (·.2))
  | [], [], _, _, _, h => by cases h; exact ⟨[], rfl, rfl, .nil⟩
  | [], _ :: _, _, _, l, _ => by cases l
  | _ :: _, [], _, _, l, _ => by cases l
  | [_], [_], _, _, _, h => by
    unfold pairsE at h
    split at h
    · rename_i hq; cases hq
    · rename_i hq; cases hq
    · cases h
  | [_], _ :: _ :: _, _, _, l, _ => by cases l
  | _ :: _ :: _, [_], _, _, l, _ => by cases l
  | a :: b :: es, v :: w :: vs, ps, p, l, h => by
    unfold pairsE at h
    split at h
    · rename_i hq; cases hq
    · rename_i x d r hq
      cases hq
      split at h
      · rename_i kk ps' hk hps
        cases h
        cases p with
        | cons p1 p =>
          cases p with
          | cons p2 p =>
            cases p1 with
            | im r1 =>
              cases p2 with
              | im r2 =>
                obtain ⟨kvs, e1, e2, e3⟩ := pairs_rel p (by simpa using l) hps
                refine ⟨(kk, w) :: kvs, ?_, ?_, .cons r2 e3⟩
                · rw [keyI_of r1 hk, e1]; rfl
                · rw [List.map_cons, List.map_cons, e2]
      · cases h
    · cases h
theorem merge_rel : ∀ {kvs : List (Key × V)} {ps : List (Key × I)} {acc : List (Key × V)} {ac : List (Key × I)}, kvs.map (·.1) = ps.map (·.1) → RpIs K ι H (kvs.map (·.2)) (ps.map (·.2)) → acc.map (·.1) = ac.map (·.1) → RpIs K ι H (acc.map (·.2)) (ac.map (·.2)) →
    (mergeK acc kvs).map (·.1) = (ps.foldl (fun acc kv => putD acc kv.1 kv.2) ac).map (·.1) ∧ RpIs K ι H ((mergeK acc kvs).map (·.2)) ((ps.foldl (fun acc kv => putD acc kv.1 kv.2) ac).map (·.2))
  | [], [], _, _, _, _, e, r => ⟨e, r⟩
  | [], _ :: _, _, _, e, _, _, _ => by cases e
  | _ :: _, [], _, _, e, _, _, _ => by cases e
  | (k, v) :: kvs, (k', d) :: ps, acc, ac, e, r, e', r' => by
    simp only [List.map_cons, List.cons.injEq] at e
    obtain ⟨e1, e2⟩ := e
    subst e1
    cases r with
    | cons r rs =>
      obtain ⟨p, q⟩ := putD_rel r e' r'
      have := merge_rel e2 rs p q
      exact this
theorem up_dic {trs : List (TE × TE)} {f : Mo (List Ev)} {Q : VK} (hf : UpPs K κ trs f) (h : UpE K κ (dicF f) σ H Q) : tDisp trs σ H Q := by
  obtain ⟨ι, δ, G, e, δ', G', s, eq, k⟩ := h
  obtain ⟨es, δ1, G1, e1, eq1⟩ := bd_inv eq
  intro p hp
  split at eq1
  · rename_i ps hps
    split at eq1
    · rename_i hl
      cases eq1
      have sp := s.push_ow (m := .dic []) hp ⟨[], upd_same, rfl, .nil⟩
      have st0 := Step.lay_ow (ι := ι) (δ := δ) (o := .dK []) (m := .dic []) s.len hp
      refine hf _ _ _ ⟨ι, δ, G, es, _, _, sp.pop s.len, e1, fun vs ι1 H1 a qs hqs => ?_⟩
      -- the new dict lies beside it
      obtain ⟨j1, j2⟩ := SR.join (δ1 := δ) sp s.len a.ar.sr a.ar.l a.st
      have hp1 : H1 p = some (.dK []) := by
        refine a.st.keep p _ upd_same fun hm => ?_
        obtain ⟨o, ho, _⟩ := s.mu hm
        rw [hp] at ho; cases ho
      obtain ⟨kvs, ev, ek, rk⟩ := pairs_rel (paired_split a.ar.l a.ar.sr.sl).2 a.ar.len hps
      have hq : qs = kvs.map fun kv => (kV kv.1, kv.2) := by
        rw [ev] at hqs
        have inj : ∀ {l1 l2 : List (V × V)}, l1.flatMap (fun p => [p.1, p.2]) = l2.flatMap (fun p => [p.1, p.2]) → l1 = l2 := by
          intro l1
          induction l1 with
          | nil => intro l2 h; cases l2 with
            | nil => rfl
            | cons x l2 => simp at h
          | cons x l1 ih => intro l2 h; cases l2 with
            | nil => simp at h
            | cons y l2 =>
              simp only [List.flatMap_cons, List.cons_append, List.nil_append, List.cons.injEq] at h
              obtain ⟨h1, h2, h3⟩ := h
              rw [ih h3, Prod.ext h1 h2]
        exact (inj hqs).symm
      have hkl : kvs.length ≤ 15 := by have := congrArg List.length ek; simp at this; lia
      refine ⟨hp1, kvs, hq, hkl, ?_⟩
      have l1 := a.ar.l
      have i1 : (σ ++ ([some (V.ref p)] ++ tS es vs))[σ.length]? = some (some (.ref p)) := by rw [List.getElem?_append_right (Nat.le_refl _), Nat.sub_self]; rfl
      have i2 : (δ' ++ ([some (Vl.ow (.dic []))] ++ tD es))[σ.length]? = some (some (.ow (.dic []))) := by rw [l1, List.getElem?_append_right (Nat.le_refl _), Nat.sub_self]; rfl
      obtain ⟨q1, q2⟩ := j1.poke i1 i2 (m' := .dic (mergeI ps)) (fun _ kp => by
        obtain ⟨z1, z2⟩ := merge_rel (acc := []) (ac := []) ek rk rfl .nil
        exact ⟨_, upd_same, z1, z2.mono (Pre.refl _) kp⟩)
      have e5 : ∀ (δx : De), σ.length = δx.length → (δx ++ ([some (Vl.ow (.dic []))] ++ tD es)).set σ.length (some (.ow (.dic (mergeI ps)))) = (δx ++ [some (.ow (.dic (mergeI ps)))]) ++ tD es := fun δx l => by
        rw [l, List.set_append_right _ _ (Nat.le_refl _), Nat.sub_self]; simp
      rw [e5 _ l1, ← List.append_assoc σ] at q1
      rw [e5 _ l1, ← List.append_assoc σ] at q2
      rw [← List.append_assoc σ] at j2
      have l2 : (σ ++ [some (V.ref p)]).length = (δ' ++ [some (Vl.ow (.dic (mergeI ps)))]).length := by rw [List.length_append, List.length_append, l1]; rfl
      refine k _ _ _ ⟨⟨l1, q1.pop l2, .cons (fun _ h => by cases h) .nil⟩, ?_⟩
      exact ((st0.trans j2).trans q2).sub fun x hx => own_sub l2 hx
    · cases eq1
  · cases eq1
noncomputable def orV (fa fb : Mo Ev) : Mo Ev := bd fa fun e => fun δ G => match truE e δ G with
  | some (true, _, _) => some (e, δ, G)
  | some (false, _, _) => fb δ G
  | none => none
end
section
variable {X : Cx} {κ : Str → Addr} {a b e o : Expr} {es : List Expr} {fa fb fv : Mo Ev} {fs : Mo (List Ev)} {p pos apos : Pos} {k n : Nat}
noncomputable def LP (X : Cx) (κ : Str → Addr) (pos : Pos) (keys : List (Option Expr)) (vals : List Expr) (f : Mo (List Ev)) : Prop := ∃ trs, PPs X pos keys vals trs ∧ UpPs X.K κ trs f
theorem d_nil : LP X κ pos [] [] pnil := ⟨[], pps_nil, ups_nil⟩
theorem d_cons  (hk : LE X κ a fa) (hv : LE X κ b fb) (hr : LP X κ pos ks vs fs) : LP X κ pos (some a :: ks) (b :: vs) (pcons fa fb fs) := let ⟨trs, h1, h2⟩ := hr; ⟨_, pps_cons hk.pe hv.pe h1, ups_cons h2⟩
theorem e_dic  (hr : Room k X.A) (h : LP X κ pos ks vs fs) (hall : ks.all (·.isSome) = true := by rfl) (hl : ks.length = vs.length := by rfl) (h0 : ks ≠ [] := by exact (fun z => nomatch z)) (h15 : ks.length ≤ 15 := by decide) : LE X κ (.Dict ks vs pos) (dicF fs) := .mk (by
  obtain ⟨trs, h1, h2⟩ := h
  exact pe_imp (pe_disp h1 hall hl h0 h15) fun _ _ _ => up_dic h2)
theorem e_one {op} (h : LE X κ a fa) : LE X κ (.BoolOp op [a] pos) fa := .mk (L2.pe_one h.pe)
theorem up_call {K : PySem.W.Frag} {σ : L2.St} {H : Hp} {fn : FF} {Q : VK} (h : UpE K κ (bd fs (callP n fn)) σ H Q) : tCall (UpF K κ n fn) [] E0 (UpA K κ fs) σ H Q := by
  have := up_args (prim_call (E := E0)) h
  unfold tCall
  simpa only [List.append_nil] using this
theorem e_call  (h : Has X.prog X.w X.K X.mg X.base x k ps (UpF X.K κ n fn)) (hr : Room k X.A) (ha : LA X κ (e :: es) fs) (hg : Gl X x := by rfl)
    (hdb : (x == ("__debug__" : Str)) = false := by decide) (he : starEach (e :: es) X.env = (false, eval e X.env) :: starEach es X.env := by rfl) (hpl : (backTo pos (starEach es X.env)).any (·.1) = false := by rfl) : LE X κ (.Call (.Name x p) (e :: es) [] pos) (bd fs (callP n fn)) := .mk (pe_imp (pe_has h hr hg ha.pe hdb he hpl) fun _ _ _ => up_call)
theorem s_set  (hN : X.N.Nodup) (h : LE X κ a fa) (hi : X.N[i]? = some x := by rfl) (hx : Loc X.env.scope x := by first | exact Or.inl rfl | exact Or.inr rfl) (hs : swapsWith a (some (.Name x pos')) pos.line X.env = pure false := by rfl) (hf : X.fn x = true ∨ X.env.scope.names.lookup x = some .local := by first | exact .inl rfl | exact .inr rfl | assumption) : LS X κ (.Assign [.Name x pos'] a pos) (asgF fa (gNm i)) := .mk (ps_imp (ps_set hN hi hx h.pe hs hf) fun D σ H q => by
  obtain ⟨ι, δ, G, e, δ', G', s, eq, kk⟩ := up_asg q
  exact ⟨ι, δ, G, e, δ', G', s, eq, fun v ι' H' a => up_gnm (kk v ι' H' a)⟩)
end
end B
namespace B
open PySem PySem.Spec PyProof.Rows L2
section
variable {X : Cx} {K : PySem.W.Frag} {κ : Str → Addr} {ι : List Addr} {H : Hp} {σ : L2.St}
noncomputable def seqP : List Ev → De → List M → Option Wk := fun es δ G => match lsP es δ G with
  | some w => some w
  | none => tpP es δ G
theorem itF_of     (h : itF fa p δ G = some (w, es, δ1, G1)) (hpq : p es δ1 G1 = some w → q es δ1 G1 = some w) : itF fa q δ G = some (w, es, δ1, G1) := by
  unfold itF at h ⊢
  split at h
  · rename_i es' δ' G' e
    cases hp : p es' δ' G' with
    | none => rw [hp] at h; cases h
    | some w' =>
      rw [hp] at h
      cases h
      rw [hpq hp]; rfl
  · cases h
theorem up_seqI {f : Mo Ev} {R : It → Hp → Prop} (h : UpI K κ (itF (one f) seqP) σ H R) : iList K (UpE K κ f) σ H R ∨ iTup K (UpE K κ f) σ H R := by
  obtain ⟨ι, δ, G, w, es, δ', G', s, eq, k⟩ := h
  by_cases hq : lsP es δ' G' = some w
  · left
    refine up_one (up_it prim_ls ⟨ι, δ, G, w, es, δ', G', s, itF_of eq fun _ => hq, k⟩)
  · right
    refine up_one (up_it prim_tp ⟨ι, δ, G, w, es, δ', G', s, itF_of eq fun hs => ?_, k⟩)
    unfold seqP at hs
    split at hs
    · rename_i w' hw
      exact absurd (hw.trans hs) hq
    · exact hs
theorem args_two {a b : Ev} {v u : V} {x y : Vl} {δ : De} {G : List M} (ha : a = .v x) (hb : b = .v y) (l : σ.length = δ.length) (h : SR K κ ι H (σ ++ tS [a, b] [v, u]) (δ ++ tD [a, b]) G) : Args K κ ι H σ δ G [a, b] [v, u] := ⟨l, h, .cons (fun i q => by rw [ha] at q; cases q) (.cons (fun i q => by rw [hb] at q; cases q) .nil)⟩
noncomputable def yesF : Mo Bool := rt true
theorem up_yes {Q : Bool → Hp → Prop} (h : UpT K κ yesF σ H Q) : tNoIf σ H Q := by
  obtain ⟨ι, δ, G, b, δ', G', s, eq, k⟩ := h
  cases eq
  exact k _ _ s (Step.refl _ _ _)
end
section
variable {X : Cx} {κ : Str → Addr} {a b c e tg : Expr} {es : List Expr} {fa fb : Mo Ev} {fs : Mo (List Ev)} {fc : Mo Bool} {p pos p0 : Pos} {k k0 : Nat} {elts : List Expr}
theorem i_seq (h : LE X κ a fa) : LI X κ tg a (itF (one fa) seqP) := .mk (pi_imp (pi_or (pi_list h.pe) (pi_tup h.pe)) fun _ _ _ => up_seqI)
theorem i_rng1 (hm : X.mg "range" = none) (ha : LA X κ [a] fs) (hg : Gl X "range" := by rfl) (hs : starEach [a] X.env = [(false, eval a X.env)] := by rfl) : LI X κ tg (.Call (.Name "range" p) [a] [] pos) (itF fs rng1P) := .mk (pi_imp (pi_range1 hg hm ha.pe hs) fun _ _ _ q => up_it prim_rng1 q)
@[irreducible] noncomputable def LIf (X : Cx) (κ : Str → Addr) (ifs : List Expr) (f : Mo Bool) : Prop := PIfs X ifs (UpT X.K κ f)
theorem LIf.mk   (h : PIfs X ifs (UpT X.K κ f)) : LIf X κ ifs f := by unfold LIf; exact h
theorem LIf.pe   (h : LIf X κ ifs f) : PIfs X ifs (UpT X.K κ f) := by unfold LIf at h; exact h
theorem i_nil : LIf X κ [] yesF := .mk (fun pins s σ H Q I h => pifs_nil pins s σ H Q I (up_yes h))
theorem i_one (h : LT X κ c fc) : LIf X κ [c] fc := .mk (pifs_one h.pe)
variable {scope : Scope} {x y : Str} {ys : List Str} {ix : List Nat} {ifs : List Expr} {fi : IF} {px py : Pos}
theorem e_comp1 (O : CompOkN X scope [x] ys ix) (hi : LI X κ (.Name x px) a fi) (hf : ∀ z, LIf (compCx X scope ([x] ++ ys) z) κ ifs fc) (he : ∀ z, LE (compCx X scope ([x] ++ ys) z) κ e fb) (hc : X.calm = true := by rfl) (hs : ∀ v, foldedSetIterable a X.env v = pure v := by intro _; rfl) : LE X κ (.ListComp e [⟨.Name x px, a, ifs, 0⟩] scope pos) (compF fi ix c1 fc fb) := .mk (pe_imp (pe_compG O hc hi.pe (fun z => pg_own O rfl) (fun z => (hf z).pe) (fun z => (he z).pe) hs) fun _ _ _ => up_comp (fun _ => tgt_1))
theorem s_comp1  (O : CompOkN X scope [x] ys ix) (hi : LI X κ (.Name x px) a fi) (hf : ∀ z, LIf (compCx X scope ([x] ++ ys) z) κ ifs fc) (he : ∀ z, LE (compCx X scope ([x] ++ ys) z) κ e fb) (hN : X.N.Nodup) (hy : X.N[i]? = some y := by rfl) (hl : X.env.scope.names.lookup y = some .local := by rfl) (hc : X.calm = true := by rfl)
    (hsw : swapsWith (.ListComp e [⟨.Name x px, a, ifs, 0⟩] scope pos) (some (.Name y py)) spos.line X.env = pure true := by rfl) (hs : ∀ v, foldedSetIterable a X.env v = pure v := by intro _; rfl) : LS X κ (.Assign [.Name y py] (.ListComp e [⟨.Name x px, a, ifs, 0⟩] scope pos) spos) (asgF (compF fi ix c1 fc fb) (gNm i)) := .mk (ps_imp (ps_compG O hc hN hy hl hi.pe (fun z => pg_own O rfl) (fun z => (hf z).pe) (fun z => (he z).pe) hsw hs) fun D σ H q => by
    obtain ⟨ι, δ, G, e, δ', G', s, eq, kk⟩ := up_asg q
    exact up_comp (fun _ => tgt_1) ⟨ι, δ, G, e, δ', G', s, eq, fun v ι' H' a => up_gnm (kk v ι' H' a)⟩)
theorem pgc2  (O : CompOkN X scope [x1, x2] ys ix) (hc : X.calm = true) (z : CompAt) : PG (compCx X scope ([x1, x2] ++ ys) z) (.Tuple [.Name x1 q1, .Name x2 q2] kk q0) (gTup X.K 2 (gRow (List.range 2))) :=
  pg_tup hc (pgs_cons (pg_own O rfl) (pgs_cons (pg_own O rfl) pgs_nil))
theorem e_comp2  (O : CompOkN X scope [x1, x2] ys ix) (hi : LI X κ (.Tuple [.Name x1 q1, .Name x2 q2] kk q0) a fi) (hf : ∀ z, LIf (compCx X scope ([x1, x2] ++ ys) z) κ ifs fc) (he : ∀ z, LE (compCx X scope ([x1, x2] ++ ys) z) κ e fb) (hc : X.calm = true := by rfl) (hs : ∀ v, foldedSetIterable a X.env v = pure v := by intro _; rfl) : LE X κ (.ListComp e [⟨.Tuple [.Name x1 q1, .Name x2 q2] kk q0, a, ifs, 0⟩] scope pos) (compF fi ix (cN 2) fc fb) := .mk (pe_imp (pe_compG O hc hi.pe (pgc2 O hc) (fun z => (hf z).pe) (fun z => (he z).pe) hs) fun _ _ _ => up_comp (fun _ => tgt_n 2))
end
section
variable {P : Program} {w : World} {K : PySem.W.Frag} {mg : Str → Option Value} {base : Heap} {κ : Str → Addr}
theorem lift {x qual : Str} {st : Stmt} {f : Addr} {fd : FuncData} {N ps : List Str} {k n r : Nat} {body : SF} (F : Fun K x qual st f fd) (S : FnScope N ps (defScope st)) (hn : ps.length = n) (hN : N.length = n + r)
    (hb : ∀ (cdv : Value) (A : Around) (outer : List Env) (s : Shared) (H : Hp) (E : XK), Room k (A.deeper (envOfC qual (defScope st) s.heap.objs.size f cdv)) → LSs (cxOf CX0 P w K mg base N qual (defScope st) f cdv A outer s H E).nox κ (defBody st) body) :
    FnOk P w K mg base CX0 (k + 1) f fd ps (UpF K κ n (runF n r body)) := by
  refine F.ok S (fun vs H Q E h => by rw [(up_run h).1, hn]) (fun cdv A outer s H vs Q E hr h => ⟨_, (hb cdv A outer s H E hr).pe, ?_⟩)
  obtain ⟨l, q⟩ := up_run h
  unfold L2.start
  have e : N.length - vs.length = r := by lia
  rw [e]
  exact q
/-- a function that never ends well -/
theorem none_ok {f : Addr} {fd : FuncData} {ps : List Str} {k n : Nat} : FnOk P w K mg base CX0 k f fd ps (UpF K κ n fun _ _ => none) :=
  ⟨fun vs H Q E h => (by obtain ⟨_, _, _, _, _, _, _, e, _⟩ := h; cases e), fun _ _ _ _ _ _ _ _ _ _ _ _ _ h => (by obtain ⟨_, _, _, _, _, _, _, e, _⟩ := h; cases e)⟩
end
end B
set_option maxHeartbeats 4000000
set_option maxHeartbeats 400000
namespace B
open PySem PySem.Spec PyProof.Rows L2
section
variable {K : PySem.W.Frag} {κ : Str → Addr} {ι : List Addr} {H : Hp}
noncomputable def intsI : List I → Option (List Int)
  | [] => some []
  | .int i :: r => (intsI r).map (i :: ·)
  | _ => none
noncomputable def strsI : List I → Option (List Str)
  | [] => some []
  | .str i :: r => (strsI r).map (i :: ·)
  | _ => none
theorem strsI_map : ∀ ns : List Str, strsI (ns.map I.str) = some ns
  | [] => rfl
  | n :: ns => by rw [List.map_cons, strsI, strsI_map ns]; rfl
theorem strsI_of : ∀ {xs : List I} {vs : List V} {ns : List Str}, RpIs K ι H vs xs → strsI xs = some ns → vs = ns.map V.str
  | [], _, _, r, h => by cases r; cases h; rfl
  | x :: xs, _, _, r, h => by
    cases r with
    | cons r1 r2 =>
      cases r1 with
      | str i =>
        rw [strsI] at h
        cases e : strsI xs with
        | none => rw [e] at h; cases h
        | some ms => rw [e] at h; cases h; rw [List.map_cons, ← strsI_of r2 e]
      | _ => cases h
noncomputable def sumP : List Ev → Mo Ev := fun es δ G => match es with
  | [a] => if notT a then match sq δ G a with
    | some xs => match intsI xs with
      | some ns => some (.v (.im (.int ns.sum)), δ, G)
      | none => none
    | none => none
    else none
  | _ => none
noncomputable def int1P : List Ev → Mo Ev := fun es δ G => match es with
  | [.v (.im (.bl b))] => some (.v (.im (.int (if b then 1 else 0))), δ, G)
  | [.v (.im (.int i))] => some (.v (.im (.int i)), δ, G)
  | _ => none
theorem prim_int1 : Prim K κ (fun xs H Q => (∃ i, xs = [.int i] ∧ Q (.int i) H) ∨ ∃ k, xs = [.bl k] ∧ Q (.int (if k then 1 else 0)) H) int1P := by
  intro ι H σ δ G es vs e δ' G' Q a h k
  unfold int1P at h
  split at h
  · obtain ⟨v, rfl⟩ := len1 a.len
    cases rpBl (a.im (j := 0) rfl rfl)
    exact .inr ⟨_, rfl, k _ _ _ (af3 h (fin_im a (.int _)))⟩
  · obtain ⟨v, rfl⟩ := len1 a.len
    cases rpInt (a.im (j := 0) rfl rfl)
    exact .inl ⟨_, rfl, k _ _ _ (af3 h (fin_im a (.int _)))⟩
  · cases h
noncomputable def blsI : List I → Option (List Bool)
  | [] => some []
  | .bl i :: r => (blsI r).map (i :: ·)
  | _ => none
theorem blsI_map : ∀ ns : List Bool, blsI (ns.map I.bl) = some ns
  | [] => rfl
  | n :: ns => by rw [List.map_cons, blsI, blsI_map ns]; rfl
theorem blsI_of : ∀ {xs : List I} {vs : List V} {ns : List Bool}, RpIs K ι H vs xs → blsI xs = some ns → vs = ns.map V.bl
  | [], _, _, r, h => by cases r; cases h; rfl
  | x :: xs, _, _, r, h => by
    cases r with
    | cons r1 r2 =>
      cases r1 with
      | bl i =>
        rw [blsI] at h
        cases e : blsI xs with
        | none => rw [e] at h; cases h
        | some ms => rw [e] at h; cases h; rw [List.map_cons, ← blsI_of r2 e]
      | _ => cases h
noncomputable def allP : List Ev → Mo Ev := fun es δ G => match es with
  | [a] => match pk δ G a with
    | some (.lst xs) => match blsI xs with
      | some bs => some (.v (.im (.bl (bs.all id))), δ, G)
      | none => none
    | _ => none
  | _ => none
theorem prim_all : Prim K κ (fun xs H Q => ∃ (p : Addr) (bs : List Bool), xs = [.ref p] ∧ SqL K H p (bs.map V.bl) ∧ Q (.bl (bs.all id)) H) allP := by
  intro ι H σ δ G es vs e δ' G' Q a h k
  unfold allP at h
  split at h
  · rename_i x
    split at h
    · rename_i xs hx
      split at h
      · rename_i ns hn
        obtain ⟨v, rfl⟩ := len1 a.len
        obtain ⟨p, e1, ys, h1, r⟩ := a.pk (j := 0) rfl rfl hx
        subst e1
        exact ⟨p, ns, rfl, by rw [← blsI_of r hn]; exact SqL.of h1, k _ _ _ (af3 h (fin_im a (.bl _)))⟩
      · cases h
    · cases h
  · cases h
noncomputable def isS : Ev → Bool
  | .v (.im (.str _)) => true
  | _ => false
noncomputable def bsF (p : List Ev → Mo Ev) (fo : Mo Ev) (fa : Mo (List Ev)) : Mo Ev := bd fo fun e => fun δ G => if isS e then bd fa (fun es => p (e :: es)) δ G else none
theorem up_bs {σ : L2.St} {p : List Ev → Mo Ev} {fo : Mo Ev} {fa : Mo (List Ev)} {r : V → List V → Hp → VK → Prop} {Q : VK} (hp : Prim K κ (rM r) p) (h : UpE K κ (bsF p fo fa) σ H Q) : tBM K "str" r (UpE K κ fo) (UpA K κ fa) σ H Q := by
  obtain ⟨ι, δ, G, e, δ', G', s, eq, k⟩ := h
  obtain ⟨x, δ1, G1, e1, eq1⟩ := bd_inv eq
  split at eq1
  · rename_i hl
    obtain ⟨es, δ2, G2, e2, eq2⟩ := bd_inv eq1
    refine ⟨ι, δ, G, x, δ1, G1, s, e1, fun v ι1 H1 a1 => ⟨?_, ?_⟩⟩
    · unfold isS at hl
      split at hl
      · cases rpStr (a1.ar.im (j := 0) rfl rfl); rfl
      · cases hl
    refine ⟨ι1, δ1, G1, es, δ2, G2, a1.ar.base, e2, fun vs ι2 H2 a2 => ?_⟩
    have a := a1.app a2
    obtain ⟨y, ys, ey, q⟩ := hp _ _ _ _ _ _ _ _ _ _ Q a.ar eq2 fun v ι3 H3 d => k _ _ _ (a.then d)
    cases ey
    exact q
  · cases eq1
noncomputable def join1P : List Ev → Mo Ev := fun es δ G => match es with
  | [.v (.im (.str z)), a] => match pk δ G a with
    | some (.lst xs) => match strsI xs with
      | some ys => if (ys.map (·.length)).sum + ys.length * z.length ≤ 1000000 then some (.v (.im (.str (PySem.Txt.join z ys))), δ, G) else none
      | none => none
    | _ => none
  | _ => none
theorem prim_join : Prim K κ (rM (rJoin K)) join1P := by
  intro ι H σ δ G es vs e δ' G' Q a h k
  unfold join1P at h
  split at h
  · rename_i z x
    split at h
    · rename_i xs hx
      split at h
      · rename_i ys hn
        split at h
        · rename_i hz
          obtain ⟨v, u, rfl⟩ := len2 a.len
          cases rpStr (a.im (j := 0) rfl rfl)
          obtain ⟨p, e1, us, h1, r⟩ := a.pk (j := 1) rfl rfl hx
          subst e1
          exact ⟨_, _, rfl, z, p, ys, rfl, rfl, by rw [← strsI_of r hn]; exact SqL.of h1, Nat.le_trans hz (by decide), k _ _ _ (af3 h (fin_im a (.str _)))⟩
        · cases h
      · cases h
    · cases h
  · cases h
end
section
variable {X : Cx} {κ : Str → Addr} {a b e o : Expr} {es : List Expr} {fa fb : Mo Ev} {fs : Mo (List Ev)} {p pos apos cpos : Pos} {k : Nat}
theorem e_all (hr : Room k X.A) (hm : X.mg "all" = none) (ha : LA X κ (e :: es) fs) (hg : Gl X "all" := by rfl) (hc : X.calm = true := by rfl) (he : starEach (e :: es) X.env = (false, eval e X.env) :: starEach es X.env := by rfl) (hpl : (backTo pos (starEach es X.env)).any (·.1) = false := by rfl) : LE X κ (.Call (.Name "all" p) (e :: es) [] pos) (bd fs allP) := .mk (pe_imp (pe_callB (call_all hc) hg hm PyProof.Rows.boot_all ha.pe (by decide) (by decide) he hpl) fun _ _ _ q => up_args prim_all q)
theorem e_int1 (hr : Room k X.A) (hm : X.mg "int" = none) (ha : LA X κ (e :: es) fs) (hg : Gl X "int" := by rfl) (he : starEach (e :: es) X.env = (false, eval e X.env) :: starEach es X.env := by rfl) (hpl : (backTo pos (starEach es X.env)).any (·.1) = false := by rfl) : LE X κ (.Call (.Name "int" p) (e :: es) [] pos) (bd fs int1P) := .mk (pe_imp (pe_callTy call_int1 hg hm PyProof.Rows.boot_int ha.pe (by decide) (by decide) he hpl) fun _ _ _ q => up_args prim_int1 q)
theorem e_join1 (hr : Room k X.A) (ho : LE X κ o fa) (ha : LA X κ (e :: es) fs) (hbase : attributeBase o "join" X.env (eval o X.env) = eval o X.env := by rfl)
    (hfew : ((backTo cpos (starEach (e :: es) X.env)).all (fun x => !x.1) && (backToKw cpos (keywordEach [] X.env)).all (fun x => x.1.isSome) && decide ((e :: es).length + ([] : List Keyword).length + (if ([] : List Keyword).isEmpty then 0 else 1) < 30)) = true := by rfl)
    (hline : (apos.endLine == cpos.line) = true := by rfl) (hs : starEach (e :: es) X.env = (false, eval e X.env) :: starEach es X.env := by rfl) (hplain : (backTo cpos (starEach es X.env)).any (·.1) = false := by rfl) : LE X κ (.Call (.Attribute o "join" apos) (e :: es) [] cpos) (bsF join1P fa fs) := .mk (pe_imp (pe_bm PySem.F.plainAttrs_str PySem.F.slot_str_join PySem.F.type_str_join mt_join ho.pe ha.pe hbase hfew hline hs hplain) fun _ _ _ => up_bs prim_join)
end
end B
namespace B
open PySem PySem.Spec PyProof.Rows L2
theorem rm  (r : Room k A) (h : j ≤ k := by first | decide | lia) : Room j A := r.mono h
end B
set_option maxHeartbeats 4000000
set_option maxHeartbeats 400000
namespace B
open PySem PySem.Spec PyProof.Rows L2
section
variable {X : Cx} {κ : Str → Addr} {a b e o : Expr} {es : List Expr} {fa fb : Mo Ev} {fs : Mo (List Ev)} {p pos apos cpos : Pos} {k : Nat}
theorem e_ty  (hg : Gl X x) (hm : X.mg x = none) (hv : bootBuiltins x = some (.type n)) (hn : x ≠ "__name__" := by decide) (hd : (x == ("__debug__" : Str)) = false := by decide) : LE X κ (.Name x pos) (conF (.ty n)) := .mk (pe_imp (pe_bltn (v := .ty n) hg hm hv rfl hn hd) fun _ _ _ => up_con fun _ _ => .ty _)
end
theorem mkFS  (h1 : sc.kind = .function := by rfl) (h2 : sc.isCoroutine = false := by rfl) (h3 : sc.isGenerator = false := by rfl) (h4 : N.Nodup := by decide +kernel) (h5 : N.take P.length = P := by rfl) (h6 : ∀ x ∈ P, sc.names.lookup x = some .local ∨ sc.names.lookup x = some .cell := by decide +kernel) (h7 : ∀ y ∈ sc.names, y.2 ≠ .free := by decide +kernel) : FnScope N P sc := ⟨h1, h2, h3, h4, h5, h6, h7⟩
end B
set_option maxHeartbeats 4000000
set_option maxHeartbeats 400000
namespace L2
open PySem PySem.Spec PyProof.Rows
section
noncomputable def mergeT (kvs more : List (List Key × V)) : List (List Key × V) := more.foldl (fun acc kv => putK acc kv.1 kv.2) kvs
noncomputable def hshK (w : World) (k : List Key) : Int := reduceHash (Builtin.Tuple.tupleHashOf (k.map (keyH w)))
noncomputable def rUpT (w : World) : V → List V → Hp → VK → Prop := fun x vs H Q => ∃ (a b : Addr) (kvs more : List (List Key × V)), x = .ref a ∧ vs = [.ref b] ∧ a ≠ b ∧ H a = some (.dT kvs) ∧ H b = some (.dT more) ∧ (kvs = [] → (more.map fun p => hshK w p.1).Nodup) ∧ kvs.length + more.length ≤ 1000000 ∧ Q .non (upd H a (.dT (mergeT kvs more)))
end
end L2
namespace B
open PySem PySem.Spec PyProof.Rows L2
variable {X : Cx} {K : PySem.W.Frag} {κ : Str → Addr} {ι : List Addr} {H H' : Hp} {σ : L2.St} {δ : De} {G : List M}
structure Kw (H H' : Hp) : Prop where
  tup : ∀ a xs, H a = some (.tup xs) → H' a = some (.tup xs)
  frz : ∀ a o u, (∀ ws, u ≠ HO.dK ws) → H a = some (.frz o u) → H' a = some (.frz o u)
noncomputable def kI : Key → I
  | .inl i => .int i
  | .inr x => .str x
end B
namespace B
open PySem PySem.Spec PyProof.Rows L2
section
variable {X : Cx} {K : PySem.W.Frag} {κ : Str → Addr} {ι : List Addr} {H : Hp} {σ : L2.St}
noncomputable def andV (fa fb : Mo Ev) : Mo Ev := bd fa fun e => fun δ G => match truE e δ G with
  | some (false, _, _) => some (e, δ, G)
  | some (true, _, _) => fb δ G
  | none => none
noncomputable def tAndG (K : PySem.W.Frag) (ta tb : TE) : TE := fun σ H Q => ta σ H fun x H1 => ∃ c, TruV K x H1 c ∧ if c = true then tb σ H1 Q else Q x H1
theorem pe_andG {a b : Expr} {rest : List Expr} {pos : Pos} {ta tb : TE} (ha : PE X a ta) (hb : PE X (.BoolOp .And (b :: rest) pos) tb) : PE X (.BoolOp .And (a :: b :: rest) pos) (tAndG X.K ta tb) := by
  intro pins s σ H Q I h
  refine BoolOp_and (thn (ha pins s σ H _ I h) fun v s1 zz => ?_)
  obtain ⟨x, H1, I1, r1, c, hc, q1⟩ := zz
  refine thn (tru_ok pins s1 σ H1 x v (fun b H' => H' = H1 ∧ b = c) I1 r1 ⟨c, hc, rfl, rfl⟩) fun b s2 zz => ?_
  obtain ⟨H2, I2, e1, e2⟩ := zz
  subst e1; subst e2
  cases b with
  | false => rw [if_neg Bool.false_ne_true] at q1; exact ⟨x, _, I2, r1, q1⟩
  | true => rw [if_pos rfl] at q1; exact hb pins s2 σ _ Q I2 q1
theorem up_andV {fa fb : Mo Ev} {Q : VK} (h : UpE K κ (andV fa fb) σ H Q) : tAndG K (UpE K κ fa) (UpE K κ fb) σ H Q := by
  obtain ⟨ι, δ, G, e, δ', G', s, eq, k⟩ := h
  obtain ⟨x, δ1, G1, e1, eq1⟩ := bd_inv eq
  refine ⟨ι, δ, G, x, δ1, G1, s, e1, fun v ι1 H1 a => ?_⟩
  split at eq1
  · rename_i d1 d2 ht
    cases eq1
    obtain ⟨t, _, _⟩ := tru_of a.ar ht
    exact ⟨false, t, by rw [if_neg Bool.false_ne_true]; exact k _ _ _ a⟩
  · rename_i d1 d2 ht
    obtain ⟨t, _, _⟩ := tru_of a.ar ht
    obtain ⟨p, q⟩ := a.drop
    exact ⟨true, t, by rw [if_pos rfl]; exact UpE.go p q eq1 k⟩
  · cases eq1
end
section
variable {X : Cx} {κ : Str → Addr} {a b e o : Expr} {es : List Expr} {ss : List Stmt} {fa fb fv : Mo Ev} {f : SF} {gf : GF} {fs : Mo (List Ev)} {p pos pos' apos cpos : Pos} {k : Nat}
theorem e_and {rest : List Expr} (ha : LE X κ a fa) (hb : LE X κ (.BoolOp .And (b :: rest) pos) fb) : LE X κ (.BoolOp .And (a :: b :: rest) pos) (andV fa fb) := .mk (pe_imp (pe_andG ha.pe hb.pe) fun _ _ _ => up_andV)
theorem e_globI  (hg : Gl X x) (hm : ∃ t, X.mg x = some (.int i t)) (hd : (x == ("__debug__" : Str)) = false := by decide) : LE X κ (.Name x pos) (conF (.int i)) := by
  obtain ⟨t, hm⟩ := hm
  exact e_glob (v := .int i) hg hm ⟨t, rfl⟩ (fun _ _ => .int _) hd
end
end B
set_option maxHeartbeats 4000000
namespace L2
open PySem PySem.Spec PyProof.Rows
section
variable {X : Cx}
noncomputable def rIdx : V → List V → Hp → VK → Prop := fun x ys H Q => ∃ (z y : Str) (i : Nat) (r : List Nat), x = .str z ∧ ys = [.str y] ∧ Builtin.Str.occurrences z y 0 z.length 1 = i :: r ∧ Q (.int i) H
theorem mt_index : MtR X "str.index" rIdx := by
  intro pins s σ H x xs v us Q I rx r h
  obtain ⟨z, y, i, rest, rfl, rfl, ho, q⟩ := h
  obtain ⟨t, rfl⟩ := rx
  obtain ⟨u, rfl, t', rfl⟩ := vals1 r
  exact call_gives PySem.F.slot_str_index (typeIs_str _ _ _) PySem.F.entry_str_index (PySem.F.args_str_index_2 _ _) (gives_str_index z y t t' i rest ho) ⟨.int i, H, I.tok _, ⟨_, rfl⟩, q⟩
theorem call_str1 : CallR X (.type "str") (fun xs H Q => (∃ i : Int, xs = [.int i] ∧ i.natAbs.log2 < 1920 ∧ Q (.str (toString i)) H) ∨ ∃ x, xs = [.str x] ∧ Q (.str x) H) := by
  intro pins s σ H xs us Q I r h
  rcases h with h | ⟨x, rfl, q⟩
  · exact call_str_int pins s σ H xs us Q I r h
  · obtain ⟨u, rfl, t, rfl⟩ := vals1 r
    exact PySem.P.str_of_str ⟨.str x, H, I, ⟨_, rfl⟩, q⟩
noncomputable def TupN (K : PySem.W.Frag) (H : Hp) (x : V) : Prop := x = .non ∨ ∃ a ys, x = .ref a ∧ SqT K H a ys
noncomputable def isN : V → Bool
  | .non => true
  | _ => false
noncomputable def nU : Value → Bool
  | .none => true
  | _ => false
theorem nU_of {H : Hp} {x : V} {u : Value} (r : RelV x u) (h : TupN X.K H x) : nU u = isN x := by
  rcases h with rfl | ⟨a, ys, rfl, _⟩
  · cases r; rfl
  · cases r; rfl
theorem any_nU {H : Hp} : ∀ {xs : List V} {us : List Value}, Vals xs us → (∀ x ∈ xs, TupN X.K H x) → us.any nU = xs.any isN
  | _, _, .nil, _ => rfl
  | _, _, .cons r t, f => by rw [List.any_cons, List.any_cons, nU_of r (f _ List.mem_cons_self), any_nU t fun y hy => f y (List.mem_cons_of_mem _ hy)]
theorem op_inN (hu : X.A.in1.units < cLine) : OpR X (compareOp .In) (fun x y H Q => x = .non ∧ ∃ p xs, y = .ref p ∧ SqL X.K H p xs ∧ (∀ z ∈ xs, TupN X.K H z) ∧ Q (.bl (xs.any isN)) H) := by
  intro pins s σ H x y v u Q I rx ry h
  obtain ⟨rfl, p, xs, rfl, hq, fs, q⟩ := h
  cases rx; cases ry
  obtain ⟨its, r, pl, hz⟩ := I.list hq
  have go : ∀ {xs : List V} {us : List Value}, Vals xs us → (∀ z ∈ xs, TupN X.K H z) → ∀ u ∈ us, SeqAt.EqAt X.A.in1 s u .none (nU u) := fun {xs us} r => by
    induction r with
    | nil => intro _ u hu; cases hu
    | cons r1 r2 ih =>
      intro f u hu'
      rcases List.mem_cons.mp hu' with rfl | hu'
      · rcases f _ List.mem_cons_self with rfl | ⟨a, ys, rfl, ht⟩
        · cases r1; exact SeqAt.EqAt.same _
        · cases r1
          obtain ⟨is, _, pt, _⟩ := I.tuple ht
          exact SeqAt.EqAt.tuple_none pt hu
      · exact ih (fun y hy => f y (List.mem_cons_of_mem _ hy)) u hu'
  refine SeqAt.in_listAt nU pl.isList (fun w hw => go r fs w (by simpa using hw)) ⟨.bl _, H, I, rfl, ?_⟩
  rw [show its.toArray.any nU = its.any nU by simp, any_nU r fs]
  exact q
end
end L2
namespace PySem
open Builtin Builtin.Str PyProof.Rows
section
/-- what a reversed list's iterator gives, gathered -/
theorem collect_rev  (hh : A.handled = none) (hl : s.heap.IsList l items) (hne : l ≠ it) (hi : s.heap.IsRevIter it l ((items.size : Int) - 1)) (hn : items.size ≤ sizeLine)
    (hQ : ∀ h' tk acc, (∀ b o, b ≠ it → s.heap.get? b = some o → h'.get? b = some o) → ItemsOf (fun i v => items[items.size - 1 - i]? = some v) acc items.size → Q acc.toList { s with heap := h', toks := tk }) :
    wpAny (model prog w) A (collect (.ref it)) Q E s := by
  have hlt : l < s.heap.objs.size := by obtain ⟨_, e, _⟩ := hl; exact Heap.lt_size e
  have hit : it < s.heap.objs.size := by obtain ⟨_, e, _⟩ := hi; exact Heap.lt_size e
  have hSI : s.heap.objs.size ≠ it := Nat.ne_of_gt hit
  unfold collect
  refine wpAny_bind (wpAny_runValue (codeAny_builtin PySem.F.entry_proto_collect ?_))
  rw [Around.under_plainId PySem.F.plain_proto_collect _]
  refine wpAny_bind (m := newList []) (wpAny_newObj_type (wpAny_pure ⟨plainId_quiet PySem.F.plain_list_iadd _, codeAny_builtin PySem.F.entry_list_iadd ?_⟩))
  rw [Around.under_plainId PySem.F.plain_list_iadd _]
  have hS := Heap.get?_push_size s.heap (o := { cls := .type "list", data := .seq ([] : List Value).toArray }) rfl
  have hl2 : (s.heap.push { cls := .type "list", data := .seq ([] : List Value).toArray }).IsList l items := hl.push _
  have hi2 : (s.heap.push { cls := .type "list", data := .seq ([] : List Value).toArray }).IsRevIter it l ((items.size : Int) - 1) := hi.at fun o e => Heap.get?_push_of_some _ e
  have W := Walks.listRev (prog := prog) (w := w) (A := A.in1) hh it l hne items
  have st : (fun i (h : Heap) => i ≤ items.size ∧ h.IsRevIter it l ((items.size : Int) - 1 - (i : Int)) ∧ h.IsList l items) 0 (s.heap.push { cls := .type "list", data := .seq ([] : List Value).toArray }) := ⟨Nat.zero_le _, by simpa using hi2, hl2⟩
  have h1 : Builtin.List.listSameRef (.ref s.heap.objs.size) (.ref it) = false := by simp [Builtin.List.listSameRef, hSI]
  have h2' : (Value.type "list_reverseiterator" == Value.type "list") = false := by decide
  have h3 : (Value.type "list_reverseiterator" == Value.type "tuple") = false := by decide
  show wpAny _ A.in1 (Builtin.List.listExtendWith (.ref s.heap.objs.size) (.ref it) (.ref s.heap.objs.size)) _ _ _
  unfold Builtin.List.listExtendWith
  have hT : ({ s with heap := s.heap.push { cls := .type "list", data := .seq ([] : List Value).toArray } } : Shared).TypeIs (.ref it) "list_reverseiterator" := hi2.typeIs
  refine wpAny_bind (wpAny_typeOf hT ?_)
  simp only [h1, h2', h3, Bool.or_false, Bool.false_eq_true, if_false]
  refine wpAny_bind (wpAny_pyIter_revIter hi2 ?_)
  refine wpAny_bind (wpAny_holding (rev_hint hT ?_))
  have hSf : s.heap.objs.size ∉ [it, l] := by simp only [List.mem_cons, List.not_mem_nil, or_false, not_or]; exact ⟨hSI, Nat.ne_of_gt hlt⟩
  refine wpAny_ite_split (fun hab => absurd hab (by decide)) (fun _ => ?_)
  refine wpAny_pure ⟨plainId_quiet PySem.F.plain_extend_loop _, codeAny_extend_loopS W.toS hn s.heap.objs.size hSf _ items.size 0 _ #[] 0 rfl (Nat.zero_le _) st hS (ItemsOf.nil _) fun s' acc' c' hm hS' hacc => ?_⟩
  show wpAny _ A (load s.heap.objs.size >>= _) _ _ s'
  refine wpAny_bind (wpAny_load hS' ?_)
  refine wpAny_pure ?_
  rw [Moved.eq_with hm]
  refine hQ s'.heap s'.toks acc' (fun b o hb e => hm.heap b o (fun hmem => ?_) (Heap.get?_push_of_some _ e)) hacc
  rcases List.mem_cons.mp hmem with e' | hmem
  · exact absurd (Heap.lt_size e) (by rw [e']; exact Nat.lt_irrefl _)
  · exact hb (List.mem_singleton.mp hmem)
theorem join_rev {l it : Addr} {items : Array Value} {x : Str} {t : Tok} {Q : Value → Shared → Prop} (hh : A.handled = none) (hl : s.heap.IsList l items) (hne : l ≠ it) (hi : s.heap.IsRevIter it l ((items.size : Int) - 1)) (hn : items.size ≤ sizeLine)
    {ys : List Str} (hs : ∀ (i : Nat) (y : Str), ys[i]? = some y → ∃ u : Tok, items[i]? = some (Value.str y u)) (hsz : ys.length = items.size) (hf : (ys.map (·.length)).sum + ys.length * x.length ≤ 16777216)
    (hQ : ∀ h' tk t', (∀ b o, b ≠ it → s.heap.get? b = some o → h'.get? b = some o) → Q (.str (Txt.join x ys.reverse) t') { s with heap := h', toks := tk }) :
    wpAny (model prog w) A (call (.builtin "str.join") [.str x t, .ref it]) Q E s := by
  refine wpAny_call (codeAny_call_builtin PySem.F.slot_str_join.plain PySem.F.entry_str_join (PySem.F.slot_str_join.check _ _ _ _ _ _ _ _ (typeIs_str _ _ _) (PySem.F.args_str_join_2 _ _) ?_))
  rw [join_tree_other]
  refine wpAny_bind (wpAny_typeOf hi.typeIs ?_)
  show wpAny _ A.in1 ((pyIter (.ref it)).tryCatch _ >>= fun it => collect it >>= fun items => joinTail x items) _ _ s
  refine wpAny_bind (wpAny_tryCatch (wpAny_pyIter_revIter hi ?_))
  refine wpAny_bind (collect_rev hh hl hne hi hn fun h' tk acc hk hacc => ?_)
  have el : ∃ l : List (Str × Tok), strValues l = acc.toList ∧ l.map (·.1) = ys.reverse := by
    have ex : ∀ v ∈ acc.toList, ∃ y u, v = Value.str y u := fun v hv => by
      obtain ⟨j, hj, rfl⟩ := Array.mem_iff_getElem.mp (Array.mem_toList_iff.mp hv)
      have q : items[items.size - 1 - j]? = some acc[j] := hacc.2 j _ (Array.getElem?_eq_getElem hj)
      have hj' : items.size - 1 - j < ys.length := by have := hacc.1; lia
      obtain ⟨u, hu⟩ := hs _ _ (List.getElem?_eq_getElem hj')
      rw [hu] at q
      exact ⟨_, _, (Option.some.inj q).symm⟩
    obtain ⟨l, e⟩ := exists_strValues acc.toList ex
    refine ⟨l, e, List.ext_getElem? fun i => ?_⟩
    have ll : l.length = items.size := by
      have := congrArg List.length e
      simp only [strValues, List.length_map, Array.length_toList] at this
      rw [this, hacc.1]
    by_cases hi' : i < items.size
    · have hi2 : i < acc.size := by rw [hacc.1]; exact hi'
      have q : items[items.size - 1 - i]? = some acc[i] := hacc.2 i _ (Array.getElem?_eq_getElem hi2)
      have hj' : items.size - 1 - i < ys.length := by lia
      obtain ⟨u, hu⟩ := hs _ _ (List.getElem?_eq_getElem hj')
      rw [hu] at q
      have q2 : acc.toList[i]? = some (.str (ys[items.size - 1 - i]) u) := by
        rw [Array.getElem?_toList, Array.getElem?_eq_getElem hi2]; exact q.symm
      rw [← e, strValues, List.getElem?_map] at q2
      cases e3 : l[i]? with
      | none => rw [e3] at q2; cases q2
      | some p =>
        rw [e3] at q2
        have : p.1 = ys[items.size - 1 - i] := by
          obtain ⟨p1, p2⟩ := p
          have := Option.some.inj q2
          cases this; rfl
        rw [List.getElem?_map, e3, Option.map_some, this, List.getElem?_reverse (by lia), List.getElem?_eq_getElem (by lia)]
        congr 2
        lia
    · rw [List.getElem?_eq_none (by rw [List.length_map]; lia), List.getElem?_eq_none (by rw [List.length_reverse]; lia)]
  obtain ⟨l, e, e2⟩ := el
  rw [← e]
  have hok : tooLong ((l.map (·.1)).toArray.foldl (· + ·.length + x.length) 0) = false := by
    rw [StrLaws.joinTotal, e2]
    have h1 : (ys.reverse.map (·.length)).sum = (ys.map (·.length)).sum := by rw [List.map_reverse, List.sum_reverse]
    rw [h1, List.length_reverse]
    unfold tooLong sizeLine
    exact decide_eq_false (by lia)
  have g : Gives (joinTail x (strValues l)) (joinMade x l) := by
    have made := gives_joinTail x l hok
    rcases l with _ | ⟨p, _ | ⟨q, r⟩⟩ <;> exact made
  refine g prog w A (wants Q E) { s with heap := h', toks := tk } (post_join l ⟨joinFit_length hok, fun t' k => ?_⟩)
  rw [e2]
  exact hQ h' k t' hk
end
end PySem
namespace L2
open PySem PySem.Spec PyProof.Rows
section
noncomputable def tJoinR (K : PySem.W.Frag) (to te : TE) : TE := fun σ H Q => to σ H fun x H1 => ∃ z : Str, x = .str z ∧ te σ H1 fun y H2 => ∃ (l : Addr) (ys : List Str), y = .ref l ∧ SqL K H2 l (ys.map V.str) ∧ (ys.map (·.length)).sum + ys.length * z.length ≤ 16777216 ∧ Q (.str (Txt.join z ys.reverse)) H2
theorem vals_str : ∀ {ys : List Str} {us : List Value}, Vals (ys.map V.str) us → ∀ (i : Nat) (y : Str), ys[i]? = some y → ∃ u : Tok, us[i]? = some (Value.str y u)
  | [], _, _, i, y, e => by simp at e
  | z :: ys, us, r, i, y, e => by
    rw [List.map_cons] at r
    cases r with
    | cons r1 r2 =>
      obtain ⟨t, rfl⟩ := r1
      cases i with
      | zero => simp at e; subst e; exact ⟨t, rfl⟩
      | succ i => simpa using vals_str r2 i y (by simpa using e)
theorem pe_joinrev  (hc : X.calm = true) (gr : Gl X "reversed") (mr : X.mg "reversed" = none) (ho : PE X o to) (he : PE X e te)
    (hbase : attributeBase o "join" X.env (eval o X.env) = eval o X.env := by rfl)
    (hfew : ((backTo cpos (starEach [.Call (.Name "reversed" p2) [e] [] q2] X.env)).all (fun x => !x.1) && (backToKw cpos (keywordEach [] X.env)).all (fun x => x.1.isSome)
      && decide ([Expr.Call (.Name "reversed" p2) [e] [] q2].length + ([] : List Keyword).length + (if ([] : List Keyword).isEmpty then 0 else 1) < 30)) = true := by rfl)
    (hline : (apos.endLine == cpos.line) = true := by rfl) (hs1 : starEach [e] X.env = [(false, eval e X.env)] := by rfl)
    (hs2 : starEach [.Call (.Name "reversed" p2) [e] [] q2] X.env = [(false, eval (.Call (.Name "reversed" p2) [e] [] q2) X.env)] := by rfl) :
    PE X (.Call (.Attribute o "join" apos) [.Call (.Name "reversed" p2) [e] [] q2] [] cpos) (tJoinR X.K to te) := by
  intro pins s σ H Q I h
  refine wpAny_Call_method_late hbase hfew hline rfl (thn (ho pins s σ H _ I h) fun v s1 zz => ?_)
  obtain ⟨x, H1, I1, r1, z, e1, q1⟩ := zz
  subst e1
  obtain ⟨h1, h2⟩ := tyV_is I1 r1 rfl
  refine ⟨"str", "str.join", PySem.F.plainAttrs_str, PySem.F.slot_str_join, PySem.F.type_str_join, h1, h2, ?_⟩
  obtain ⟨t, rfl⟩ := r1
  rw [hs2]
  refine Calls.callWith_builtin rfl (Calls.evalArgs_plain ?_)
  show wpAny _ _ (spliced ((false, eval (.Call (.Name "reversed" p2) [e] [] q2) X.env) :: backTo cpos [])) _ _ s1
  refine Calls.spliced_cons ?_
  refine Call_ (ld_blt I1 gr mr PyProof.Rows.boot_reversed (PyProof.Rows.callWith_type1 ?_ (by rw [hs1]; rfl) rfl))
  rw [hs1]
  show wpAny _ _ (spliced ((false, eval e X.env) :: backTo q2 [])) _ _ s1
  refine Calls.spliced_cons (thn (he pins s1 σ H1 _ I1 q1) fun u s2 ⟨y, H2, I2, r2, l, ys, e2, hq, hz, q⟩ => Calls.spliced_nil ?_)
  subst e2
  cases r2
  obtain ⟨its, rv, p, hsz⟩ := I2.list hq
  have hlen := rv.length
  refine call_reversed_list p.isList (Calls.spliced_nil ?_)
  have hl1 : (s2.heap.push (revObj l ((its.toArray.size : Int) - 1))).IsList l its.toArray := p.isList.push _
  have hlt : l < s2.heap.objs.size := by obtain ⟨_, e, _⟩ := p.isList; exact Heap.lt_size e
  have hle : ys.length = its.length := by rw [List.length_map] at hlen; exact hlen
  refine join_rev (I2.ok.hd hc) hl1 (Nat.ne_of_lt hlt) ⟨_, Heap.get?_push_size _ rfl, rfl, rfl⟩ (by rw [List.size_toArray, ← hle]; rw [List.length_map] at hsz; exact hsz)
    (fun i y e => by obtain ⟨u, hu⟩ := vals_str rv i y e; exact ⟨u, by simpa using hu⟩) (by rw [List.size_toArray]; exact hle) hz fun h' tk t' hk => ?_
  exact ⟨.str _, H2, I2.kept fun b o e => hk b o (Nat.ne_of_lt (Heap.lt_size e)) (Heap.get?_push_of_some _ e), ⟨_, rfl⟩, q⟩
noncomputable def tFmt (tv : TE) : TE := fun σ H Q => tv σ H fun x H1 => ∃ y : Str, x = .str y ∧ y.length ≤ sizeLine ∧ Q (.str y) H1
theorem pe_fmt  (he : PE X e te) : PE X (.FormattedValue e (-1) none pos) (tFmt te) := by
  intro pins s σ H Q I h
  refine wpAny_FormattedValue_plain (thn (he pins s σ H _ I h) fun v s1 zz => ?_)
  obtain ⟨x, H1, I1, r1, y, e1, hy, q⟩ := zz
  subst e1
  obtain ⟨t, rfl⟩ := r1
  exact wpAny_formatField_str ⟨.str y, H1, I1, ⟨_, rfl⟩, q⟩ ⟨.str y, H1, I1.tok _, ⟨_, rfl⟩, q⟩ hy
noncomputable def tJs : List TE → Str → TE
  | [], acc => fun σ H Q => acc.length ≤ sizeLine ∧ Q (.str acc) H
  | t :: ts, acc => fun σ H Q => t σ H fun x H1 => ∃ y : Str, x = .str y ∧ (acc ++ y).length ≤ sizeLine ∧ tJs ts (acc ++ y) σ H1 Q
inductive PJs (X : Cx) : List Expr → List TE → Prop
  | nil : PJs X [] []
  | cons {e : Expr} {es : List Expr} {t : TE} {ts : List TE} : PE X e t → PJs X es ts → PJs X (e :: es) (t :: ts)
theorem PJs.go  (h : PJs X es ts) : ∀ {acc : Str} {pins : List (Addr × Obj)} {s : Shared} {σ : St} {H : Hp} {Q : VK}, Inv X pins σ H s → tJs ts acc σ H Q →
    Joins (model X.prog X.w) X.A X.xe (evalEach es X.env) acc (fun out s1 => out.length ≤ sizeLine ∧ EP X pins σ Q (.str out s1.toks) { s1 with toks := s1.toks + 1 }) s := by
  induction h with
  | nil =>
    intro acc pins s σ H Q I q
    exact ⟨q.1, .str acc, H, I.tok _, ⟨_, rfl⟩, q.2⟩
  | cons he hr ih =>
    intro acc pins s σ H Q I q
    show wpAny _ _ _ _ _ _
    refine thn (he pins s σ H _ I q) fun v s1 zz => ?_
    obtain ⟨x, H1, I1, r1, y, e1, hz, q1⟩ := zz
    subst e1
    obtain ⟨t, rfl⟩ := r1
    exact ⟨y, t, rfl, hz, ih I1 q1⟩
theorem pe_joined   (h : PJs X (a :: b :: es) ts) : PE X (.JoinedStr (a :: b :: es) pos) (tJs ts Str.empty) := by
  intro pins s σ H Q I q
  exact wpAny_JoinedStr (h.go I q)
end
end L2
namespace PySem
open PyProof.Rows
/-- its places are unlike, and what the drawers lean on is none of them -/
structure ApD (z TI TO i1 i2 : Addr) (fp1 fp2 : List Addr) : Prop where
  TIz : TI ≠ z
  TOz : TO ≠ z
  TITO : TI ≠ TO
  TIi1 : TI ≠ i1
  TIi2 : TI ≠ i2
  i12 : i1 ≠ i2
  m1 : i1 ∈ fp1
  m2 : i2 ∈ fp2
  a1 : ∀ c ∈ fp1, c ≠ z ∧ c ≠ TO ∧ c ≠ i2
  a2 : ∀ c ∈ fp2, c ≠ z ∧ c ≠ TO ∧ c ≠ i1
/-- how a zip stands: its first field, what its own pair holds, how far both drawers are -/
structure ZAt (z TI TO i1 i2 : Addr) (S1 S2 : Nat → Heap → Prop) (v a b : Value) (k1 k2 : Nat) (h : Heap) : Prop where
  zp : IsZip h z TI TO v
  ti : IsPair h TI (.ref i1) (.ref i2)
  own : IsPair h TO a b
  l : S1 k1 h
  r : S2 k2 h
/-- nothing but the zip, its pair and its drawers has changed -/
noncomputable def Still (z TO i1 i2 : Addr) (h h' : Heap) : Prop := ∀ c o, c ∉ [z, TO, i1, i2] → h.get? c = some o → h'.get? c = some o
theorem Still.trans {z TO i1 i2 : Addr} {h h1 h2 : Heap} (x : Still z TO i1 i2 h h1) (y : Still z TO i1 i2 h1 h2) : Still z TO i1 i2 h h2 := fun c o n q => y c o n (x c o n q)
theorem Still.of {z TO i1 i2 c : Addr} {h h1 : Heap} (m : c ∈ [z, TO, i1, i2]) (x : Heap.ExtBut c h h1) : Still z TO i1 i2 h h1 := fun b o n q => x b o (fun e => n (e ▸ m)) q
section
variable {P : Program} {w : World} {A : Around} {E : Value → Shared → Prop} {s : Shared} {z TI TO i1 i2 : Addr} {f1 f2 : List Addr} {n1 n2 k1 k2 : Nat} {P1 P2 : Nat → Value → Prop} {S1 S2 : Nat → Heap → Prop} {v a b : Value}
/-- a step at the zip itself -/
theorem ZAt.flag {j : Nat} {u v' : Value} {Q : Unit → Shared → Prop} (D : ApD z TI TO i1 i2 f1 f2) (D1 : Draws P w A i1 f1 n1 P1 S1) (D2 : Draws P w A i2 f2 n2 P2 S2) (x : ZAt z TI TO i1 i2 S1 S2 v a b k1 k2 s.heap)
    (hj : j < 5) (e : (#[v, .bool false, .bool false, .ref TI, .ref TO] : Array Value).setIfInBounds j u = #[v', .bool false, .bool false, .ref TI, .ref TO])
    (k : ∀ h', ZAt z TI TO i1 i2 S1 S2 v' a b k1 k2 h' → Still z TO i1 i2 s.heap h' → h'.objs.size = s.heap.objs.size → Q () { s with heap := h' }) : wpAny (model P w) A (setField (.ref z) j u) Q E s := by
  refine wpAny_setField_rec x.zp hj fun h' q sb => ?_
  rw [e] at q
  have kp := sb.extBut
  exact k h' ⟨q, kp _ _ D.TIz x.ti, kp _ _ D.TOz x.own, D1.frame _ _ _ x.l fun c m o => kp c o (D.a1 c m).1, D2.frame _ _ _ x.r fun c m o => kp c o (D.a2 c m).1⟩ (.of (by simp) kp) sb.1
/-- the left one draws -/
theorem ZAt.left {Q : Value → Shared → Prop} (D : ApD z TI TO i1 i2 f1 f2) (D1 : Draws P w A i1 f1 n1 P1 S1) (D2 : Draws P w A i2 f2 n2 P2 S2) (x : ZAt z TI TO i1 i2 S1 S2 v a b k1 k2 s.heap) (lt : k1 < n1)
    (k : ∀ u h' tk, P1 k1 u → ZAt z TI TO i1 i2 S1 S2 v a b (k1 + 1) k2 h' → Still z TO i1 i2 s.heap h' → h'.objs.size = s.heap.objs.size → Q u { s with heap := h', toks := tk }) : wpAny (model P w) A (Builtin.SmallTypes.nextOf (.ref i1)) Q E s := by
  refine D1.item k1 s Q E lt x.l fun u h' tk p st sb => ?_
  obtain ⟨y1, y2, y3⟩ := D.a1 _ D.m1
  have kp := sb.extBut
  exact k u h' tk p ⟨kp _ _ y1.symm x.zp, kp _ _ D.TIi1 x.ti, kp _ _ y2.symm x.own, st, D2.frame _ _ _ x.r fun c m o => kp c o (D.a2 c m).2.2⟩ (.of (by simp) kp) sb.1
/-- the right one draws -/
theorem ZAt.right {Q : Value → Shared → Prop} (D : ApD z TI TO i1 i2 f1 f2) (D1 : Draws P w A i1 f1 n1 P1 S1) (D2 : Draws P w A i2 f2 n2 P2 S2) (x : ZAt z TI TO i1 i2 S1 S2 v a b k1 k2 s.heap) (lt : k2 < n2)
    (k : ∀ u h' tk, P2 k2 u → ZAt z TI TO i1 i2 S1 S2 v a b k1 (k2 + 1) h' → Still z TO i1 i2 s.heap h' → h'.objs.size = s.heap.objs.size → Q u { s with heap := h', toks := tk }) : wpAny (model P w) A (Builtin.SmallTypes.nextOf (.ref i2)) Q E s := by
  refine D2.item k2 s Q E lt x.r fun u h' tk p st sb => ?_
  obtain ⟨y1, y2, y3⟩ := D.a2 _ D.m2
  have kp := sb.extBut
  exact k u h' tk p ⟨kp _ _ y1.symm x.zp, kp _ _ D.TIi2 x.ti, kp _ _ y2.symm x.own, D1.frame _ _ _ x.l fun c m o => kp c o (D.a1 c m).2.2, st⟩ (.of (by simp) kp) sb.1
/-- its own pair is written -/
theorem ZAt.put {j : Nat} {u a' b' : Value} {Q : Unit → Shared → Prop} (D : ApD z TI TO i1 i2 f1 f2) (D1 : Draws P w A i1 f1 n1 P1 S1) (D2 : Draws P w A i2 f2 n2 P2 S2) (x : ZAt z TI TO i1 i2 S1 S2 v a b k1 k2 s.heap)
    (e : (#[a, b] : Array Value).setIfInBounds j u = #[a', b'])
    (k : ∀ h', ZAt z TI TO i1 i2 S1 S2 v a' b' k1 k2 h' → Still z TO i1 i2 s.heap h' → h'.objs.size = s.heap.objs.size → Q () { s with heap := h' }) : wpAny (model P w) A (updateSeq TO fun y => y.setIfInBounds j u) Q E s := by
  refine wpAny_updateSeq_pair x.own fun h' q sb => ?_
  rw [e] at q
  have kp := sb.extBut
  exact k h' ⟨kp _ _ D.TOz.symm x.zp, kp _ _ D.TITO x.ti, q, D1.frame _ _ _ x.l fun c m o => kp c o (D.a1 c m).2.1, D2.frame _ _ _ x.r fun c m o => kp c o (D.a2 c m).2.1⟩ (.of (by simp) kp) sb.1
/-- something new is laid down -/
theorem ZAt.more {h : Heap} (D1 : Draws P w A i1 f1 n1 P1 S1) (D2 : Draws P w A i2 f2 n2 P2 S2) (x : ZAt z TI TO i1 i2 S1 S2 v a b k1 k2 h) (o : Obj) : ZAt z TI TO i1 i2 S1 S2 v a b k1 k2 (h.push o) :=
  have kp : ∀ {c u}, h.get? c = some u → (h.push o).get? c = some u := fun q => Heap.get?_push_of_some o q
  ⟨kp x.zp, kp x.ti, kp x.own, D1.frame _ _ _ x.l fun _ _ _ => kp, D2.frame _ _ _ x.r fun _ _ _ => kp⟩
theorem ZAt.at0 {Q : Value → Shared → Prop} (x : ZAt z TI TO i1 i2 S1 S2 v a b k1 k2 s.heap) (k : Q v s) : wpAny (model P w) A (field (.ref z) 0) Q E s := wpAny_field x.zp rfl rfl k
theorem ZAt.at2 {Q : Value → Shared → Prop} (x : ZAt z TI TO i1 i2 S1 S2 v a b k1 k2 s.heap) (k : Q (.bool false) s) : wpAny (model P w) A (field (.ref z) 2) Q E s := wpAny_field x.zp rfl rfl k
theorem ZAt.at3 {Q : Value → Shared → Prop} (x : ZAt z TI TO i1 i2 S1 S2 v a b k1 k2 s.heap) (k : Q (.ref TI) s) : wpAny (model P w) A (field (.ref z) 3) Q E s := wpAny_field x.zp rfl rfl k
theorem ZAt.at4 {Q : Value → Shared → Prop} (x : ZAt z TI TO i1 i2 S1 S2 v a b k1 k2 s.heap) (k : Q (.ref TO) s) : wpAny (model P w) A (field (.ref z) 4) Q E s := wpAny_field x.zp rfl rfl k
theorem ZAt.its {Q : Option (Array Value) → Shared → Prop} (x : ZAt z TI TO i1 i2 S1 S2 v a b k1 k2 s.heap) (k : Q (some #[.ref i1, .ref i2]) s) : wpAny (model P w) A (seqItems? (.ref TI)) Q E s := wpAny_seqItems x.ti rfl k
theorem ZAt.kept {Q : Option (Array Value) → Shared → Prop} (x : ZAt z TI TO i1 i2 S1 S2 v a b k1 k2 s.heap) (k : Q (some #[a, b]) s) : wpAny (model P w) A (seqItems? (.ref TO)) Q E s := wpAny_seqItems x.own rfl k
theorem pair_new {u v : Value} {Q : Value → Shared → Prop} (k : Q (.ref s.heap.objs.size) { s with heap := s.heap.push { cls := .type "tuple", data := .seq #[u, v] } }) : wpAny (model P w) A (newTuple (#[u, v] : Array Value).toList) Q E s := wpAny_newTuple (items := [u, v]) k (by simp [sizeLine_eq])
/-- a drawer has no more: the zip is free again, and the end goes on -/
theorem ZAt.ends {h2 : Heap} {e : Addr} {oe : Obj} {H : Heap} {tk : Nat} (hz : IsZip h2 z TI TO .ellipsis) (st : Still z TO i1 i2 H h2) (q : h2.get? e = some oe) (hc : oe.cls = .type "StopIteration")
    (k : ∀ h' e tk, Still z TO i1 i2 H h' → (∃ o, h'.get? e = some o ∧ o.cls = .type "StopIteration") → E (.ref e) { s with heap := h', toks := tk }) :
    wpAny (model P w) A (setField (.ref z) 0 .none) (fun _ s' => E (.ref e) s') E { s with heap := h2, toks := tk } := by
  refine wpAny_setField_rec (s := { s with heap := h2, toks := tk }) hz (by simp) fun h' _ sb => k h' e tk (st.trans (.of (by simp) sb.extBut)) ⟨oe, sb.extBut _ _ (fun y => ?_) q, hc⟩
  rw [y, hz] at q
  cases q
  simp at hc
/-- zip.__next__: both draw, or the end -/
theorem zip_turn {Q : Fin → Shared → Prop} (D : ApD z TI TO i1 i2 f1 f2) (D1 : Draws P w A i1 f1 n1 P1 S1) (D2 : Draws P w A i2 f2 n2 P2 S2) (x : ZAt z TI TO i1 i2 S1 S2 .none a b k1 k2 s.heap) (le : k1 < n1 ∧ k2 < n2 ∨ k1 = n1 ∨ k1 < n1 ∧ k2 = n2)
    (kI : k1 < n1 → k2 < n2 → ∀ u v h' tk, P1 k1 u → P2 k2 v → ZAt z TI TO i1 i2 S1 S2 (rawInt s.heap.objs.size) u v (k1 + 1) (k2 + 1) h' → IsPair h' s.heap.objs.size u v → h'.objs.size = s.heap.objs.size + 1 → Still z TO i1 i2 s.heap h' → Q (.done (.ret (.ref s.heap.objs.size))) { s with heap := h', toks := tk })
    (kE : ¬ (k1 < n1 ∧ k2 < n2) → ∀ h' e tk, Still z TO i1 i2 s.heap h' → (∃ o, h'.get? e = some o ∧ o.cls = .type "StopIteration") → E (.ref e) { s with heap := h', toks := tk }) :
    wpAny (model P w) A (Builtin.«zip.__next__» ⟨[.ref z], []⟩) Q E s := by
  unfold Builtin.«zip.__next__» Builtin.SmallTypes.ownedTupleIsFree Builtin.SmallTypes.ownedTupleHandOut
  rcases le with ⟨l1, l2⟩ | end1 | ⟨l1, end2⟩
  · repeat (first
      | with_reducible refine wpAny_onRaise ?_
      | with_reducible refine wpAny_letGo ?_
      | with_reducible refine x.flag (u := .ellipsis) D D1 D2 (by simp) rfl fun g1 x1 t1 z1 => ?_
      | with_reducible refine x.at0 ?_ | with_reducible refine x.at2 ?_ | with_reducible refine x.at3 ?_ | with_reducible refine x.at4 ?_ | with_reducible refine x.its ?_
      | with_reducible refine ZAt.left (s := { s with heap := g1 }) D D1 D2 x1 l1 fun u g2 tk2 p1 x2 t2 z2 => ?_
      | with_reducible refine ZAt.kept (s := { s with heap := g2, toks := tk2 }) x2 ?_
      | with_reducible refine ZAt.put (s := { s with heap := g2, toks := tk2 }) D D1 D2 x2 rfl fun g3 x3 t3 z3 => ?_
      | with_reducible refine ZAt.right (s := { s with heap := g3, toks := tk2 }) D D1 D2 x3 l2 fun v g4 tk4 p2 x4 t4 z4 => ?_
      | with_reducible refine ZAt.kept (s := { s with heap := g4, toks := tk4 }) x4 ?_
      | with_reducible refine ZAt.put (s := { s with heap := g4, toks := tk4 }) D D1 D2 x4 rfl fun g5 x5 t5 z5 => ?_
      | with_reducible refine ZAt.kept (s := { s with heap := g5, toks := tk4 }) x5 ?_
      | with_reducible refine pair_new ?_
      | with_reducible refine ZAt.flag (s := { s with heap := g5.push _, toks := tk4 }) (u := rawInt g5.objs.size) D D1 D2 (x5.more D1 D2 _) (by simp) rfl fun g6 x6 t6 z6 => ?_
      | with_reducible refine ZAt.flag (s := { s with heap := g6, toks := tk4 }) (u := .bool false) D D1 D2 x6 (by simp) rfl fun g7 x7 t7 z7 => ?_
      | wp_step)
    have zs : g5.objs.size = s.heap.objs.size := z5.trans (z4.trans (z3.trans (z2.trans z1)))
    have new : ∀ {c o}, g5.get? c = some o → g5.objs.size ≠ c := fun q => Nat.ne_of_gt (Heap.lt_size q)
    have far : g5.objs.size ∉ [z, TO, i1, i2] := fun m => by
      obtain ⟨o1, q1⟩ := D1.live _ _ x5.l
      obtain ⟨o2, q2⟩ := D2.live _ _ x5.r
      simp only [List.mem_cons, List.not_mem_nil, or_false] at m
      rcases m with m | m | m | m
      · exact new x5.zp m
      · exact new x5.own m
      · exact new q1 m
      · exact new q2 m
    have pr : IsPair g7 g5.objs.size u v := t7 _ _ far (t6 _ _ far (Heap.get?_push_size _ rfl))
    have sz : g7.objs.size = g5.objs.size + 1 := z7.trans (z6.trans (Heap.size_push _ _))
    have all : Still z TO i1 i2 s.heap g7 := ((t1.trans t2).trans (t3.trans t4)).trans (t5.trans fun c o n q => t7 c o n (t6 c o n (Heap.get?_push_of_some _ q)))
    show Q (.done (.ret (.ref g5.objs.size))) { s with heap := g7, toks := tk4 }
    rw [zs] at x7 pr sz ⊢
    exact kI l1 l2 u v g7 tk4 p1 p2 x7 pr sz all
  · subst end1
    have kE := kE fun y => Nat.lt_irrefl _ y.1
    repeat (first
      | with_reducible refine wpAny_onRaise ?_
      | with_reducible refine x.flag (u := .ellipsis) D D1 D2 (by simp) rfl fun g1 x1 t1 z1 => ?_
      | with_reducible refine x.at0 ?_ | with_reducible refine x.at2 ?_ | with_reducible refine x.at3 ?_ | with_reducible refine x.at4 ?_ | with_reducible refine x.its ?_
      | with_reducible refine D1.done { s with heap := g1 } _ _ x1.l fun g2 e eb st => st.elim fun oe st => ?_
      | exact ZAt.ends (s := s) (tk := s.toks) (eb _ _ (D.a1 _ D.m1).1.symm x1.zp) (t1.trans (.of (by simp) eb)) st.1 st.2 kE
      | wp_step)
  · subst end2
    have kE := kE fun y => Nat.lt_irrefl _ y.2
    repeat (first
      | with_reducible refine wpAny_onRaise ?_
      | with_reducible refine wpAny_letGo ?_
      | with_reducible refine x.flag (u := .ellipsis) D D1 D2 (by simp) rfl fun g1 x1 t1 z1 => ?_
      | with_reducible refine x.at0 ?_ | with_reducible refine x.at2 ?_ | with_reducible refine x.at3 ?_ | with_reducible refine x.at4 ?_ | with_reducible refine x.its ?_
      | with_reducible refine ZAt.left (s := { s with heap := g1 }) D D1 D2 x1 l1 fun u g2 tk2 p1 x2 t2 z2 => ?_
      | with_reducible refine ZAt.kept (s := { s with heap := g2, toks := tk2 }) x2 ?_
      | with_reducible refine ZAt.put (s := { s with heap := g2, toks := tk2 }) D D1 D2 x2 rfl fun g3 x3 t3 z3 => ?_
      | with_reducible refine D2.done { s with heap := g3, toks := tk2 } _ _ x3.r fun g4 e eb st => st.elim fun oe st => ?_
      | exact ZAt.ends (s := s) (tk := tk2) (eb _ _ (D.a2 _ D.m2).1.symm x3.zp) ((t1.trans (t2.trans t3)).trans (.of (by simp) eb)) st.1 st.2 kE
      | wp_step)
theorem still_but {h h' : Heap} (t : Still z TO i1 i2 h h') : ∀ c o, c ≠ z → c ≠ TO → c ≠ i1 → c ≠ i2 → h.get? c = some o → h'.get? c = some o := fun c o n1 n2 n3 n4 q => t c o (by simp [n1, n2, n3, n4]) q
/-- next of such a zip -/
theorem next_zip {Q : Option Value → Shared → Prop} (D : ApD z TI TO i1 i2 f1 f2) (D1 : Draws P w A.in1 i1 f1 n1 P1 S1) (D2 : Draws P w A.in1 i2 f2 n2 P2 S2) (x : ZAt z TI TO i1 i2 S1 S2 .none a b k1 k2 s.heap) (le : k1 < n1 ∧ k2 < n2 ∨ k1 = n1 ∨ k1 < n1 ∧ k2 = n2)
    (kI : k1 < n1 → k2 < n2 → ∀ u v h' tk, P1 k1 u → P2 k2 v → ZAt z TI TO i1 i2 S1 S2 (rawInt s.heap.objs.size) u v (k1 + 1) (k2 + 1) h' → IsPair h' s.heap.objs.size u v → h'.objs.size = s.heap.objs.size + 1 → Still z TO i1 i2 s.heap h' → Q (some (.ref s.heap.objs.size)) { s with heap := h', toks := tk })
    (kE : ¬ (k1 < n1 ∧ k2 < n2) → ∀ h' tk, Still z TO i1 i2 s.heap h' → Q none { s with heap := h', toks := tk }) : wpAny (model P w) A (pyNext (.ref z)) Q E s := by
  have ty : s.TypeIs (.ref z) "zip" := ⟨_, x.zp, rfl⟩
  refine wpAny_bind (wpAny_attempt (wpAny_callSpecial?_slot ty F.slot_zip_next (wpAny_call_entry F.slot_zip_next ty F.entry_zip_next ?_ (F.args_zip_next_1 _))))
  refine zip_turn D D1 D2 x le (fun l1 l2 u v h' tk p1 p2 x' pr sz st => ⟨_, rfl, wpAny_pure (kI l1 l2 u v h' tk p1 p2 x' pr sz st)⟩) fun no h' e tk st zz => ?_
  obtain ⟨o, q, hc⟩ := zz
  exact wpAny_bind (wpAny_isInstance ⟨o, q, hc⟩ isSubtype_stop (wpAny_pure (kE no h' tk st)))
theorem pyNext_zipD_item {Q : Option Value → Shared → Prop} (D : ApD z TI TO i1 i2 f1 f2) (D1 : Draws P w A.in1 i1 f1 n1 P1 S1) (D2 : Draws P w A.in1 i2 f2 n2 P2 S2) (hz : IsZip s.heap z TI TO .none) (ht : IsPair s.heap TI (.ref i1) (.ref i2)) (ho : IsPair s.heap TO a b)
    (h1 : S1 k1 s.heap) (h2 : S2 k2 s.heap) (l1 : k1 < n1) (l2 : k2 < n2) (k : ∀ u v h' tk, P1 k1 u → P2 k2 v → IsZip h' z TI TO (rawInt s.heap.objs.size) → IsPair h' TO u v → S1 (k1 + 1) h' → S2 (k2 + 1) h' → IsPair h' s.heap.objs.size u v → h'.objs.size = s.heap.objs.size + 1 →
      (∀ c o, c ≠ z → c ≠ TO → c ≠ i1 → c ≠ i2 → s.heap.get? c = some o → h'.get? c = some o) → Q (some (.ref s.heap.objs.size)) { s with heap := h', toks := tk }) : wpAny (model P w) A (pyNext (.ref z)) Q E s :=
  next_zip D D1 D2 ⟨hz, ht, ho, h1, h2⟩ (.inl ⟨l1, l2⟩) (fun _ _ u v h' tk p1 p2 y pr sz st => k u v h' tk p1 p2 y.zp y.own y.l y.r pr sz (still_but st)) fun no => absurd ⟨l1, l2⟩ no
theorem pyNext_zipD_end {Q : Option Value → Shared → Prop} (D : ApD z TI TO i1 i2 f1 f2) (D1 : Draws P w A.in1 i1 f1 n1 P1 S1) (D2 : Draws P w A.in1 i2 f2 n2 P2 S2) (hz : IsZip s.heap z TI TO .none) (ht : IsPair s.heap TI (.ref i1) (.ref i2)) (ho : IsPair s.heap TO a b)
    (h1 : S1 k1 s.heap) (h2 : S2 k2 s.heap) (le : k1 = n1 ∨ k1 < n1 ∧ k2 = n2) (k : ∀ h' tk, (∀ c o, c ≠ z → c ≠ TO → c ≠ i1 → c ≠ i2 → s.heap.get? c = some o → h'.get? c = some o) → Q none { s with heap := h', toks := tk }) : wpAny (model P w) A (pyNext (.ref z)) Q E s :=
  next_zip D D1 D2 ⟨hz, ht, ho, h1, h2⟩ (.inr le) (fun l1 l2 => by rcases le with rfl | ⟨_, rfl⟩ <;> lia) fun _ h' tk st => k h' tk (still_but st)
end
end PySem
namespace PySem
open PyProof.Rows
noncomputable def PIt (v : Value) (o : Obj) (C : Heap → Prop) : Prop := ∀ (prog : Program) (w : World) (A : Around) (E : Value → Shared → Prop) (s : Shared) (Q : Value → Shared → Prop), C s.heap → Q (.ref s.heap.objs.size) { s with heap := s.heap.push o } → wpAny (model prog w) A (pyIter v) Q E s
noncomputable abbrev zpH3 (h : Heap) (o1 o2 : Obj) : Heap := ((h.push o1).push o2).push { cls := .type "tuple", data := .seq #[.ref h.objs.size, .ref (h.push o1).objs.size] }
noncomputable abbrev zpH4 (h : Heap) (o1 o2 : Obj) : Heap := (zpH3 h o1 o2).push { cls := .type "tuple", data := .seq #[.none, .none] }
noncomputable abbrev zpH5 (h : Heap) (o1 o2 : Obj) : Heap := (zpH4 h o1 o2).push { cls := .type "zip", data := .fields #[.none, .bool false, .bool false, .ref ((h.push o1).push o2).objs.size, .ref (zpH3 h o1 o2).objs.size] }
theorem meets_zipG {v1 v2 : Value} {o1 o2 : Obj} {C1 C2 : Heap → Prop} (p1 : PIt v1 o1 C1) (p2 : PIt v2 o2 C2) (hC : ∀ h, C2 h → C2 (h.push o1)) :
    Meets (Builtin.«zip.__new__» ⟨[.type "zip", v1, v2], []⟩) (fun _ R s => C1 s.heap ∧ C2 s.heap ∧ R (.ok (.ret (.ref (zpH4 s.heap o1 o2).objs.size))) { s with heap := zpH5 s.heap o1 o2 }) :=
  .of_wp fun prog w A R s h => by
    obtain ⟨hp, g, d, tk, os⟩ := s; obtain ⟨c1, c2, h⟩ := h
    have hsub := sub_zip
    have q1 : ∀ {A : Around} {E : Value → Shared → Prop} {Q : Value → Shared → Prop}, Q (.ref hp.objs.size) ⟨hp.push o1, g, d, tk, os⟩ → wpAny (model prog w) A (pyIter v1) Q E ⟨hp, g, d, tk, os⟩ := fun q => p1 prog w _ _ ⟨hp, g, d, tk, os⟩ _ c1 q
    have q2 : ∀ {A : Around} {E : Value → Shared → Prop} {Q : Value → Shared → Prop}, Q (.ref (hp.push o1).objs.size) ⟨(hp.push o1).push o2, g, d, tk, os⟩ → wpAny (model prog w) A (pyIter v2) Q E ⟨hp.push o1, g, d, tk, os⟩ := fun q => p2 prog w _ _ ⟨hp.push o1, g, d, tk, os⟩ _ (hC _ c2) q
    wp_walk using q1, q2
    exact ⟨_, rfl, h⟩
section
variable {prog : Program} {w : World} {A : Around} {E : Value → Shared → Prop} {s : Shared}
theorem call_zipG {v1 v2 : Value} {o1 o2 : Obj} {C1 C2 : Heap → Prop} {Q : Value → Shared → Prop} (p1 : PIt v1 o1 C1) (p2 : PIt v2 o2 C2) (hC : ∀ h, C2 h → C2 (h.push o1)) (f1 : o1.isFreed = false) (f2 : o2.isFreed = false) (c1 : C1 s.heap) (c2 : C2 s.heap)
    (h : ∀ h', IsZip h' (s.heap.objs.size + 4) (s.heap.objs.size + 2) (s.heap.objs.size + 3) .none → IsPair h' (s.heap.objs.size + 2) (.ref s.heap.objs.size) (.ref (s.heap.objs.size + 1)) →
      IsPair h' (s.heap.objs.size + 3) .none .none → h'.get? s.heap.objs.size = some o1 → h'.get? (s.heap.objs.size + 1) = some o2 →
      (∀ c o, s.heap.get? c = some o → h'.get? c = some o) → Q (.ref (s.heap.objs.size + 4)) { s with heap := h' }) :
    wpAny (model prog w) A (call (.type "zip") [v1, v2]) Q E s := by
  refine callType_new F.called_zip (by decide) (F.typeCall_zip_2 _ _) (F.newCall_zip_2 _ _) (fun obj => F.args_object_init_3 obj _ _) F.entry_zip_new (meets_zipG p1 p2 hC) ⟨c1, c2, ?_⟩
  have z1 : (s.heap.push o1).objs.size = s.heap.objs.size + 1 := Heap.size_push ..
  have z2 : ((s.heap.push o1).push o2).objs.size = s.heap.objs.size + 2 := by rw [Heap.size_push, z1]
  have z3 : (zpH3 s.heap o1 o2).objs.size = s.heap.objs.size + 3 := by rw [Heap.size_push, z2]
  have z4 : (zpH4 s.heap o1 o2).objs.size = s.heap.objs.size + 4 := by rw [Heap.size_push, z3]
  have g5 : (zpH5 s.heap o1 o2).get? (zpH4 s.heap o1 o2).objs.size = some _ := Heap.get?_push_size _ rfl
  have g4 : (zpH5 s.heap o1 o2).get? (zpH3 s.heap o1 o2).objs.size = some _ := Heap.get?_push_of_some _ (Heap.get?_push_size _ rfl)
  have g3 : (zpH5 s.heap o1 o2).get? ((s.heap.push o1).push o2).objs.size = some _ := Heap.get?_push_of_some _ (Heap.get?_push_of_some _ (Heap.get?_push_size _ rfl))
  have g2 : (zpH5 s.heap o1 o2).get? (s.heap.push o1).objs.size = some _ := Heap.get?_push_of_some _ (Heap.get?_push_of_some _ (Heap.get?_push_of_some _ (Heap.get?_push_size _ f2)))
  have g1 : (zpH5 s.heap o1 o2).get? s.heap.objs.size = some _ := Heap.get?_push_of_some _ (Heap.get?_push_of_some _ (Heap.get?_push_of_some _ (Heap.get?_push_of_some _ (Heap.get?_push_size _ f1))))
  show _ ∧ _
  rw [z2, z3, z4] at g5
  rw [z1, z2] at g3
  rw [z3] at g4
  rw [z1] at g2
  rw [z4]
  exact ⟨⟨_, g5, rfl⟩, h _ g5 g3 g4 g1 g2 fun c o x => Heap.get?_push_of_some _ (Heap.get?_push_of_some _ (Heap.get?_push_of_some _ (Heap.get?_push_of_some _ (Heap.get?_push_of_some _ x))))⟩
end
end PySem
namespace L2
open PySem PySem.Spec PyProof.Rows
theorem ztd {X : Cx} {pins : List (Addr × Obj)} {σ : St} {H : Hp} {s : Shared} (I : Inv X pins σ H s) (hc : X.A.handled = none) {it l : Addr} {i : Nat} {xs : List V} (hs : SqT X.K H l xs) : s.heap.IsTupleIter it l i ∧ l ≠ it →
    ∃ (fp : List Addr) (P : Nat → Value → Prop) (St : Nat → Heap → Prop), Draws X.prog X.w X.A.in1 it fp xs.length P St ∧ it ∈ fp ∧ St i s.heap ∧ (∀ b ∈ fp, b = it ∨ b = l) ∧ (∀ j v, P j v → ∃ x, xs[j]? = some x ∧ RelV x v) ∧ ∀ j h, St j h → h.IsTupleIter it l j ∧ l ≠ it
  | ⟨ho, ne⟩ => by
    obtain ⟨us, r, p, z⟩ := I.tuple hs
    have e : us.toArray.size = xs.length := by rw [List.size_toArray]; exact r.length.symm
    have D := Draws.tup (prog := X.prog) (w := X.w) (A := X.A.in1) hc it l ne us.toArray
    rw [e] at D
    refine ⟨_, _, _, D, by simp, ⟨ho, p⟩, fun b hb => ?_, fun j v q => ?_, fun j h q => ⟨q.1, ne⟩⟩
    · simpa using hb
    · have q : us[j]? = some v := by simpa using q
      have hj : j < xs.length := by rw [r.length]; exact (List.getElem?_eq_some_iff.mp q).1
      obtain ⟨u, e1, e2⟩ := r.get (List.getElem?_eq_getElem hj)
      rw [q] at e1
      cases e1
      exact ⟨_, List.getElem?_eq_getElem hj, e2⟩
noncomputable def ItzT (K : PySem.W.Frag) (S T : Addr) : It := ⟨fun i H => ∃ xs ys x y, SqT K H S xs ∧ SqT K H T ys ∧ xs[i]? = some x ∧ ys[i]? = some y,
  fun i H v H' => ∃ a, v = .ref a ∧ H a = none ∧ ∀ xs ys x y, SqT K H S xs → SqT K H T ys → xs[i]? = some x → ys[i]? = some y → H' = upd H a (.tup [x, y]),
  fun i H => ∃ xs ys, SqT K H S xs ∧ SqT K H T ys ∧ min xs.length ys.length = i⟩
structure ZipG (z TI TO i1 i2 : Addr) (S T : Addr) (i : Nat) (h : Heap) : Prop where
  z : IsZip h z TI TO .none
  ti : IsPair h TI (.ref i1) (.ref i2)
  to : ∃ a b, IsPair h TO a b
  s : h.IsTupleIter i1 S i ∧ S ≠ i1
  t : h.IsTupleIter i2 T i ∧ T ≠ i2
structure Ap5 (z TI TO i1 i2 : Addr) (S T : Addr) : Prop where
  nd : [z, TI, TO, i1, i2].Nodup
  s : S ∉ [z, TI, TO, i1, i2]
  t : T ∉ [z, TI, TO, i1, i2]
theorem Ap5.ap {z TI TO i1 i2 : Addr} {S T : Addr} (A : Ap5 z TI TO i1 i2 S T) {f1 f2 : List Addr} (m1 : i1 ∈ f1) (m2 : i2 ∈ f2) (h1 : ∀ b ∈ f1, b = i1 ∨ b = S) (h2 : ∀ b ∈ f2, b = i2 ∨ b = T) : ApD z TI TO i1 i2 f1 f2 := by
  have nd := A.nd
  simp only [List.nodup_cons, List.mem_cons, List.not_mem_nil, or_false, not_or, List.nodup_nil, and_true, not_false_eq_true] at nd
  obtain ⟨⟨a1, a2, a3, a4⟩, ⟨b1, b2, b3⟩, ⟨c1, c2⟩, d1⟩ := nd
  refine ⟨fun e => a1 e.symm, fun e => a2 e.symm, b1, b2, b3, d1, m1, m2, fun c hc => ?_, fun c hc => ?_⟩
  · rcases h1 c hc with e | e
    · subst e; exact ⟨fun e => a3 e.symm, fun e => c1 e.symm, d1⟩
    · have := A.s
      rw [← e] at this
      simp only [List.mem_cons, List.not_mem_nil, or_false, not_or] at this
      exact ⟨this.1, this.2.2.1, this.2.2.2.2⟩
  · rcases h2 c hc with e | e
    · subst e; exact ⟨fun e => a4 e.symm, fun e => c2 e.symm, fun e => d1 e.symm⟩
    · have := A.t
      rw [← e] at this
      simp only [List.mem_cons, List.not_mem_nil, or_false, not_or] at this
      exact ⟨this.1, this.2.2.1, this.2.2.2.1⟩
theorem ZipG.obj {z TI TO i1 i2 : Addr} {S T : Addr} {i : Nat} {h : Heap} (st : ZipG z TI TO i1 i2 S T i h) {b : Addr} (hb : b ∈ [z, TI, TO, i1, i2]) : ∃ o, h.get? b = some o ∧ ∀ v, o.data ≠ .cell v := by
  simp only [List.mem_cons, List.not_mem_nil, or_false] at hb
  obtain ⟨a, c, h3⟩ := st.to
  rcases hb with rfl | rfl | rfl | rfl | rfl
  · exact ⟨_, st.z, fun v q => by cases q⟩
  · exact ⟨_, st.ti, fun v q => by cases q⟩
  · exact ⟨_, h3, fun v q => by cases q⟩
  · obtain ⟨⟨o, e, _, d⟩, _⟩ := st.s; exact ⟨o, e, fun v q => by rw [d] at q; cases q⟩
  · obtain ⟨⟨o, e, _, d⟩, _⟩ := st.t; exact ⟨o, e, fun v q => by rw [d] at q; cases q⟩
theorem turn_zipT {P : Program} {w : World} {K : PySem.W.Frag} {elts : List Expr} {k0 : Nat} {p0 : Pos} {z TI TO i1 i2 : Addr} {S T : Addr} (A : Ap5 z TI TO i1 i2 S T) :
    Turn P w K (.Tuple elts k0 p0) (ItzT K S T) [z, TI, TO, i1, i2] z (ZipG z TI TO i1 i2 S T) where
  mem := by simp
  obj := fun i h st b hb => st.obj hb
  keep := fun i h h' st k => by
    obtain ⟨a, c, h3⟩ := st.to
    exact ⟨k z (by simp) _ st.z, k TI (by simp) _ st.ti, ⟨a, c, k TO (by simp) _ h3⟩, ⟨st.s.1.at fun o e => k i1 (by simp) o e, st.s.2⟩, ⟨st.t.1.at fun o e => k i2 (by simp) o e, st.t.2⟩⟩
  item := by
    intro X hP hw hK hc i pins s σ H E I hf st hg
    subst hP hw hK
    obtain ⟨xs, ys, x, y, hx, hy, ex, ey⟩ := hg
    obtain ⟨f1, P1, S1, D1, m1, s1, b1, r1, o1⟩ := ztd I (I.ok.hd hc) hx st.s
    obtain ⟨f2, P2, S2, D2, m2, s2, b2, r2, o2⟩ := ztd I (I.ok.hd hc) hy st.t
    obtain ⟨a, c, h3⟩ := st.to
    have D := A.ap m1 m2 b1 b2
    refine pyNext_zipD_item D D1 D2 st.z st.ti h3 s1 s2 (List.getElem?_eq_some_iff.mp ex).1 (List.getElem?_eq_some_iff.mp ey).1 fun u v h' tk p1 p2 q1 q2 q3 q4 q5 q6 hk => ⟨.ref s.heap.objs.size, rfl, ?_⟩
    obtain ⟨x', ex', ru⟩ := r1 _ _ p1
    obtain ⟨y', ey', rv⟩ := r2 _ _ p2
    rw [ex] at ex'; cases ex'
    rw [ey] at ey'; cases ey'
    have lt : ∀ b ∈ [z, TI, TO, i1, i2], b ≠ s.heap.objs.size := fun b hb e => by
      obtain ⟨o, eo, _⟩ := st.obj hb
      exact absurd (Heap.lt_size eo) (by rw [e]; exact Nat.lt_irrefl _)
    have nin : ∀ {b : Addr}, b ∉ [z, TI, TO, i1, i2] → b ≠ z ∧ b ≠ TO ∧ b ≠ i1 ∧ b ≠ i2 := fun {b} hb => by
      simp only [List.mem_cons, List.not_mem_nil, or_false, not_or] at hb
      exact ⟨hb.1, hb.2.2.1, hb.2.2.2.1, hb.2.2.2.2⟩
    refine wpAny_letOwnedTupleGo_zip q1 fun h'' z'' sb => ?_
    refine ⟨.ref s.heap.objs.size, upd H s.heap.objs.size (.tup [x, y]), ?_, rfl, ⟨_, rfl, I.hok.fresh (Nat.le_refl _), fun xs' ys' x'' y'' w1 w2 w3 w4 => ?_⟩, ⟨z'', sb.extBut _ _ D.TIz (hk _ _ D.TIz D.TITO D.TIi1 D.TIi2 st.ti), ⟨_, _, sb.extBut _ _ D.TOz q2⟩, ⟨(o1 _ _ q3).1.at fun o e => sb.extBut _ _ (D.a1 _ D.m1).1 e, st.s.2⟩, ⟨(o2 _ _ q4).1.at fun o e => sb.extBut _ _ (D.a2 _ D.m2).1 e, st.t.2⟩⟩, fun b hb => ?_⟩
    · refine I.turnedLay (t' := tk) (fp := [z, TI, TO, i1, i2]) hf (fun b o hb e => sb.extBut _ _ (nin hb).1 (hk b o (nin hb).1 (nin hb).2.1 (nin hb).2.2.1 (nin hb).2.2.2 e)) (Nat.le_refl _) ?_
      exact ⟨by show 2 ≤ sizeLine; decide, [u, v], .cons ru (.cons rv .nil), _, sb.extBut _ _ (lt z (by simp)).symm q5, rfl, rfl, _, rfl⟩
    · rw [I.tuple_inj w1 hx] at w3
      rw [I.tuple_inj w2 hy] at w4
      rw [ex] at w3; rw [ey] at w4
      cases w3; cases w4; rfl
    · rw [upd_ne (lt b hb)]; exact (hf b hb).1
  done := by
    intro X hP hw hK hc i pins s σ H E I hf st hg
    subst hP hw hK
    obtain ⟨xs, ys, hx, hy, hi⟩ := hg
    obtain ⟨f1, P1, S1, D1, m1, s1, b1, r1, o1⟩ := ztd I (I.ok.hd hc) hx st.s
    obtain ⟨f2, P2, S2, D2, m2, s2, b2, r2, o2⟩ := ztd I (I.ok.hd hc) hy st.t
    obtain ⟨a, c, h3⟩ := st.to
    refine pyNext_zipD_end (A.ap m1 m2 b1 b2) D1 D2 st.z st.ti h3 s1 s2 (by lia) fun h' tk hk => ⟨rfl, I.turnedN (fp := [z, TI, TO, i1, i2]) hf fun b o hb e => ?_⟩
    simp only [List.mem_cons, List.not_mem_nil, or_false, not_or] at hb
    exact hk b o hb.1 hb.2.2.1 hb.2.2.2.1 hb.2.2.2.2 e
  self := fun A i s Q E st h => wpAny_pyIter_zip st.z h
section
variable {X : Cx}
noncomputable def iZipT (K : PySem.W.Frag) (ta : TA) : TI := fun σ H R => ta σ H fun vs H1 => ∃ S T xs ys, vs = [.ref S, .ref T] ∧ SqT K H1 S xs ∧ SqT K H1 T ys ∧ R (ItzT K S T) H1
theorem pi_zipT {elts : List Expr} {k0 : Nat} {p0 : Pos} {a b : Expr} {ta : TA} {p pos : Pos} (hg : Gl X "zip") (hm : X.mg "zip" = none) (ha : PA X [a, b] ta)
    (hs : starEach [a, b] X.env = [(false, eval a X.env), (false, eval b X.env)] := by rfl) (hs2 : starEach [b] X.env = [(false, eval b X.env)] := by rfl) :
    PI X (.Tuple elts k0 p0) (.Call (.Name "zip" p) [a, b] [] pos) (iZipT X.K ta) := by
  intro pins s σ H R I h
  refine Call_ (ld_blt I hg hm PyProof.Rows.boot_zip (PyProof.Rows.callWith_type1 (thn (ha pos pins s σ H _ I h) fun us s1 ⟨vs, H1, I1, r1, q1⟩ => ?_) (by rw [hs, hs2]) (by rw [hs2]; rfl)))
  obtain ⟨S, T, xs, ys, e, hx, hy, q⟩ := q1
  subst e
  obtain ⟨u, v, rfl, ru, rv⟩ := vals2 r1
  obtain rfl : u = Value.ref S := ru
  obtain rfl : v = Value.ref T := rv
  obtain ⟨us, _, p1, _⟩ := I1.tuple hx
  obtain ⟨vs, _, p2, _⟩ := I1.tuple hy
  have l1 : (S : Nat) < s1.heap.objs.size := let ⟨_, e, _⟩ := p1; Heap.lt_size e
  have l2 : (T : Nat) < s1.heap.objs.size := let ⟨_, e, _⟩ := p2; Heap.lt_size e
  refine call_zipG (C1 := fun h => h.IsTuple S us.toArray) (C2 := fun h => h.IsTuple T vs.toArray) (fun _ _ _ _ _ _ h q => wpAny_pyIter_tuple h q) (fun _ _ _ _ _ _ h q => wpAny_pyIter_tuple h q) (fun h c => Heap.IsTuple.push c _) rfl rfl p1 p2 fun h' z1 z2 z3 z4 z5 zk => ?_
  have I2 : Inv X pins σ H1 { s1 with heap := h' } := I1.kept (t' := s1.toks) zk
  refine wpAny_pyIter_zip z1 ?_
  have nin : ∀ {b : Nat}, b < s1.heap.objs.size → b ∉ [s1.heap.objs.size + 4, s1.heap.objs.size + 2, s1.heap.objs.size + 3, s1.heap.objs.size, s1.heap.objs.size + 1] := fun hb hm => by
    simp only [List.mem_cons, List.not_mem_nil, or_false] at hm; lia
  refine ⟨_, [s1.heap.objs.size + 4, s1.heap.objs.size + 2, s1.heap.objs.size + 3, s1.heap.objs.size, s1.heap.objs.size + 1], _, _, H1, rfl, I2,
    turn_zipT ⟨by simp, nin l1, nin l2⟩, ⟨z1, z2, ⟨_, _, z3⟩, ⟨⟨_, z4, rfl, rfl⟩, Nat.ne_of_lt l1⟩, ⟨⟨_, z5, rfl, rfl⟩, Nat.ne_of_lt (Nat.lt_succ_of_lt l2)⟩⟩, fun b hb => ?_, q⟩
  have hb' : s1.heap.objs.size ≤ b := by
    simp only [List.mem_cons, List.not_mem_nil, or_false] at hb
    rcases hb with e | e | e | e | e <;> (rw [e]; first | exact Nat.le_add_right _ _ | exact Nat.le_refl _)
  exact I1.fpOk hb' (I1.hok.fresh hb')
end
end L2
namespace L2
open PySem PySem.Spec PyProof.Rows
section
theorem vals_numbered : ∀ (tk : Nat) (ys : List Str), Vals (ys.map V.str) (strsFrom tk ys)
  | _, [] => .nil
  | tk, y :: ys => by rw [List.map_cons]; exact .cons ⟨_, rfl⟩ (vals_numbered (tk + 1) ys)
noncomputable def rSplit : V → List V → Hp → VK → Prop := fun x ys H Q => ∃ (z y : Str), x = .str z ∧ ys = [.str y] ∧ (y.length == 0) = false ∧ z.length ≤ 1000000 ∧ ∀ p, H p = none → Q (.ref p) (upd H p (.lst ((Txt.split z y).map V.str)))
theorem mt_split : MtR X "str.split" rSplit := by
  intro pins s σ H x xs v us Q I rx r h
  obtain ⟨z, y, rfl, rfl, hy, hz, q⟩ := h
  obtain ⟨t, rfl⟩ := rx
  obtain ⟨u, rfl, t', rfl⟩ := vals1 r
  have hz' : z.length ≤ sizeLine := by rw [sizeLine_eq]; lia
  have one : ∀ (e : Txt.split z y = [z]), EP X pins σ Q (.ref s.heap.objs.size) { s with heap := s.heap.push { cls := .type "list", data := .seq [Value.str z t].toArray } } := fun e => by
    refine ⟨.ref s.heap.objs.size, _, I.laid (fun b o e => Heap.get?_push_of_some _ e) (Nat.le_refl _) ?_, rfl, q _ (I.hok.fresh (Nat.le_refl _))⟩
    rw [e]
    exact ⟨by show 1 ≤ sizeLine; decide, [Value.str z t], _, .cons ⟨_, rfl⟩ .nil, Heap.get?_push_size _ rfl⟩
  cases h1 : (decide (z.length < y.length) || decide (Builtin.Str.strKind z < Builtin.Str.strKind y))
  · cases hf : (Builtin.Str.occurrences z y 0 z.length (z.length + 1)).isEmpty
    · have e : Txt.split z y = Builtin.Str.partsBetween z (Builtin.Str.occurrences z y 0 z.length (z.length + 1)) y.length := by
        unfold Txt.split; rw [h1, hf]; rfl
      have hn : (Builtin.Str.partsBetween z (Builtin.Str.occurrences z y 0 z.length (z.length + 1)) y.length).length ≤ sizeLine := by
        have h2 := StrLaws.occ_length_le z y 0 z.length (z.length + 1)
        rw [StrLaws.partsBetween_eq]
        have h3 : ∀ (w a : Nat) (l : List Nat), (StrLaws.partsFrom z w a l).length = l.length + 1 := fun w a l => by
          induction l generalizing a with
          | nil => rfl
          | cons b l ih => show (StrLaws.partsFrom z w _ l).length + 1 = _; rw [ih]; rfl
        rw [h3, sizeLine_eq]; lia
      refine call_meets PySem.F.slot_str_split (typeIs_str _ _ _) PySem.F.entry_str_split (PySem.F.args_str_split_2 _ _) (meets_str_split_sep z y t t' h1 hy hf hz' hn) ?_
      refine ⟨.ref s.heap.objs.size, _, I.laid (fun b o e => Heap.get?_push_of_some _ e) (Nat.le_refl _) ?_, rfl, q _ (I.hok.fresh (Nat.le_refl _))⟩
      rw [e]
      exact ⟨by rw [List.length_map]; exact hn, _, _, vals_numbered _ _, Heap.get?_push_size _ rfl⟩
    · refine call_meets PySem.F.slot_str_split (typeIs_str _ _ _) PySem.F.entry_str_split (PySem.F.args_str_split_2 _ _) (meets_str_split_not_found z y t t' h1 hy hf) ?_
      exact one (by unfold Txt.split; rw [h1, hf]; rfl)
  · refine call_meets PySem.F.slot_str_split (typeIs_str _ _ _) PySem.F.entry_str_split (PySem.F.args_str_split_2 _ _) (meets_str_split_cannot_occur z y t t' h1) ?_
    exact one (by unfold Txt.split; rw [h1]; rfl)
noncomputable def PEk (X : Cx) (e : Expr) (t : TE) : Prop := ∀ (pins : List (Addr × Obj)) (s : Shared) (σ : St) (H : Hp) (Q : VK), 1 ≤ s.toks → Inv X pins σ H s → t σ H Q → wpAny (model X.prog X.w) X.A (eval e X.env) (EP X pins σ Q) X.xe s
theorem PEk.of  (h : PE X e t) : PEk X e t := fun pins s σ H Q _ I q => h pins s σ H Q I q
noncomputable def tRepl (y z : Str) (to : TE) : TE := fun σ H Q => to σ H fun x H1 => ∃ w : Str, x = .str w ∧ w.length + (w.length + 1) * z.length ≤ 1000000 ∧ Q (.str (Txt.replace w y z)) H1
theorem pk_replace   (ho : PEk X o to) (hyz : (y == z) = false)
    (hbase : attributeBase o "replace" X.env (eval o X.env) = eval o X.env := by rfl)
    (hline : (apos.endLine == cpos.line) = true := by rfl) :
    PEk X (.Call (.Attribute o "replace" apos) [.Constant (.str y) k1 p1, .Constant (.str z) k2 p2] [] cpos) (tRepl y z to) := by
  intro pins s σ H Q hn I h
  refine wpAny_Call_method_late hbase rfl hline rfl (wpAny_mono (wpAny_toks_of hn (ho pins s σ H _ hn I h)) (fun v s1 ⟨hn1, x, H1, I1, r1, w, e1, hz, q⟩ => ?_) fun _ _ x => x.2)
  subst e1
  obtain ⟨h1, h2⟩ := tyV_is I1 r1 rfl
  refine ⟨"str", "str.replace", PySem.F.plainAttrs_str, PySem.F.slot_str_replace, PySem.F.type_str_replace, h1, h2, ?_⟩
  obtain ⟨t, rfl⟩ := r1
  refine Calls.callWith_builtin rfl (Calls.evalArgs_plain ?_)
  show wpAny _ _ (spliced [(false, _), (false, _)]) _ _ s1
  refine Calls.spliced_cons ?_
  refine Calls.Constant_str (k := k1) (pos := p1) ?_
  refine Calls.spliced_cons ?_
  refine Calls.Constant_str (k := k2) (pos := p2) ?_
  refine Calls.spliced_nil ?_
  refine SC.replace (by show s1.toks ≠ 0; lia) (by show s1.toks + 1 ≠ 0; lia) (by show s1.toks ≠ s1.toks + 1; lia) hyz (by lia) fun t' k => ?_
  exact ⟨.str _, H1, I1.tok _, ⟨_, rfl⟩, q⟩
/-- o.split(c) -/
theorem pk_split   (ho : PEk X o to)
    (hbase : attributeBase o "split" X.env (eval o X.env) = eval o X.env := by rfl)
    (hline : (apos.endLine == cpos.line) = true := by rfl) :
    PEk X (.Call (.Attribute o "split" apos) [.Constant (.str y) k1 p1] [] cpos) (fun σ H Q => to σ H fun x H1 => rSplit x [.str y] H1 Q) := by
  intro pins s σ H Q hn I h
  refine wpAny_Call_method_late hbase rfl hline rfl (thn (ho pins s σ H _ hn I h) fun v s1 zz => ?_)
  obtain ⟨x, H1, I1, r1, q⟩ := zz
  have ty : tyV X.K "str" x H1 := by obtain ⟨z, _, e, _⟩ := id q; subst e; rfl
  obtain ⟨h1, h2⟩ := tyV_is I1 r1 ty
  refine ⟨"str", "str.split", PySem.F.plainAttrs_str, PySem.F.slot_str_split, PySem.F.type_str_split, h1, h2, ?_⟩
  refine Calls.callWith_builtin rfl (Calls.evalArgs_plain ?_)
  show wpAny _ _ (spliced [(false, _)]) _ _ s1
  refine Calls.spliced_cons ?_
  refine Calls.Constant_str (k := k1) (pos := p1) ?_
  refine Calls.spliced_nil ?_
  exact mt_split pins _ σ H1 x [.str y] v [.str y s1.toks] Q (I1.tok _) r1 (.cons ⟨_, rfl⟩ .nil) q
end
section
/-- a slot written, in a call's frame -/
theorem in_write {s₀ s : Shared} {L : Addr} {m m' cm : Str → Option Value} {cs : List (Str × Addr)} {h' : Heap} (x : InCallC s₀ L m cs cm s) (q : h'.Ns L m') (sb : Heap.SameBut L s.heap h') (t : Nat) : InCallC s₀ L m' cs cm { s with heap := h', toks := t } where
  toInCall := { same := x.toInCall.same.elim fun _ e => e.elim fun _ e => ⟨h', t, by rw [e]⟩, ns := q, fresh := x.toInCall.fresh,
                keep := fun b o e => (sb.2 b fun z => absurd (Heap.lt_size e) (by rw [z]; exact Nat.not_lt.mpr x.toInCall.fresh)).trans (x.toInCall.keep b o e) }
  cell := fun k c e => by
    obtain ⟨o, q1, r⟩ := x.cell k c e
    exact ⟨o, (sb.2 c fun z => Nat.lt_irrefl c (by have := x.above k c (mem_of_lookup e); rw [← z] at this; exact this)).trans q1, r⟩
  apart := x.apart
  above := x.above
/-- its parameters are stored behind all else -/
theorem newEnv_binds {scope : Scope} {globals : Addr} {binds : List (Str × Value)} {qual : Str} {func : Option Addr} {code : Value} {builtins : Addr} :
    newFunctionEnv scope globals [] binds qual func code none builtins = (newFunctionEnv scope globals [] [] qual func code none builtins >>= fun env => (forIn binds PUnit.unit fun x _ => storeName env x.1 x.2 >>= fun _ => pure (ForInStep.yield PUnit.unit)) >>= fun _ => pure env) := by
  simp only [newFunctionEnv, bind_assoc, List.forIn_nil, pure_bind]
theorem newEnv_toks {scope : Scope} {globals : Addr} {n0 : Str} {v0 : Value} {rest : List (Str × Value)} {qual : Str} {func : Option Addr} {code : Value} {builtins : Addr} {Q : Env → Shared → Prop}
    (hk : scope.kind = .function) (h0 : scope.names.lookup n0 = some .local)
    (hr : ∀ x ∈ (n0, v0) :: rest, scope.names.lookup x.1 = some .local ∨ (scope.names.lookup x.1 = some .cell ∧ ((cellsFrom (s.heap.objs.size + 1) scope.names []).lookup x.1).isSome = true))
    (k : ∀ env, env = newEnv scope s.heap.objs.size globals (cellsFrom (s.heap.objs.size + 1) scope.names []) qual func code none builtins →
      ∀ t, InCallC s env.locals (bindL env.kindOf ((n0, v0) :: rest) fun _ => none) env.cells (bindC env.kindOf ((n0, v0) :: rest) fun _ => none) t → 1 ≤ t.toks → Q env t) :
    wpAny M A (newFunctionEnv scope globals [] ((n0, v0) :: rest) qual func code none builtins) Q E s := by
  rw [newEnv_binds]
  refine wpAny_bind (wpAny_newFunctionEnv_cells (binds := []) hk (fun x m => absurd m List.not_mem_nil) fun env e s0 x0 => ?_)
  have k := k env e
  have hk : env.scope.kind = .function := by rw [e]; exact hk
  have h0 : env.kindOf n0 = some .local := by rw [e]; exact h0
  have hr : ∀ x ∈ rest, env.kindOf x.1 = some .local ∨ (env.kindOf x.1 = some .cell ∧ (env.cells.lookup x.1).isSome = true) := fun x m => by rw [e]; exact hr x (.tail _ m)
  refine wpAny_bind ?_
  rw [List.forIn_cons]
  refine wpAny_bind (wpAny_bind (wpAny_storeName_local h0 x0.toInCall.ns (fun h' q sb => wpAny_pure ?_) (by rw [hk]; rfl)))
  have x1 := in_write x0 q sb (s0.toks + 1)
  refine wpAny_with_toks (n := 1) (Nat.succ_le_succ (Nat.zero_le _)) ?_
  refine wpAny_bindParams _ (by intros; rfl) hk rest _ _ _ _ x1 hr fun t x2 t2 => wpAny_pure (k t ?_ t2)
  unfold bindL bindC
  rw [if_pos h0, if_pos h0]
  exact x2
end
end L2
set_option maxHeartbeats 400000
namespace B
open PySem PySem.Spec PyProof.Rows L2
section
variable {K : PySem.W.Frag} {κ : Str → Addr} {ι : List Addr} {H : Hp} {σ : L2.St}
noncomputable def occB (j i : Str) : Bool := !(Builtin.Str.occurrences j i 0 j.length 1).isEmpty
noncomputable def inSP (neg : Bool) : List Ev → Mo Ev := fun es δ G => match es with
  | [.v (.im (.str i)), .v (.im (.str j))] => some (.v (.im (.bl (if neg then !(occB j i) else occB j i))), δ, G)
  | _ => none
theorem prim_inS : Prim K κ (r2 fun x y H Q => ∃ i j, x = .str i ∧ y = .str j ∧ Q (.bl (!(Builtin.Str.occurrences j i 0 j.length 1).isEmpty)) H) (inSP false) := by
  intro ι H σ δ G es vs e δ' G' Q a h k
  unfold inSP at h
  split at h
  · obtain ⟨v, u, rfl⟩ := len2 a.len
    cases rpStr (a.im (j := 0) rfl rfl)
    cases rpStr (a.im (j := 1) rfl rfl)
    exact ⟨_, _, rfl, _, _, rfl, rfl, k _ _ _ (af3 h (fin_im a (.bl _)))⟩
  · cases h
theorem prim_ninS : Prim K κ (r2 fun x y H Q => ∃ i j, x = .str i ∧ y = .str j ∧ Q (.bl (!(!(Builtin.Str.occurrences j i 0 j.length 1).isEmpty))) H) (inSP true) := by
  intro ι H σ δ G es vs e δ' G' Q a h k
  unfold inSP at h
  split at h
  · obtain ⟨v, u, rfl⟩ := len2 a.len
    cases rpStr (a.im (j := 0) rfl rfl)
    cases rpStr (a.im (j := 1) rfl rfl)
    exact ⟨_, _, rfl, _, _, rfl, rfl, k _ _ _ (af3 h (fin_im a (.bl _)))⟩
  · cases h
noncomputable def strW (z : Str) : Wk := ⟨z.cps.size, fun i _ _ => (z.cps[i]?).map fun c => .str ⟨#[c]⟩, fun _ _ => true⟩
noncomputable def strP : List Ev → De → List M → Option Wk := fun es _ _ => match es with
  | [.v (.im (.str z))] => some (strW z)
  | _ => none
theorem prim_strI : PrimI K κ (fun vs H R => ∃ v, vs = [v] ∧ ∃ z, v = .str z ∧ R (Its z) H) strP := by
  intro ι H σ δ G es vs w R a h k
  unfold strP at h
  split at h
  · rename_i z
    cases h
    obtain ⟨v, rfl⟩ := len1 a.len
    cases rpStr (a.im (j := 0) rfl rfl)
    refine ⟨_, rfl, z, rfl, k _ ⟨fun {i d ι' H' σ' δ' G'} hi hd l s => ⟨hi, fun x H2 y => ?_⟩, fun {ι' H' σ' δ' G'} hf l s => Nat.le_refl _⟩⟩
    obtain ⟨e1, c, e2, e3⟩ := y
    subst e1; subst e3
    have hd : (z.cps[i]?).map (fun c => I.str ⟨#[c]⟩) = some d := hd
    rw [e2] at hd
    cases hd
    exact ⟨fun _ _ h => h, .str _⟩
  · cases h
noncomputable def index1P : List Ev → Mo Ev := fun es δ G => match es with
  | [.v (.im (.str z)), .v (.im (.str y))] => match Builtin.Str.occurrences z y 0 z.length 1 with
    | i :: _ => some (.v (.im (.int i)), δ, G)
    | [] => none
  | _ => none
theorem prim_index : Prim K κ (rM rIdx) index1P := by
  intro ι H σ δ G es vs e δ' G' Q a h k
  unfold index1P at h
  split at h
  · rename_i z y
    split at h
    · rename_i i r hi
      obtain ⟨v, u, rfl⟩ := len2 a.len
      cases rpStr (a.im (j := 0) rfl rfl)
      cases rpStr (a.im (j := 1) rfl rfl)
      exact ⟨_, _, rfl, z, y, i, r, rfl, rfl, hi, k _ _ _ (af3 h (fin_im a (.int _)))⟩
    · cases h
  · cases h
noncomputable def str1P : List Ev → Mo Ev := fun es δ G => match es with
  | [.v (.im (.int i))] => if i.natAbs.log2 < 1920 then some (.v (.im (.str (toString i))), δ, G) else none
  | [.v (.im (.str x))] => some (.v (.im (.str x)), δ, G)
  | _ => none
theorem prim_str1 : Prim K κ (fun xs H Q => (∃ i : Int, xs = [.int i] ∧ i.natAbs.log2 < 1920 ∧ Q (.str (toString i)) H) ∨ ∃ x, xs = [.str x] ∧ Q (.str x) H) str1P := by
  intro ι H σ δ G es vs e δ' G' Q a h k
  unfold str1P at h
  split at h
  · split at h
    · rename_i hz
      obtain ⟨v, rfl⟩ := len1 a.len
      cases rpInt (a.im (j := 0) rfl rfl)
      exact .inl ⟨_, rfl, hz, k _ _ _ (af3 h (fin_im a (.str _)))⟩
    · cases h
  · obtain ⟨v, rfl⟩ := len1 a.len
    cases rpStr (a.im (j := 0) rfl rfl)
    exact .inr ⟨_, rfl, k _ _ _ (af3 h (fin_im a (.str _)))⟩
  · cases h
noncomputable def tyR : Ev → Option String
  | .v (.im .non) => some "NoneType"
  | .v (.im (.bl _)) => some "bool"
  | .v (.im (.int _)) => some "int"
  | .v (.im (.str _)) => some "str"
  | .v (.im (.tup _)) => some "tuple"
  | _ => none
noncomputable def tyIn : String → String → Option Bool
  | "int", "int" => some true
  | "int", "bool" => some false
  | "int", "tuple" => some false
  | "int", "str" => some false
  | "tuple", "tuple" => some true
  | "tuple", "str" => some false
  | "tuple", "int" => some false
  | "str", "str" => some true
  | "str", "tuple" => some false
  | "str", "int" => some false
  | "NoneType", "str" => some false
  | "NoneType", "tuple" => some false
  | "NoneType", "int" => some false
  | _, _ => none
theorem tyIn_of {t n : String} {b : Bool} (h : tyIn t n = some b) : PySem.W.kitOne K (.type t) (.type n) = some b := by
  unfold tyIn at h
  split at h <;> cases h <;> first | (unfold PySem.W.kitOne; rw [if_pos (by simp)]; done) | with_unfolding_all rfl
noncomputable def isinst3P : List Ev → Mo Ev := fun es δ G => match es with
  | [a, .v (.im (.ty n))] => match tyR a with
    | some t => match tyIn t n with
      | some b => some (.v (.im (.bl b)), δ, G)
      | none => none
    | none => none
  | _ => none
theorem prim_isinst3 : Prim K κ (fun xs H Q => ∃ x t n b, xs = [x, .ty n] ∧ TyOf K H x t ∧ PySem.W.kitOne K t (.type n) = some b ∧ Q (.bl b) H) isinst3P := by
  intro ι H σ δ G es vs e δ' G' Q a h k
  unfold isinst3P at h
  split at h
  · rename_i x n
    split at h
    · rename_i t ht
      split at h
      · rename_i b hb
        obtain ⟨v, u, rfl⟩ := len2 a.len
        cases rpTy (a.im (j := 1) rfl rfl)
        have ty : TyOf K H v (.type t) := by
          unfold tyR at ht
          split at ht
          · cases ht; cases rpNon (a.im (j := 0) rfl rfl); exact .non
          · cases ht; cases rpBl (a.im (j := 0) rfl rfl); exact .bl _
          · cases ht; cases rpInt (a.im (j := 0) rfl rfl); exact .int _
          · cases ht; cases rpStr (a.im (j := 0) rfl rfl); exact .str _
          · cases ht
            obtain ⟨_, _, rfl, e, _⟩ := rpTup (a.im (j := 0) rfl rfl)
            exact .tup e
          · cases ht
        exact ⟨_, _, n, b, rfl, ty, tyIn_of hb, k _ _ _ (af3 h (fin_im a (.bl _)))⟩
      · cases h
    · cases h
  · cases h
noncomputable def tpN : I → Bool
  | .non => true
  | .tup _ => true
  | .con _ => true
  | _ => false
noncomputable def isNo : I → Bool
  | .non => true
  | _ => false
theorem tpN_of : ∀ {xs : List I} {vs : List V}, RpIs K ι H vs xs → xs.all tpN = true → (∀ z ∈ vs, TupN K H z) ∧ vs.any isN = xs.any isNo
  | [], _, r, _ => by cases r; exact ⟨fun _ h => (by cases h), rfl⟩
  | x :: xs, _, r, h => by
    cases r with
    | cons r1 r2 =>
      rw [List.all_cons, Bool.and_eq_true] at h
      obtain ⟨p, q⟩ := tpN_of r2 h.2
      have h1 := h.1
      rw [List.any_cons, List.any_cons, q]
      cases r1 with
      | non => exact ⟨fun z hz => (List.mem_cons.mp hz).elim (fun e => .inl e) (p z), rfl⟩
      | tup e rr => exact ⟨fun z hz => (List.mem_cons.mp hz).elim (fun e' => .inr ⟨_, _, e', SqT.of e⟩) (p z), rfl⟩
      | con e rr => exact ⟨fun z hz => (List.mem_cons.mp hz).elim (fun e' => .inr ⟨_, _, e', SqT.kon e⟩) (p z), rfl⟩
      | _ => cases h1
noncomputable def inNP : List Ev → Mo Ev := fun es δ G => match es with
  | [.v (.im .non), b] => match pk δ G b with
    | some (.lst xs) => if xs.all tpN then some (.v (.im (.bl (xs.any isNo))), δ, G) else none
    | _ => none
  | _ => none
theorem prim_inN : Prim K κ (r2 fun x y H Q => x = .non ∧ ∃ p xs, y = .ref p ∧ SqL K H p xs ∧ (∀ z ∈ xs, TupN K H z) ∧ Q (.bl (xs.any isN)) H) inNP := by
  intro ι H σ δ G es vs e δ' G' Q a h k
  unfold inNP at h
  split at h
  · rename_i b
    split at h
    · rename_i xs hx
      split at h
      · rename_i ha
        obtain ⟨v, u, rfl⟩ := len2 a.len
        cases rpNon (a.im (j := 0) rfl rfl)
        obtain ⟨p, e1, ys, h1, r⟩ := a.pk (j := 1) rfl rfl hx
        subst e1
        obtain ⟨q1, q2⟩ := tpN_of r ha
        exact ⟨_, _, rfl, rfl, p, ys, rfl, SqL.of h1, q1, by rw [q2]; exact k _ _ _ (af3 h (fin_im a (.bl _)))⟩
      · cases h
    · cases h
  · cases h
noncomputable def joinrP : List Ev → Mo Ev := fun es δ G => match es with
  | [.v (.im (.str z)), a] => match pk δ G a with
    | some (.lst xs) => match strsI xs with
      | some ys => if (ys.map (·.length)).sum + ys.length * z.length ≤ 1000000 then some (.v (.im (.str (PySem.Txt.join z ys.reverse))), δ, G) else none
      | none => none
    | _ => none
  | _ => none
noncomputable def rJoinR (K : PySem.W.Frag) : V → List V → Hp → VK → Prop := fun x vs H Q => ∃ (z : Str) (p : Addr) (ys : List Str), x = .str z ∧ vs = [.ref p] ∧ SqL K H p (ys.map V.str) ∧ (ys.map (·.length)).sum + ys.length * z.length ≤ 16777216 ∧ Q (.str (Txt.join z ys.reverse)) H
theorem prim_joinr : Prim K κ (rM (rJoinR K)) joinrP := by
  intro ι H σ δ G es vs e δ' G' Q a h k
  unfold joinrP at h
  split at h
  · rename_i z x
    split at h
    · rename_i xs hx
      split at h
      · rename_i ys hn
        split at h
        · rename_i hz
          obtain ⟨v, u, rfl⟩ := len2 a.len
          cases rpStr (a.im (j := 0) rfl rfl)
          obtain ⟨p, e1, us, h1, r⟩ := a.pk (j := 1) rfl rfl hx
          subst e1
          exact ⟨_, _, rfl, z, p, ys, rfl, rfl, by rw [← strsI_of r hn]; exact SqL.of h1, Nat.le_trans hz (by decide), k _ _ _ (af3 h (fin_im a (.str _)))⟩
        · cases h
      · cases h
    · cases h
  · cases h
theorem up_joinr {fo fe : Mo Ev} {Q : VK} (h : UpE K κ (bsF joinrP fo (one fe)) σ H Q) : tJoinR K (UpE K κ fo) (UpE K κ fe) σ H Q := by
  obtain ⟨ι, δ, G, e, δ', G', s, eq, k⟩ := up_bs prim_joinr h
  refine ⟨ι, δ, G, e, δ', G', s, eq, fun v ι1 H1 a => ?_⟩
  obtain ⟨ty, ι2, δ2, G2, es, δ3, G3, s2, eq2, k2⟩ := k v ι1 H1 a
  cases v with
  | str z =>
    refine ⟨z, rfl, up_one ⟨ι2, δ2, G2, es, δ3, G3, s2, eq2, fun vs ι3 H3 a3 => ?_⟩⟩
    obtain ⟨z', p, ys, e1, e2, h1, h2, q⟩ := k2 vs ι3 H3 a3
    cases e1
    exact ⟨_, e2, p, ys, rfl, h1, h2, q⟩
  | int _ => exact absurd (show ("str" : String) = "int" from ty) (by decide)
  | ref p => rcases ty with ⟨e, _⟩ | ⟨e, _⟩ | ⟨e, _⟩ | ⟨e, _⟩ <;> exact absurd e (by decide)
  | _ => exact False.elim ty
noncomputable def fmtP : List Ev → Mo Ev := fun es δ G => match es with
  | [.v (.im (.str y))] => if y.length ≤ 1000000 then some (.v (.im (.str y)), δ, G) else none
  | _ => none
theorem prim_fmt : Prim K κ (r1 fun x H1 Q => ∃ y : Str, x = .str y ∧ y.length ≤ sizeLine ∧ Q (.str y) H1) fmtP := by
  intro ι H σ δ G es vs e δ' G' Q a h k
  unfold fmtP at h
  split at h
  · rename_i y
    split at h
    · rename_i hy
      obtain ⟨v, rfl⟩ := len1 a.len
      cases rpStr (a.im (j := 0) rfl rfl)
      exact ⟨_, rfl, y, rfl, Nat.le_trans hy (by decide), k _ _ _ (af3 h (fin_im a (.str _)))⟩
    · cases h
  · cases h
noncomputable def jsF : List (Mo Ev) → Str → Mo Ev
  | [], acc => fun δ G => if acc.length ≤ 1000000 then some (.v (.im (.str acc)), δ, G) else none
  | f :: fs, acc => bd f fun e => match e with
    | .v (.im (.str y)) => fun δ G => if (acc ++ y).length ≤ 1000000 then jsF fs (acc ++ y) δ G else none
    | _ => fun _ _ => none
theorem up_js : ∀ {fs : List (Mo Ev)} {acc : Str} {H : Hp} {Q : VK}, UpE K κ (jsF fs acc) σ H Q → tJs (fs.map (UpE K κ)) acc σ H Q
  | [], acc, H, Q, h => by
    obtain ⟨ι, δ, G, e, δ', G', s, eq, k⟩ := h
    unfold jsF at eq
    split at eq
    · rename_i hz
      cases eq
      have a := fin_im (After.nil s).ar (RpI.str acc)
      exact ⟨Nat.le_trans hz (by decide), k _ _ _ ⟨a.ar, (After.nil s).st.trans a.st⟩⟩
    · cases eq
  | f :: fs, acc, H, Q, h => by
    obtain ⟨ι, δ, G, e, δ', G', s, eq, k⟩ := h
    unfold jsF at eq
    obtain ⟨x, δ1, G1, e1, eq1⟩ := bd_inv eq
    refine ⟨ι, δ, G, x, δ1, G1, s, e1, fun v ι1 H1 a => ?_⟩
    split at eq1
    · rename_i y
      split at eq1
      · rename_i hz
        cases rpStr (a.ar.im (j := 0) rfl rfl)
        obtain ⟨p, q⟩ := a.drop
        exact ⟨y, rfl, Nat.le_trans hz (by decide), up_js (UpE.go p q eq1 k)⟩
      · cases eq1
    · cases eq1
noncomputable def ziT (xs ys : List I) : Wk := ⟨min xs.length ys.length, fun i _ _ => match xs[i]?, ys[i]? with | some x, some y => some (.tup [x, y]) | _, _ => none, fun _ _ => true⟩
noncomputable def zipTP : List Ev → De → List M → Option Wk := fun es _ _ => match es with
  | [.v (.im (.tup xs)), .v (.im (.tup ys))] => some (ziT xs ys)
  | _ => none
theorem prim_zipT : PrimI K κ (fun vs H R => ∃ l1 l2 xs ys, vs = [.ref l1, .ref l2] ∧ SqT K H l1 xs ∧ SqT K H l2 ys ∧ R (ItzT K l1 l2) H) zipTP := by
  intro ι H σ δ G es vs w R a h k
  unfold zipTP at h
  split at h
  · rename_i xs ys
    cases h
    obtain ⟨v, u, rfl⟩ := len2 a.len
    have r1 := a.im (j := 0) rfl rfl
    have r2 := a.im (j := 1) rfl rfl
    cases r1 with
    | @tup b1 vs _ h1 rr1 =>
      cases r2 with
      | @tup b2 ws _ h2 rr2 =>
        refine ⟨b1, b2, vs, ws, rfl, SqT.of h1, SqT.of h2, k _ ⟨fun {i d ι' H' σ' δ' G'} hi hd l s => ?_, fun {ι' H' σ' δ' G'} hf l s => ?_⟩⟩
        · have t1 := (args_two rfl rfl l s).im (j := 0) rfl rfl
          have t2 := (args_two rfl rfl l s).im (j := 1) rfl rfl
          have hd : (match xs[i]?, ys[i]? with | some x, some y => some (I.tup [x, y]) | _, _ => none) = some d := hd
          split at hd
          · rename_i x y ex ey
            cases hd
            cases t1 with
            | @tup _ us1 _ g1 q1 =>
              cases t2 with
              | @tup _ us2 _ g2 q2 =>
                obtain ⟨v1, ev1, rv1⟩ := q1.get ex
                obtain ⟨v2, ev2, rv2⟩ := q2.get ey
                refine ⟨⟨us1, us2, v1, v2, SqT.of g1, SqT.of g2, ev1, ev2⟩, fun z H2 yl => ?_⟩
                obtain ⟨T, e1, hT, kk⟩ := yl
                subst e1
                have e2 := kk us1 us2 v1 v2 (SqT.of g1) (SqT.of g2) ev1 ev2
                subst e2
                have sm : Same H' (upd H' T (.tup [v1, v2])) := fun b o hb => by rw [upd_ne (ne_of_none hb hT)]; exact hb
                exact ⟨sm, .tup upd_same (.cons (rv1.mono (Pre.refl _) (Kp.same sm)) (.cons (rv2.mono (Pre.refl _) (Kp.same sm)) .nil))⟩
          · cases hd
        · have t1 := (args_two rfl rfl l s).im (j := 0) rfl rfl
          have t2 := (args_two (y := .im (.tup ys)) rfl rfl l s).im (j := 1) rfl rfl
          cases t1 with
          | @tup _ us1 _ g1 q1 =>
            cases t2 with
            | @tup _ us2 _ g2 q2 => exact ⟨us1, us2, SqT.of g1, SqT.of g2, by rw [q1.len, q2.len]; rfl⟩
  · cases h
noncomputable def replP (y z : Str) : List Ev → Mo Ev := fun es δ G => match es with
  | [.v (.im (.str w))] => if w.length + (w.length + 1) * z.length ≤ 1000000 then some (.v (.im (.str (Txt.replace w y z))), δ, G) else none
  | _ => none
theorem prim_repl {y z : Str} : Prim K κ (r1 fun x H1 Q => ∃ w : Str, x = .str w ∧ w.length + (w.length + 1) * z.length ≤ 1000000 ∧ Q (.str (Txt.replace w y z)) H1) (replP y z) := by
  intro ι H σ δ G es vs e δ' G' Q a h k
  unfold replP at h
  split at h
  · rename_i w
    split at h
    · rename_i hz
      obtain ⟨v, rfl⟩ := len1 a.len
      cases rpStr (a.im (j := 0) rfl rfl)
      exact ⟨_, rfl, w, rfl, hz, k _ _ _ (af3 h (fin_im a (.str _)))⟩
    · cases h
  · cases h
theorem rp_strs : ∀ (ys : List Str), RpIs K ι H (ys.map V.str) (ys.map I.str)
  | [] => .nil
  | y :: ys => .cons (.str y) (rp_strs ys)
noncomputable def splP (y : Str) : List Ev → Mo Ev := fun es δ G => match es with
  | [.v (.im (.str w))] => if (y.length == 0) = false ∧ w.length ≤ 1000000 then some (.v (.ow (.lst ((Txt.split w y).map I.str))), δ, G) else none
  | _ => none
theorem prim_spl {y : Str} : Prim K κ (r1 fun x H1 Q => rSplit x [.str y] H1 Q) (splP y) := by
  intro ι H σ δ G es vs e δ' G' Q a h k
  unfold splP at h
  split at h
  · rename_i w
    split at h
    · rename_i hz
      obtain ⟨v, rfl⟩ := len1 a.len
      cases rpStr (a.im (j := 0) rfl rfl)
      exact ⟨_, rfl, w, y, rfl, rfl, hz.1, hz.2, fun l hl => k _ _ _ (af3 h (fin_lst a hl (rp_strs _)))⟩
    · cases h
  · cases h
/-- never met -/
noncomputable def nevF : SF := fun _ _ => none
end
section
variable {X : Cx} {κ : Str → Addr} {a b e o : Expr} {es : List Expr} {fa fb : Mo Ev} {fs : Mo (List Ev)} {fl : List (Mo Ev)} {p pos apos cpos : Pos} {k : Nat} {st : Stmt}
theorem s_never : LS X κ st nevF := .mk fun pins s σ H D I h => by obtain ⟨_, _, _, _, _, eq, _⟩ := h; cases eq
theorem e_globS (hg : Gl X x) (hm : ∃ t, X.mg x = some (.str y t)) (hd : (x == ("__debug__" : Str)) = false := by decide) : LE X κ (.Name x pos) (conF (.str y)) := by
  obtain ⟨t, hm⟩ := hm
  exact e_glob (v := .str y) hg hm ⟨t, rfl⟩ (fun _ _ => .str _) hd
theorem e_globT {x : Str} {ys : List Str} (hg : Gl X x) (hm : ∃ a, X.mg x = some (.ref a) ∧ SqT X.K (fun _ => none) a (ys.map V.str)) (hd : (x == ("__debug__" : Str)) = false := by decide) : LE X κ (.Name x pos) (conF (.con (ys.map I.str))) := by
  obtain ⟨a, hm, hs⟩ := hm
  exact e_glob (v := .ref a) hg hm rfl (fun _ _ => .con hs (rp_strs _)) hd
theorem e_inS (hr : Room k X.A) (ha : LE X κ a fa) (hb : LE X κ b fb) (hm : behindInMarks .In b = false := by rfl) : LE X κ (.Compare a [.In] [b] pos) (opF (inSP false) fa fb) := e_cmpR op_in_str prim_inS ha hb hm
theorem t_ninS (hr : Room k X.A) (ha : LE X κ a fa) (hb : LE X κ b fb) (hm : behindInMarks .NotIn b = false := by rfl) : LT X κ (.Compare a [.NotIn] [b] pos) (tstF (opF (inSP true) fa fb)) := t_cmpR op_notin_str prim_ninS ha hb hm
theorem t_inN (hr : Room k X.A) (ha : LE X κ a fa) (hb : LE X κ b fb) (hm : behindInMarks .In b = false := by rfl) : LT X κ (.Compare a [.In] [b] pos) (tstF (opF inNP fa fb)) := t_cmpR (op_inN (by have := hu50 hr; show X.A.units + 1 < cLine; lia)) prim_inN ha hb hm
theorem i_str (h : LE X κ a fa) : LI X κ tg a (itF (one fa) strP) := .mk (pi_imp (pi_str h.pe) fun _ _ _ q => up_one (up_it prim_strI q))
theorem i_zipT  (hm : X.mg "zip" = none) (ha : LA X κ [a, b] fs) (hg : Gl X "zip" := by rfl) (hs : starEach [a, b] X.env = [(false, eval a X.env), (false, eval b X.env)] := by rfl) (hs2 : starEach [b] X.env = [(false, eval b X.env)] := by rfl) : LI X κ (.Tuple elts k0 p0) (.Call (.Name "zip" p) [a, b] [] pos) (itF fs zipTP) := .mk (pi_imp (pi_zipT hg hm ha.pe hs hs2) fun _ _ _ q => up_it prim_zipT q)
theorem e_index1 (hr : Room k X.A) (ho : LE X κ o fa) (ha : LA X κ (e :: es) fs) (hbase : attributeBase o "index" X.env (eval o X.env) = eval o X.env := by rfl)
    (hfew : ((backTo cpos (starEach (e :: es) X.env)).all (fun x => !x.1) && (backToKw cpos (keywordEach [] X.env)).all (fun x => x.1.isSome) && decide ((e :: es).length + ([] : List Keyword).length + (if ([] : List Keyword).isEmpty then 0 else 1) < 30)) = true := by rfl)
    (hline : (apos.endLine == cpos.line) = true := by rfl) (hs : starEach (e :: es) X.env = (false, eval e X.env) :: starEach es X.env := by rfl) (hplain : (backTo cpos (starEach es X.env)).any (·.1) = false := by rfl) : LE X κ (.Call (.Attribute o "index" apos) (e :: es) [] cpos) (bsF index1P fa fs) := .mk (pe_imp (pe_bm PySem.F.plainAttrs_str PySem.F.slot_str_index PySem.F.type_str_index mt_index ho.pe ha.pe hbase hfew hline hs hplain) fun _ _ _ => up_bs prim_index)
theorem e_str1 (hr : Room k X.A) (hm : X.mg "str" = none) (ha : LA X κ (e :: es) fs) (hg : Gl X "str" := by rfl) (he : starEach (e :: es) X.env = (false, eval e X.env) :: starEach es X.env := by rfl) (hpl : (backTo pos (starEach es X.env)).any (·.1) = false := by rfl) : LE X κ (.Call (.Name "str" p) (e :: es) [] pos) (bd fs str1P) := .mk (pe_imp (pe_callTy call_str1 hg hm PyProof.Rows.boot_str ha.pe (by decide) (by decide) he hpl) fun _ _ _ q => up_args prim_str1 q)
theorem e_isinst3 (hr : Room k X.A) (hm : X.mg "isinstance" = none) (ha : LA X κ (e :: es) fs) (hg : Gl X "isinstance" := by rfl) (he : starEach (e :: es) X.env = (false, eval e X.env) :: starEach es X.env := by rfl) (hpl : (backTo pos (starEach es X.env)).any (·.1) = false := by rfl) : LE X κ (.Call (.Name "isinstance" p) (e :: es) [] pos) (bd fs isinst3P) := .mk (pe_imp (pe_callB call_isinst hg hm PyProof.Rows.boot_isinstance ha.pe (by decide) (by decide) he hpl) fun _ _ _ q => up_args prim_isinst3 q)
theorem e_joinr (hv : X.mg "reversed" = none) (ho : LE X κ o fa) (he : LE X κ e fb) (hc : X.calm = true := by rfl) (gr : Gl X "reversed" := by rfl) (hbase : attributeBase o "join" X.env (eval o X.env) = eval o X.env := by rfl)
    (hfew : ((backTo cpos (starEach [.Call (.Name "reversed" p2) [e] [] q2] X.env)).all (fun x => !x.1) && (backToKw cpos (keywordEach [] X.env)).all (fun x => x.1.isSome)
      && decide ([Expr.Call (.Name "reversed" p2) [e] [] q2].length + ([] : List Keyword).length + (if ([] : List Keyword).isEmpty then 0 else 1) < 30)) = true := by rfl)
    (hline : (apos.endLine == cpos.line) = true := by rfl) (hs1 : starEach [e] X.env = [(false, eval e X.env)] := by rfl)
    (hs2 : starEach [.Call (.Name "reversed" p2) [e] [] q2] X.env = [(false, eval (.Call (.Name "reversed" p2) [e] [] q2) X.env)] := by rfl) :
    LE X κ (.Call (.Attribute o "join" apos) [.Call (.Name "reversed" p2) [e] [] q2] [] cpos) (bsF joinrP fa (one fb)) := .mk (pe_imp (pe_joinrev hc gr hv ho.pe he.pe hbase hfew hline hs1 hs2) fun _ _ _ => up_joinr)
theorem e_fmt (h : LE X κ a fa) : LE X κ (.FormattedValue a (-1) none pos) (unF fmtP fa) := .mk (pe_imp (pe_fmt h.pe) fun _ _ _ q => up_un prim_fmt q)
@[irreducible] noncomputable def LJ (X : Cx) (κ : Str → Addr) (es : List Expr) (fl : List (Mo Ev)) : Prop := PJs X es (fl.map (UpE X.K κ))
theorem j_nil : LJ X κ [] [] := by unfold LJ; exact .nil
theorem j_cons (h : LE X κ a fa) (r : LJ X κ es fl) : LJ X κ (a :: es) (fa :: fl) := by unfold LJ at r ⊢; exact .cons h.pe r
theorem e_joined (h : LJ X κ (a :: b :: es) fl) : LE X κ (.JoinedStr (a :: b :: es) pos) (jsF fl Str.empty) := .mk (by unfold LJ at h; exact pe_imp (pe_joined h) fun _ _ _ => up_js)
@[irreducible] noncomputable def LK (X : Cx) (κ : Str → Addr) (e : Expr) (f : Mo Ev) : Prop := PEk X e (UpE X.K κ f)
theorem LK.mk (h : PEk X a (UpE X.K κ fa)) : LK X κ a fa := by unfold LK; exact h
theorem LK.pe (h : LK X κ a fa) : PEk X a (UpE X.K κ fa) := by unfold LK at h; exact h
theorem k_of (h : LE X κ a fa) : LK X κ a fa := .mk (PEk.of h.pe)
theorem k_replace  (ho : LK X κ o fa) (hyz : (y == z) = false := by decide +kernel) (hbase : attributeBase o "replace" X.env (eval o X.env) = eval o X.env := by rfl) (hline : (apos.endLine == cpos.line) = true := by rfl) :
    LK X κ (.Call (.Attribute o "replace" apos) [.Constant (.str y) k1 p1, .Constant (.str z) k2 p2] [] cpos) (unF (replP y z) fa) := .mk fun pins s σ H Q hn I q => pk_replace ho.pe hyz hbase hline pins s σ H Q hn I (up_un prim_repl q)
theorem k_split  (ho : LK X κ o fa) (hbase : attributeBase o "split" X.env (eval o X.env) = eval o X.env := by rfl) (hline : (apos.endLine == cpos.line) = true := by rfl) :
    LK X κ (.Call (.Attribute o "split" apos) [.Constant (.str y) k1 p1] [] cpos) (unF (splP y) fa) := .mk fun pins s σ H Q hn I q => pk_split ho.pe hbase hline pins s σ H Q hn I (up_un prim_spl q)
@[irreducible] noncomputable def LKs (X : Cx) (κ : Str → Addr) (ss : List Stmt) (f : SF) : Prop := ∀ (pins : List (Addr × Obj)) (s : Shared) (σ : L2.St) (H : Hp) (D : Ends), 1 ≤ s.toks → Inv X pins σ H s → UpS X.K κ f D σ H → wpAny (model X.prog X.w) X.A (execs ss X.env) (SP X pins D) X.xe s
theorem k_ret (h : LK X κ a fa) : LKs X κ [.Return (some a) pos] (retF fa) := by
  unfold LKs
  intro pins s σ H D hn I q
  refine wpAny_execs_cons (wpAny_Return_some (thn (h.pe pins s σ H _ hn I (up_ret q)) fun v s1 zz => ?_))
  obtain ⟨x, H1, I1, r1, q1⟩ := zz
  exact ⟨x, σ, H1, I1, r1, q1⟩
end
section
variable {P : Program} {w : World} {K : PySem.W.Frag} {mg : Str → Option Value} {base : Heap} {κ : Str → Addr}
/-- a def whose tokens matter -/
theorem liftK {x qual : Str} {st : Stmt} {f : Addr} {fd : FuncData} {N ps0 : List Str} {p0 : Str} {k n r : Nat} {body : SF} (F : Fun K x qual st f fd) (S : FnScope N (p0 :: ps0) (defScope st)) (h0 : (defScope st).names.lookup p0 = some .local) (hn : (p0 :: ps0).length = n) (hN : N.length = n + r)
    (hb : ∀ (cdv : Value) (A : Around) (outer : List Env) (s : Shared) (H : Hp) (E : XK), Room k (A.deeper (envOfC qual (defScope st) s.heap.objs.size f cdv)) → LKs (cxOf CX0 P w K mg base N qual (defScope st) f cdv A outer s H E).nox κ (defBody st) body) :
    FnOk P w K mg base CX0 (k + 1) f fd (p0 :: ps0) (UpF K κ n (runF n r body)) := by
  obtain ⟨oc, od, kV, doc, pm, an, cdv, ct, osl, rfl, lk, hcd⟩ := F.ex
  refine ⟨fun vs H Q E h => by rw [(up_run h).1, hn], fun A outer s H args us vs Q E hr e0 hbd rv hsp => ?_⟩
  obtain ⟨hl, q⟩ := up_run hsp
  have hl' : vs.length = (p0 :: ps0).length := by rw [hl, hn]
  have KX : K.In s.heap := e0.mod.kin.keeps fun b o e => (e0.bs b o e).1
  have lim : s.heap.NoLimit := e0.mod.nolimit.keeps fun b o e => (e0.bs b o e).1
  have hlu : us.length = (p0 :: ps0).length := by rw [← rv.length]; exact hl'
  obtain ⟨u0, us0, rfl⟩ : ∃ u0 us0, us = u0 :: us0 := by cases us with
    | nil => cases hlu
    | cons u0 us0 => exact ⟨_, _, rfl⟩
  have hkind : ∀ y ∈ (p0 :: ps0).zip (u0 :: us0), (defScope st).names.lookup y.1 = some .local ∨ ((defScope st).names.lookup y.1 = some .cell ∧ ((cellsFrom (s.heap.objs.size + 1) (defScope st).names []).lookup y.1).isSome = true) := fun zz hy => by
    obtain ⟨n, v⟩ := zz
    rcases S.par n (List.of_mem_zip hy).1 with q | q
    · exact .inl q
    · exact .inr ⟨q, PySem.W.cellsFrom_some _ _ _ (.inl q)⟩
  refine codeAny_call_function hr.depth (KX _ _ lk) rfl S.co S.gen rfl (PySem.W.codeRec_of KX hcd) (hbd _ _ _ _ ?_)
  refine newEnv_toks S.kind h0 hkind fun env he s1 xx tk => ?_
  subst he
  refine ⟨lim.keeps xx.toInCall.keep, codeAny_func ?_⟩
  have I : Inv (cxOf CX0 P w K mg base N qual (defScope st) f cdv A outer s H E) [] (L2.start N vs) H s1 := inv_start S hr.hd e0 hl' rv xx
  have hq : UpS K κ body { nx := fun _ H' => Q .non H', rt := Q } (L2.start N vs) H := by
    unfold L2.start
    have e : N.length - vs.length = r := by lia
    rw [e]; exact q
  have hb' := hb cdv A outer s H E (hr.deeper _)
  unfold LKs at hb'
  refine wpAny_mono (hb' [] s1 (L2.start N vs) H _ tk (I.wish _) hq) (fun fl s' hs => ?_) fun e s' hs => False.elim hs
  have hs := hs.unwish
  have fin : ∀ {σ' : L2.St} {H' : Hp} {v : V} {u : Value}, Inv (cxOf CX0 P w K mg base N qual (defScope st) f cdv A outer s H E) [] σ' H' s' → RelV v u → Q v H' → CE outer P w H s Q u s' :=
    fun {σ' H' v u} J rv q => ⟨v, H', J.os, J.bare, J.base, J.hok, rv, q⟩
  cases fl with
  | ret u =>
    obtain ⟨v, σ', H', J, rv, q⟩ := hs
    exact fin J rv q
  | next =>
    obtain ⟨σ', H', J, q⟩ := hs
    exact fin (v := V.non) J rfl q
  | brk =>
    obtain ⟨_, _, _, q⟩ := hs
    exact False.elim q
  | cont =>
    obtain ⟨_, _, _, q⟩ := hs
    exact False.elim q
end
end B
namespace Q
open PySem L2 B
noncomputable section
noncomputable def F__law_deal_w1b : SF :=
  (asgF (opF modP (opF addP (opF mulP (varF 3) (conF (.int 48271))) (opF modP (varF 4) (conF (.int 2147483629)))) (conF (.int 2147483647))) (gNm 3))
noncomputable def F__law_deal : FF := runF 2 3
  (seqF (asgF (compF (itF (one (sliF (varF 0) (somePt (varF 1)) (somePt (conF (.int 63))))) seqP) [] c1 yesF (bd (consF (varF 0) (consF (opF subP (conF (.int 0)) (varF 0)) nilF)) max2P)) (gNm 2))
  (seqF (asgF (opF addP (conF (.int 7919)) (varF 1)) (gNm 3))
  (seqF (forF (itF (one (boxF (varF 2))) seqP) (gNm 4)
  F__law_deal_w1b)
  (retF (dicF (pcons (conF (.str "seed")) (varF 3) (pcons (conF (.str "number")) (conF (.int 0)) (pcons (conF (.str "left")) (boxF (unF lrevP (compF (itF (one (boxF (varF 2))) seqP) [] c1 (tstF (opF geP (varF 0) (opF powP (conF (.int 10)) (conF (.int 18))))) (varF 0)))) pnil))))))))
noncomputable def F__law_draw_w1c : Mo Bool := (andF (tstF (opF eqP (opF ixP (varF 0) (conF (.str "number"))) (conF (.int 0)))) (tstF (opF gtP (bd (consF (opF ixP (varF 0) (conF (.str "left"))) nilF) lenP) (conF (.int 0)))))
noncomputable def F__law_draw_w1b : SF :=
  (putF' (varF 0) (conF (.str "number")) (unF pop0P (opF ixP (varF 0) (conF (.str "left")))))
noncomputable def F__law_draw : FF := runF 2 3
  (seqF (whF F__law_draw_w1c
  F__law_draw_w1b)
  (seqF (asgF (opF ixP (varF 0) (conF (.str "number"))) (gNm 2))
  (seqF (iteF' (tstF (opF gtP (varF 2) (conF (.int 0))))
  (seqF (putF' (varF 0) (conF (.str "number")) (opF fdivP (varF 2) (varF 1)))
  (retF (opF modP (varF 2) (varF 1))))
  skipF)
  (seqF (asgF (opF modP (opF addP (opF mulP (opF ixP (varF 0) (conF (.str "seed"))) (conF (.int 48271))) (conF (.int 7919))) (conF (.int 2147483647))) (gNm 3))
  (seqF (putF' (varF 0) (conF (.str "seed")) (opF modP (opF addP (opF mulP (varF 3) (conF (.int 40692))) (conF (.int 104729))) (conF (.int 2147483399))))
  (seqF (asgF (opF modP (opF mulP (opF ixP (varF 0) (conF (.str "seed"))) (opF ixP (varF 0) (conF (.str "seed")))) (conF (.int 2147483563))) (gNm 4))
  (retF (opF modP (opF addP (opF mulP (opF modP (opF mulP (varF 3) (varF 3)) (conF (.int 2147483629))) (conF (.int 2147483563))) (varF 4)) (varF 1)))))))))
noncomputable def F__law_names_w1b : SF :=
  (seqF (asgF (opF addP (opF ixP (varF 2) (opF modP (opF addP (varF 5) (opF mulP (conF (.int 7)) (varF 7))) (conF (.int 26)))) (sliF (varF 3) (somePt (varF 4)) noPt)) (gNm 8))
  (dropF (bmF append1P (varF 6) (consF (opF addP (opF addP (sliF (varF 3) noPt (somePt (varF 4))) (varF 8)) (opF ixP (bd (consF (conF (.str "")) (consF (conF (.str "z")) nilF)) lstP) (opF fdivP (opF modP (varF 7) (conF (.int 5))) (conF (.int 4))))) nilF))))
noncomputable def F__law_names : FF := runF 2 10
  (seqF (asgF (conF (.str "abcdefghijklmnopqrstuvwxyz")) (gNm 2))
  (seqF (asgF (bsF join1P (conF (.str "")) (consF (compF (itF (consF (bd (consF (varF 0) (consF (conF (.int 5)) nilF)) (callP 2 F__law_draw)) nilF) rng1P) [2, 0] c1 yesF (opF ixP (varF 1) (bd (consF (varF 2) (consF (conF (.int 26)) nilF)) (callP 2 F__law_draw)))) nilF)) (gNm 3))
  (seqF (asgF (bd (consF (varF 0) (consF (opF addP (bd (consF (varF 3) nilF) lenP) (conF (.int 1))) nilF)) (callP 2 F__law_draw)) (gNm 4))
  (seqF (asgF (bd (consF (varF 0) (consF (conF (.int 26)) nilF)) (callP 2 F__law_draw)) (gNm 5))
  (seqF (asgF (bd nilF lstP) (gNm 6))
  (seqF (forF (itF (consF (varF 1) nilF) rng1P) (gNm 7)
  F__law_names_w1b)
  (seqF (asgF (bd (consF (conF (.str "cells")) (consF (conF (.str "de")) (consF (conF (.str "mains")) (consF (conF (.str "setx")) (consF (conF (.str "ends")) (consF (conF (.str "atx")) (consF (conF (.str "i")) (consF (conF (.str "calls")) nilF)))))))) lstP) (gNm 9))
  (seqF (asgF (bd (consF (conF (.str "cell")) (consF (conF (.str "row")) (consF (conF (.str "def")) (consF (conF (.str "main")) (consF (conF (.str "set")) (consF (conF (.str "put")) (consF (conF (.str "while")) (consF (conF (.str "if")) (consF (conF (.str "else")) (consF (conF (.str "call")) (consF (conF (.str "end")) (consF (conF (.str "at")) nilF)))))))))))) tupP) (gNm 10))
  (seqF (asgF (compF (itF (one (boxF (varF 6))) seqP) [10] c1 yesF (opF addP (varF 0) (opF mulP (conF (.str "q")) (bd (consF (opF inP (varF 0) (varF 1)) nilF) int1P)))) (gNm 6))
  (seqF (asgF (opF ixP (varF 9) (bd (consF (varF 0) (consF (conF (.int 8)) nilF)) (callP 2 F__law_draw))) (gNm 11))
  (seqF (iteF' (andF (tstF (opF eqP (bd (consF (varF 0) (consF (conF (.int 3)) nilF)) (callP 2 F__law_draw)) (conF (.int 1)))) (tstF (opF ninP (varF 11) (varF 6))))
  (putF' (varF 6) (bd (consF (varF 0) (consF (varF 1) nilF)) (callP 2 F__law_draw)) (varF 11))
  skipF)
  (retF (varF 6)))))))))))))
noncomputable def F__law_any_name : FF := runF 2 0
  (retF (opF ixP (varF 1) (bd (consF (varF 0) (consF (bd (consF (varF 1) nilF) lenP) nilF)) (callP 2 F__law_draw))))
noncomputable def F__law_word : FF := runF 1 1
  (seqF (asgF (bd (consF (varF 0) (consF (conF (.int 6)) nilF)) (callP 2 F__law_draw)) (gNm 1))
  (seqF (iteF' (tstF (opF ltP (varF 1) (conF (.int 4))))
  (retF (bd (consF (varF 0) (consF (opF ixP (bd (consF (conF (.int 2)) (consF (conF (.int 5)) (consF (conF (.int 5)) (consF (conF (.int 10)) nilF)))) lstP) (varF 1)) nilF)) (callP 2 F__law_draw)))
  skipF)
  (retF (opF ixP (bd (consF (bd (consF (varF 0) (consF (conF (.int 4294967296)) nilF)) (callP 2 F__law_draw)) (consF (opF subP (conF (.int 4294967295)) (bd (consF (varF 0) (consF (conF (.int 3)) nilF)) (callP 2 F__law_draw))) nilF)) lstP) (opF subP (varF 1) (conF (.int 4)))))))
noncomputable def F__law_any_term : Nat → FF
  | 0 => fun _ _ => none
  | n + 1 => runF 4 3
      (seqF (asgF (bd (consF (varF 0) (consF (conF (.int 6)) nilF)) (callP 2 F__law_draw)) (gNm 4))
      (seqF (iteF' (orF (tstF (opF ltP (opF ixP (varF 2) (conF (.int 0))) (conF (.int 1)))) (orF (tstF (opF gtP (varF 3) (conF (.int 4)))) (tstF (opF ltP (varF 4) (conF (.int 2))))))
      (seqF (iteF' (tstF (opF eqP (bd (consF (varF 0) (consF (conF (.int 2)) nilF)) (callP 2 F__law_draw)) (conF (.int 0))))
      (retF (bd (consF (conF (.str "cell")) (consF (bd (consF (varF 0) (consF (varF 1) nilF)) (callP 2 F__law_any_name)) nilF)) tupP))
      skipF)
      (retF (bd (consF (conF (.str "num")) (consF (bd (consF (varF 0) nilF) (callP 1 F__law_word)) nilF)) tupP)))
      skipF)
      (seqF (putF' (varF 2) (conF (.int 0)) (opF subP (opF ixP (varF 2) (conF (.int 0))) (conF (.int 1))))
      (seqF (iteF' (tstF (opF eqP (varF 4) (conF (.int 2))))
      (seqF (asgF (bd (consF (varF 0) (consF (varF 1) nilF)) (callP 2 F__law_any_name)) (gNm 5))
      (retF (bd (consF (conF (.str "at")) (consF (varF 5) (consF (bd (consF (varF 0) (consF (varF 1) (consF (varF 2) (consF (opF addP (varF 3) (conF (.int 1))) nilF)))) (callP 4 (F__law_any_term n))) nilF))) tupP)))
      skipF)
      (seqF (asgF (bd (consF (varF 0) (consF (varF 1) (consF (varF 2) (consF (opF addP (varF 3) (conF (.int 1))) nilF)))) (callP 4 (F__law_any_term n))) (gNm 6))
      (retF (bd (consF (conF (.str "op")) (consF (opF ixP (conF (.str "+-*<=")) (bd (consF (varF 0) (consF (conF (.int 5)) nilF)) (callP 2 F__law_draw))) (consF (varF 6) (consF (bd (consF (varF 0) (consF (varF 1) (consF (varF 2) (consF (opF addP (varF 3) (conF (.int 1))) nilF)))) (callP 4 (F__law_any_term n))) nilF)))) tupP)))))))
noncomputable def F__law_term_text : Nat → FF
  | 0 => fun _ _ => none
  | n + 1 => runF 1 0
      (seqF (iteF' (tstF (opF eqP (opF ixP (varF 0) (conF (.int 0))) (conF (.str "op"))))
      (retF (opF addP (opF addP (conF (.str "(")) (bsF join1P (conF (.str " ")) (consF (bd (consF (opF ixP (varF 0) (conF (.int 1))) (consF (bd (consF (opF ixP (varF 0) (conF (.int 2))) nilF) (callP 1 (F__law_term_text n))) (consF (bd (consF (opF ixP (varF 0) (conF (.int 3))) nilF) (callP 1 (F__law_term_text n))) nilF))) lstP) nilF))) (conF (.str ")"))))
      skipF)
      (seqF (iteF' (tstF (opF eqP (opF ixP (varF 0) (conF (.int 0))) (conF (.str "at"))))
      (retF (opF addP (opF addP (opF addP (opF addP (conF (.str "(at ")) (opF ixP (varF 0) (conF (.int 1)))) (conF (.str " "))) (bd (consF (opF ixP (varF 0) (conF (.int 2))) nilF) (callP 1 (F__law_term_text n)))) (conF (.str ")"))))
      skipF)
      (retF (bd (consF (opF ixP (varF 0) (conF (.int 1))) nilF) str1P))))
noncomputable def F_figures_of_w1c : Mo Bool := (tstF (opF gtP (varF 0) (conF (.int 9))))
noncomputable def F_figures_of_w1b : SF :=
  (seqF (dropF (bmF append1P (varF 1) (consF (opF ixP (conF (.str "0123456789")) (opF modP (varF 0) (conF (.int 10)))) nilF)))
  (asgF (opF fdivP (varF 0) (conF (.int 10))) (gNm 0)))
noncomputable def F_figures_of : FF := runF 1 1
  (seqF (asgF (bd nilF lstP) (gNm 1))
  (seqF (whF F_figures_of_w1c
  F_figures_of_w1b)
  (seqF (dropF (bmF append1P (varF 1) (consF (opF ixP (conF (.str "0123456789")) (varF 0)) nilF)))
  (retF (bsF joinrP (conF (.str "")) (one (varF 1)))))))
noncomputable def F_show_term : Nat → FF
  | 0 => fun _ _ => none
  | n + 1 => runF 1 5
      (seqF (iteF' (tstF (opF eqP (opF ixP (varF 0) (conF (.int 0))) (conF (.str "num"))))
      (retF (bd (consF (opF ixP (varF 0) (conF (.int 1))) nilF) (callP 1 F_figures_of)))
      skipF)
      (seqF (iteF' (tstF (opF eqP (opF ixP (varF 0) (conF (.int 0))) (conF (.str "cell"))))
      (retF (opF ixP (varF 0) (conF (.int 1))))
      skipF)
      (seqF (iteF' (tstF (opF eqP (opF ixP (varF 0) (conF (.int 0))) (conF (.str "at"))))
      (seqF (asgF (opF ixP (varF 0) (conF (.int 1))) (gNm 1))
      (seqF (asgF (bd (consF (opF ixP (varF 0) (conF (.int 2))) nilF) (callP 1 (F_show_term n))) (gNm 2))
      (retF (jsF [(conF (.str "(at ")), (unF fmtP (varF 1)), (conF (.str " ")), (unF fmtP (varF 2)), (conF (.str ")"))] Str.empty))))
      skipF)
      (seqF (asgF (opF ixP (varF 0) (conF (.int 1))) (gNm 3))
      (seqF (asgF (bd (consF (opF ixP (varF 0) (conF (.int 2))) nilF) (callP 1 (F_show_term n))) (gNm 4))
      (seqF (asgF (bd (consF (opF ixP (varF 0) (conF (.int 3))) nilF) (callP 1 (F_show_term n))) (gNm 5))
      (retF (jsF [(conF (.str "(")), (unF fmtP (varF 3)), (conF (.str " ")), (unF fmtP (varF 4)), (conF (.str " ")), (unF fmtP (varF 5)), (conF (.str ")"))] Str.empty))))))))
noncomputable def F__law_alike : Nat → FF
  | 0 => fun _ _ => none
  | n + 1 => runF 2 0
      (seqF (iteF' (andF (bd (bd (consF (varF 0) (consF (conF (.ty "tuple")) nilF)) isinst3P) truE) (bd (bd (consF (varF 1) (consF (conF (.ty "tuple")) nilF)) isinst3P) truE))
      (retF (andV (opF eqP (bd (consF (varF 0) nilF) lenP) (bd (consF (varF 1) nilF) lenP)) (bd (consF (compF (itF (consF (varF 0) (consF (varF 1) nilF)) zipTP) [] (cN 2) yesF (bd (consF (varF 0) (consF (varF 1) nilF)) (callP 2 (F__law_alike n)))) nilF) allP)))
      skipF)
      (seqF (iteF' (orF (bd (bd (consF (varF 0) (consF (conF (.ty "str")) nilF)) isinst3P) truE) (bd (bd (consF (varF 1) (consF (conF (.ty "str")) nilF)) isinst3P) truE))
      (retF (andV (bd (consF (varF 0) (consF (conF (.ty "str")) nilF)) isinst3P) (andV (bd (consF (varF 1) (consF (conF (.ty "str")) nilF)) isinst3P) (opF eqP (varF 0) (varF 1)))))
      skipF)
      (seqF (iteF' (orF (notF (bd (bd (consF (varF 0) (consF (conF (.ty "int")) nilF)) isinst3P) truE)) (orF (notF (bd (bd (consF (varF 1) (consF (conF (.ty "int")) nilF)) isinst3P) truE)) (orF (bd (bd (consF (varF 0) (consF (conF (.ty "bool")) nilF)) isinst3P) truE) (bd (bd (consF (varF 1) (consF (conF (.ty "bool")) nilF)) isinst3P) truE))))
      (retF (conF (.bl false)))
      skipF)
      (retF (opF eqP (varF 0) (varF 1))))))
noncomputable def F_is_name : FF := runF 1 0
  (seqF (iteF' (orF (tstF (opF ltP (bd (consF (varF 0) nilF) lenP) (conF (.int 1)))) (orF (tstF (opF gtP (bd (consF (varF 0) nilF) lenP) (conF (.int 6)))) (tstF (opF inP (varF 0) (conF (.con (List.map I.str ["cell", "row", "def", "main", "set", "put", "while", "if", "else", "call", "end", "at"])))))))
  (retF (conF (.bl false)))
  skipF)
  (retF (bd (consF (compF (itF (one (varF 0)) strP) [] c1 yesF (opF (inSP false) (varF 0) (conF (.str "abcdefghijklmnopqrstuvwxyz")))) nilF) allP)))
noncomputable def F_number_in_w1b : SF :=
  (seqF (iteF' (tstF (opF (inSP true) (varF 2) (conF (.str "0123456789"))))
  (retF (conF .non))
  skipF)
  (asgF (opF addP (opF mulP (conF (.int 10)) (varF 1)) (bsF index1P (conF (.str "0123456789")) (consF (varF 2) nilF))) (gNm 1)))
noncomputable def F_number_in : FF := runF 1 2
  (seqF (iteF' (orF (tstF (opF eqP (varF 0) (conF (.str "")))) (andF (tstF (opF eqP (opF ixP (varF 0) (conF (.int 0))) (conF (.str "0")))) (tstF (opF neP (varF 0) (conF (.str "0"))))))
  (retF (conF .non))
  skipF)
  (seqF (asgF (conF (.int 0)) (gNm 1))
  (seqF (forF (itF (one (varF 0)) strP) (gNm 2)
  F_number_in_w1b)
  (retF (varF 1)))))
noncomputable def F_word_from : FF := runF 1 1
  (seqF (asgF (bd (consF (varF 0) nilF) (callP 1 F_number_in)) (gNm 1))
  (seqF (iteF' (orF (tstF (unF (isQ true) (varF 1))) (tstF (opF geP (varF 1) (conF (.int 4294967296)))))
  (retF (conF .non))
  skipF)
  (retF (varF 1))))
noncomputable def F_as_term : FF := runF 1 1
  (seqF (iteF' (notF (bd (bd (consF (varF 0) (consF (conF (.ty "str")) nilF)) isinst3P) truE))
  (retF (varF 0))
  skipF)
  (seqF (iteF' (bd (bd (consF (varF 0) nilF) (callP 1 F_is_name)) truE)
  (retF (bd (consF (conF (.str "cell")) (consF (varF 0) nilF)) tupP))
  skipF)
  (seqF (asgF (bd (consF (varF 0) nilF) (callP 1 F_word_from)) (gNm 1))
  (seqF (iteF' (tstF (unF (isQ true) (varF 1)))
  (retF (conF .non))
  skipF)
  (retF (bd (consF (conF (.str "num")) (consF (varF 1) nilF)) tupP))))))
noncomputable def F_is_name_thing : FF := runF 1 0
  (retF (andV (bd (consF (varF 0) (consF (conF (.ty "str")) nilF)) isinst3P) (bd (consF (varF 0) nilF) (callP 1 F_is_name))))
noncomputable def F_bracketed : FF := runF 1 2
  (seqF (iteF' (tstF (opF neP (bd (consF (varF 0) nilF) lenP) (conF (.int 3))))
  (retF (conF .non))
  skipF)
  (seqF (asgF (bd (consF (opF ixP (varF 0) (conF (.int 2))) nilF) (callP 1 F_as_term)) (gNm 1))
  (seqF (iteF' (tstF (unF (isQ true) (varF 1)))
  (retF (conF .non))
  skipF)
  (seqF (iteF' (andF (tstF (opF eqP (opF ixP (varF 0) (conF (.int 0))) (conF (.str "at")))) (bd (bd (consF (opF ixP (varF 0) (conF (.int 1))) nilF) (callP 1 F_is_name_thing)) truE))
  (retF (bd (consF (conF (.str "at")) (consF (opF ixP (varF 0) (conF (.int 1))) (consF (varF 1) nilF))) tupP))
  skipF)
  (seqF (asgF (bd (consF (opF ixP (varF 0) (conF (.int 1))) nilF) (callP 1 F_as_term)) (gNm 2))
  (seqF (iteF' (andF (tstF (opF inP (opF ixP (varF 0) (conF (.int 0))) (conF (.con (List.map I.str ["+", "-", "*", "<", "="]))))) (tstF (unF (isQ false) (varF 2))))
  (retF (bd (consF (conF (.str "op")) (consF (opF ixP (varF 0) (conF (.int 0))) (consF (varF 2) (consF (varF 1) nilF)))) tupP))
  skipF)
  (retF (conF .non))))))))
noncomputable def F_terms_from_w1b : SF :=
  (iteF' (tstF (opF eqP (varF 2) (conF (.str "("))))
  (dropF (bmF append1P (varF 1) (consF (boxF (bd nilF lstP)) nilF)))
  (iteF' (tstF (opF eqP (varF 2) (conF (.str ")"))))
  (seqF (asgF (bd (consF (unF pop0P (varF 1)) nilF) (callP 1 F_bracketed)) (gNm 3))
  (seqF (iteF' (orF (tstF (unF (isQ true) (varF 3))) (tstF (opF eqP (bd (consF (varF 1) nilF) lenP) (conF (.int 0)))))
  (retF (conF .non))
  skipF)
  (dropF (bmF append1P (opF ixP (varF 1) (unF negP (conF (.int 1)))) (consF (varF 3) nilF)))))
  (dropF (bmF append1P (opF ixP (varF 1) (unF negP (conF (.int 1)))) (consF (varF 2) nilF)))))
noncomputable def F_terms_from : FF := runF 1 4
  (seqF (asgF (bd (consF (boxF (bd nilF lstP)) nilF) lstP) (gNm 1))
  (seqF (forF (itF (one (boxF (varF 0))) seqP) (gNm 2)
  F_terms_from_w1b)
  (seqF (asgF (compF (itF (one (opF ixP (varF 1) (conF (.int 0)))) seqP) [] c1 yesF (bd (consF (varF 0) nilF) (callP 1 F_as_term))) (gNm 4))
  (seqF (iteF' (orF (tstF (opF gtP (bd (consF (varF 1) nilF) lenP) (conF (.int 1)))) (tstF (opF inNP (conF .non) (varF 4))))
  (retF (conF .non))
  skipF)
  (retF (varF 4))))))
noncomputable def F_one_term : FF := runF 1 1
  (seqF (asgF (bd (consF (boxF (varF 0)) nilF) (callP 1 F_terms_from)) (gNm 1))
  (seqF (iteF' (orF (tstF (unF (isQ true) (varF 1))) (tstF (opF neP (bd (consF (varF 1) nilF) lenP) (conF (.int 1)))))
  (retF (conF .non))
  skipF)
  (retF (opF ixP (varF 1) (conF (.int 0))))))
noncomputable def F_spread : FF := runF 1 0
  (retF (unF (splP " ") (unF (replP ")" " )") (unF (replP "(" "( ") (varF 0)))))
noncomputable def F_read_term : FF := runF 1 1
  (seqF (asgF (bd (consF (bd (consF (varF 0) nilF) (callP 1 F_spread)) nilF) (callP 1 F_one_term)) (gNm 1))
  (seqF (iteF' (tstF (unF (isQ true) (varF 1)))
  nevF
  skipF)
  (retF (varF 1))))
noncomputable def F_inner_terms : FF := runF 1 0
  (seqF (iteF' (tstF (opF eqP (opF ixP (varF 0) (conF (.int 0))) (conF (.str "at"))))
  (retF (bd (consF (opF ixP (varF 0) (conF (.int 2))) nilF) tupP))
  skipF)
  (seqF (iteF' (tstF (opF eqP (opF ixP (varF 0) (conF (.int 0))) (conF (.str "op"))))
  (retF (bd (consF (opF ixP (varF 0) (conF (.int 2))) (consF (opF ixP (varF 0) (conF (.int 3))) nilF)) tupP))
  skipF)
  (retF (bd nilF tupP))))
noncomputable def F_terms_in_w1c : Mo Bool := (bd (varF 2) truE)
noncomputable def F_terms_in_w1b : SF :=
  (seqF (asgF (unF pop0P (varF 2)) (gNm 3))
  (seqF (dropF (bmF append1P (varF 1) (consF (varF 3) nilF)))
  (dropF (bmF extend1P (varF 2) (consF (unF revP (bd (consF (varF 3) nilF) (callP 1 F_inner_terms))) nilF)))))
noncomputable def F_terms_in : FF := runF 1 3
  (seqF (asgF (bd nilF lstP) (gNm 1))
  (seqF (asgF (bd (consF (varF 0) nilF) lstP) (gNm 2))
  (seqF (whF F_terms_in_w1c
  F_terms_in_w1b)
  (retF (varF 1)))))
noncomputable def F_parts : FF := runF 1 0
  (retF (bd (consF (bd (consF (varF 0) nilF) (callP 1 F_terms_in)) nilF) lenP))
noncomputable def F__law_many : Nat → FF
  | 0 => fun _ _ => none
  | n + 1 => runF 1 0
      (seqF (iteF' (tstF (opF eqP (opF ixP (varF 0) (conF (.int 0))) (conF (.str "op"))))
      (retF (opF addP (opF addP (conF (.int 1)) (bd (consF (opF ixP (varF 0) (conF (.int 2))) nilF) (callP 1 (F__law_many n)))) (bd (consF (opF ixP (varF 0) (conF (.int 3))) nilF) (callP 1 (F__law_many n)))))
      skipF)
      (seqF (iteF' (tstF (opF eqP (opF ixP (varF 0) (conF (.int 0))) (conF (.str "at"))))
      (retF (opF addP (conF (.int 1)) (bd (consF (opF ixP (varF 0) (conF (.int 2))) nilF) (callP 1 (F__law_many n)))))
      skipF)
      (retF (conF (.int 1)))))
noncomputable def F__law_right : FF := runF 1 2
  (seqF (asgF (bd (consF (varF 0) nilF) (callP 1 (F__law_term_text 9))) (gNm 1))
  (seqF (asgF (bd (consF (varF 0) nilF) (callP 1 (F_show_term 9))) (gNm 2))
  (seqF (iteF' (orF (notF (bd (bd (consF (varF 2) (consF (conF (.ty "str")) nilF)) isinst3P) truE)) (orF (tstF (opF neP (varF 2) (varF 1))) (notF (bd (bd (consF (bd (consF (varF 0) nilF) (callP 1 F_parts)) (consF (bd (consF (varF 0) nilF) (callP 1 (F__law_many 9))) nilF)) (callP 2 (F__law_alike 9))) truE))))
  (retF (conF (.bl false)))
  skipF)
  (retF (bd (consF (bd (consF (varF 1) nilF) (callP 1 F_read_term)) (consF (varF 0) nilF)) (callP 2 (F__law_alike 9)))))))
noncomputable def F_law : FF := runF 1 4
  (seqF (asgF (bd (consF (varF 0) (consF (conF (.int 0)) nilF)) (callP 2 F__law_deal)) (gNm 1))
  (seqF (asgF (bd (consF (boxF (varF 1)) (consF (conF (.int 24)) nilF)) (callP 2 F__law_names)) (gNm 2))
  (seqF (asgF (bd (consF (boxF (varF 1)) (consF (boxF (varF 2)) (consF (boxF (bd (consF (conF (.int 9)) nilF) lstP)) (consF (conF (.int 0)) nilF)))) (callP 4 (F__law_any_term 9))) (gNm 3))
  (seqF (asgF (bd (consF (boxF (varF 1)) (consF (boxF (varF 2)) (consF (boxF (bd (consF (conF (.int 9)) nilF) lstP)) (consF (conF (.int 0)) nilF)))) (callP 4 (F__law_any_term 9))) (gNm 4))
  (retF (bd (consF (compF (itF (one (bd (consF (varF 3) (consF (varF 4) (consF (varF 3) (consF (varF 4) nilF)))) tupP)) seqP) [] c1 yesF (bd (consF (varF 0) nilF) (callP 1 F__law_right))) nilF) allP))))))
end
end Q
namespace Q
open PySem L2 B
theorem run_rt   (hl : xs.length = n) (h : body (xs.map some ++ List.replicate r none) G = some (.rt x G')) : runF n r body xs G = some (x, G') := by
  unfold runF; rw [if_pos hl, h]
theorem seq_go   (h : a δ G = some (.nx δ1 G1)) (k : b δ1 G1 = r) : seqF a b δ G = r := by
  unfold seqF; rw [h]; exact k
theorem seq_rt   (h : a δ G = some (.rt x G1)) : seqF a b δ G = some (.rt x G1) := by
  unfold seqF; rw [h]
theorem ite_t   (h : c δ G = some (true, δ1, G1)) (k : a δ1 G1 = r) : iteF' c a b δ G = r := by
  unfold iteF'; rw [h]; exact k
theorem ite_f   (h : c δ G = some (false, δ1, G1)) (k : b δ1 G1 = r) : iteF' c a b δ G = r := by
  unfold iteF'; rw [h]; exact k
theorem asg_go   (h : f δ G = some (.v x, δ1, G1)) (k : g x δ1 G1 = some (δ2, G2)) : asgF f g δ G = some (.nx δ2 G2) := by
  unfold asgF movF bd; rw [h]; show (match mvE (.v x) δ1 G1 with | _ => _) = _
  unfold mvE rt; dsimp only; rw [k]
theorem ret_go   (h : f δ G = some (.v x, δ1, G1)) : retF f δ G = some (.rt x G1) := by
  unfold retF movF bd; rw [h]; rfl
theorem drop_go   (h : f δ G = some (e, δ1, G1)) : dropF f δ G = some (.nx δ1 G1) := by
  unfold dropF; rw [h]
theorem bd_go {α β : Type} {m : Mo α} {f : α → Mo β} {δ δ1 : De} {G G1 : List M} {a : α} {r : Option (β × De × List M)} (h : m δ G = some (a, δ1, G1)) (k : f a δ1 G1 = r) : bd m f δ G = r := by
  unfold bd; rw [h]; exact k
theorem or_t  (h : c δ G = some (true, δ1, G1)) : orF c d δ G = some (true, δ1, G1) := by
  unfold orF bd; rw [h]; rfl
theorem or_f   (h : c δ G = some (false, δ1, G1)) (k : d δ1 G1 = r) : orF c d δ G = r := by
  unfold orF bd; rw [h]; exact k
theorem and_f  (h : c δ G = some (false, δ1, G1)) : andF c d δ G = some (false, δ1, G1) := by
  unfold andF bd; rw [h]; rfl
theorem and_t   (h : c δ G = some (true, δ1, G1)) (k : d δ1 G1 = r) : andF c d δ G = r := by
  unfold andF bd; rw [h]; exact k
theorem tst_go   (h : f δ G = some (.v (.im (.bl b)), δ1, G1)) : tstF f δ G = some (b, δ1, G1) := by
  unfold tstF bd; rw [h]; rfl
theorem op_go    (h : f δ G = some (x, δ1, G1)) (h2 : g δ1 G1 = some (y, δ2, G2)) (k : p [x, y] δ2 G2 = r) : opF p f g δ G = r := by
  unfold opF bd; rw [h]; dsimp only; rw [h2]; exact k
theorem un_go    (h : f δ G = some (x, δ1, G1)) (k : p [x] δ1 G1 = r) : unF p f δ G = r := by
  unfold unF bd; rw [h]; exact k
theorem call_go    (h : vlA es = some xs) (hl : xs.length = n) (k : fn xs G = some (x, G')) : callP n fn es δ G = some (.v x, δ, G') := by
  unfold callP; rw [h]; dsimp only; rw [if_pos hl, k]
theorem bm_go     (h : fo δ G = some (e, δ1, G1)) (hl : isLst δ1 G1 e = true) (ha : fa δ1 G1 = some (es, δ2, G2)) (k : p (e :: es) δ2 G2 = r) : bmF p fo fa δ G = r := by
  unfold bmF bd; rw [h]; dsimp only; rw [if_pos hl, ha]; exact k
theorem comp_go      (hb : boxS ix δ G = some ((), δ0, G0)) (hi : fi δ0 G0 = some (w, es, δ1, G1)) (hn : w.n ≤ 100000) (hc : cTurns w c tt te (inD ix δ1) 0 w.n [] δ1 G1 = some (ds, G2)) : compF fi ix c tt te δ G = some (.v (.ow (.lst ds)), δ1, G2) := by
  unfold compF; rw [hb]; dsimp only; rw [hi]; dsimp only; rw [if_pos hn, hc]
theorem for_go     (hi : f δ G = some (w, es, δ1, G1)) (h : fTurns w g b 0 w.n δ1 G1 = r) : forF f g b δ G = r := by
  unfold forF; rw [hi]; exact h
theorem it_go    (h : fa δ G = some (es, δ1, G1)) (k : p es δ1 G1 = some w) : itF fa p δ G = some (w, es, δ1, G1) := by
  unfold itF; rw [h]; dsimp only; rw [k]; rfl
noncomputable def upW (n : Nat) : Wk := ⟨n, fun i _ _ => some (.int i), fun _ _ => true⟩
theorem upW_n (n : Nat) : (upW n).n = n := rfl
theorem rng_go {n : Nat} {j : Int} {δ : De} {G : List M} (h : j = n) (hn : n ≤ 1000000) : rng1P [.v (.im (.int j))] δ G = some (upW n) := by
  subst h
  unfold rng1P
  dsimp only
  rw [if_pos (by lia)]
  rfl
theorem rng_it {n : Nat} {fa : Mo (List Ev)} {j : Int} {δ δ1 : De} {G G1 : List M} (h : fa δ G = some ([.v (.im (.int j))], δ1, G1)) (e : j = n) (hn : n ≤ 1000000) : itF fa rng1P δ G = some (upW n, [.v (.im (.int j))], δ1, G1) := it_go h (rng_go e hn)
end Q
namespace Q
open PySem L2 B
local macro_rules | `(tactic| simp_arith [$xs,*]) => `(tactic| simp [runF,seqF,iteF',orF,andF,notF,tstF,opF,unF,bd,varF,conF,rt,consF,nilF,fldP,lenP,sq,pk,pkS,blE,ltP,leP,gtP,geP,intP,retF,retN,movF,boxF,bxE,mvE,skipF,dropF,asgF,gNm,ixP,orP,ixS,ixD,getD',subP,addP,addI,mulP,mulI,fdivP,modP,powP,shlP,shrP,negP,callP,vlA,methF,makeP,tupP,lstP,imA,imE,bmF,isLst,append1P,pop0P,fldS,putF',putQ,keyI,keyT,keysI,valI,ifE,isQ,slOk,truE,eqP,neP,eqE,mixI,eqD,flI,eqFl,tpl,newK,newT,one, $xs,*])
section
theorem s_sn : ¬ (("seed" : Str) = "number") := by decide +kernel
theorem s_sl : ¬ (("seed" : Str) = "left") := by decide +kernel
theorem s_nl : ¬ (("number" : Str) = "left") := by decide +kernel
theorem s_ns : ¬ (("number" : Str) = "seed") := by decide +kernel
theorem s_ls : ¬ (("left" : Str) = "seed") := by decide +kernel
theorem s_ln : ¬ (("left" : Str) = "number") := by decide +kernel
theorem b_sn : ((Sum.inr ("seed" : Str) : Key) = Sum.inr ("number" : Str)) = False := by simp; decide +kernel
theorem b_sl : ((Sum.inr ("seed" : Str) : Key) = Sum.inr ("left" : Str)) = False := by simp; decide +kernel
theorem b_nl : ((Sum.inr ("number" : Str) : Key) = Sum.inr ("left" : Str)) = False := by simp; decide +kernel
noncomputable def dealI (a n : Int) (l : Nat) : List (Key × I) := [(.inr "seed", .int a), (.inr "number", .int n), (.inr "left", .ref l)]
theorem deal_s (a n : Int) (l : Nat) : valI (dealI a n l) (Sum.inr ("seed" : Str)) = some (.int a) := by simp [dealI, valI]
theorem deal_n (a n : Int) (l : Nat) : valI (dealI a n l) (Sum.inr ("number" : Str)) = some (.int n) := by simp only [dealI, valI, b_sn, if_false, if_true]
theorem deal_l (a n : Int) (l : Nat) : valI (dealI a n l) (Sum.inr ("left" : Str)) = some (.ref l) := by simp only [dealI, valI, b_sl, b_nl, if_false, if_true]
theorem put_n (a n m : Int) (l : Nat) : putD (dealI a n l) (Sum.inr ("number" : Str)) (.int m) = dealI a m l := by simp [putD, hasI, dealI, s_sn, s_ln, s_nl, s_ns]
theorem put_s (a n m : Int) (l : Nat) : putD (dealI a n l) (Sum.inr ("seed" : Str)) (.int m) = dealI m n l := by simp [putD, hasI, dealI, s_ns, s_ls]
theorem deal_len (a n : Int) (l : Nat) : (dealI a n l).length < 1000000 := by show 3 < 1000000; decide
structure DC (G : List M) (d l : Nat) (a n : Int) (ms : List Int) : Prop where
  dc : G[d]? = some (.dic (dealI a n l))
  lc : G[l]? = some (.lst (ms.map I.int))
  ne : d ≠ l
  a0 : 0 ≤ a
  a1 : a < 2147483647
  n0 : 0 ≤ n
  m0 : ∀ m ∈ ms, 0 ≤ m
noncomputable def DG (G : List M) (d l : Nat) : Prop := ∃ a n ms, DC G d l a n ms
/-- but these two all is as it was -/
structure Oth (d l : Nat) (G G' : List M) : Prop where
  len : G'.length = G.length
  at_ : ∀ k, k ≠ d → k ≠ l → G'[k]? = G[k]?
theorem Oth.refl (d l : Nat) (G : List M) : Oth d l G G := ⟨rfl, fun _ _ _ => rfl⟩
theorem Oth.trans {d l : Nat} {G G1 G2 : List M} (x : Oth d l G G1) (y : Oth d l G1 G2) : Oth d l G G2 := ⟨y.len.trans x.len, fun k h1 h2 => (y.at_ k h1 h2).trans (x.at_ k h1 h2)⟩
theorem Oth.setD {d l : Nat} {G : List M} {m : M} : Oth d l G (G.set d m) := ⟨List.length_set, fun k h1 _ => List.getElem?_set_ne (Ne.symm h1)⟩
theorem Oth.setL {d l : Nat} {G : List M} {m : M} : Oth d l G (G.set l m) := ⟨List.length_set, fun k _ h1 => List.getElem?_set_ne (Ne.symm h1)⟩
theorem set_at {G : List M} {k : Nat} {m m' : M} (h : G[k]? = some m') : (G.set k m)[k]? = some m := List.getElem?_set_self (List.getElem?_eq_some_iff.mp h).1
noncomputable def drD (d : Nat) (many : Int) : De := [some (.im (.ref d)), some (.im (.int many)), none, none, none]
theorem draw_c {G : List M} {d l : Nat} {a n : Int} {ms : List Int} {many : Int} (D : DC G d l a n ms) : F__law_draw_w1c (drD d many) G = some (decide (n = 0) && decide (0 < ms.length), drD d many, G) := by
  by_cases h : n = 0
  · by_cases h2 : 0 < ms.length
    · simp_arith [F__law_draw_w1c, drD, D.dc, D.lc, deal_n, deal_l, h, h2]
    · simp_arith [F__law_draw_w1c, drD, D.dc, D.lc, deal_n, deal_l, h, h2]
  · simp_arith [F__law_draw_w1c, drD, D.dc, D.lc, deal_n, deal_l, h]
theorem draw_b {G : List M} {d l : Nat} {a n : Int} {ms : List Int} {many y : Int} (D : DC G d l a n ms) (hy : ms[ms.length - 1]? = some y) : ∃ G', F__law_draw_w1b (drD d many) G = some (.nx (drD d many) G') ∧ DC G' d l a y ms.dropLast ∧ Oth d l G G' := by
  have h1 : (G.set l (.lst (ms.map I.int).dropLast))[d]? = some (.dic (dealI a n l)) := by rw [List.getElem?_set_ne D.ne.symm]; exact D.dc
  refine ⟨(G.set l (.lst (ms.map I.int).dropLast)).set d (.dic (dealI a y l)), ?_, ⟨set_at h1, ?_, D.ne, D.a0, D.a1, D.m0 y (List.mem_of_getElem? hy), fun m hm => D.m0 m (List.dropLast_subset _ hm)⟩, Oth.setL.trans Oth.setD⟩
  · simp_arith [F__law_draw_w1b, drD, D.dc, D.lc, deal_l, hy, h1, deal_len, put_n]
  · rw [List.getElem?_set_ne D.ne, set_at D.lc, List.map_dropLast]
theorem draw_w {d l : Nat} {a : Int} {many : Int} : ∀ (k : Nat) {G : List M} {n : Int} {ms : List Int}, ms.length = k → DC G d l a n ms → ∃ G' n' ms', whF F__law_draw_w1c F__law_draw_w1b (drD d many) G = some (.nx (drD d many) G') ∧ DC G' d l a n' ms' ∧ Oth d l G G' := by
  intro k
  induction k with
  | zero =>
    intro G n ms hk D
    refine ⟨G, n, ms, whF_done ?_, D, Oth.refl _ _ _⟩
    rw [draw_c D]
    simp [hk]
  | succ k ih =>
    intro G n ms hk D
    by_cases h : n = 0
    · obtain ⟨y, hy⟩ : ∃ y, ms[ms.length - 1]? = some y := ⟨_, List.getElem?_eq_getElem (by lia)⟩
      obtain ⟨G1, e1, D1, o1⟩ := draw_b (many := many) D hy
      obtain ⟨G2, n2, ms2, e2, D2, o2⟩ := ih (by rw [List.length_dropLast]; lia) D1
      refine ⟨G2, n2, ms2, ?_, D2, o1.trans o2⟩
      rw [whF_next (by rw [draw_c D]; simp [h, hk]) e1]
      exact e2
    · refine ⟨G, n, ms, whF_done ?_, D, Oth.refl _ _ _⟩
      rw [draw_c D]
      simp [h]
theorem draw_ok {G : List M} {d l : Nat} {many : Int} (D : DG G d l) (h0 : 0 < many) (h1 : many < 2 ^ 100) : ∃ r G', F__law_draw [.im (.ref d), .im (.int many)] G = some (.im (.int r), G') ∧ 0 ≤ r ∧ r < many ∧ DG G' d l ∧ Oth d l G G' := by
  obtain ⟨a, n, ms, D⟩ := D
  obtain ⟨G1, n1, ms1, e1, D1, o1⟩ := draw_w (many := many) _ rfl D
  have e1' : whF F__law_draw_w1c F__law_draw_w1b [some (.im (.ref d)), some (.im (.int many)), none, none, none] G = some (.nx [some (.im (.ref d)), some (.im (.int many)), none, none, none] G1) := e1
  by_cases hn : 0 < n1
  · refine ⟨n1 % many, G1.set d (.dic (dealI a (n1 / many) l)), ?_, Int.emod_nonneg _ (by lia), Int.emod_lt_of_pos _ h0, ⟨a, n1 / many, ms1, set_at D1.dc, by rw [List.getElem?_set_ne D1.ne]; exact D1.lc, D1.ne, D1.a0, D1.a1, Int.ediv_nonneg D1.n0 (by lia), D1.m0⟩, o1.trans Oth.setD⟩
    have h2 : many < 2 ^ 200 := Int.lt_trans h1 (by decide)
    have h3 : (many < 1606938044258990275541962092341162602522202993782792835301376) := h2
    simp_arith [F__law_draw, e1', D1.dc, deal_n, hn, h0, h3, deal_len, put_n]
  · have q1 : 0 ≤ (a * 48271 + 7919) % 2147483647 := Int.emod_nonneg _ (by decide)
    have q2 : (a * 48271 + 7919) % 2147483647 < 2147483647 := Int.emod_lt_of_pos _ (by decide)
    have q3 : 0 ≤ ((a * 48271 + 7919) % 2147483647 * 40692 + 104729) % 2147483399 := Int.emod_nonneg _ (by decide)
    have q4 : ((a * 48271 + 7919) % 2147483647 * 40692 + 104729) % 2147483399 < 2147483399 := Int.emod_lt_of_pos _ (by decide)
    obtain ⟨o, ho⟩ : ∃ o, (a * 48271 + 7919) % 2147483647 = o := ⟨_, rfl⟩
    rw [ho] at q1 q2 q3 q4
    obtain ⟨b, hb⟩ : ∃ b, (o * 40692 + 104729) % 2147483399 = b := ⟨_, rfl⟩
    rw [hb] at q3 q4
    have D2 : (G1.set d (.dic (dealI b n1 l)))[d]? = some (.dic (dealI b n1 l)) := set_at D1.dc
    have c1 : -18446744073709551616 < b ∧ b < 18446744073709551616 := ⟨by lia, by lia⟩
    have c2 : -18446744073709551616 < o ∧ o < 18446744073709551616 := ⟨by lia, by lia⟩
    refine ⟨(o * o % 2147483629 * 2147483563 + b * b % 2147483563) % many, G1.set d (.dic (dealI b n1 l)), ?_, Int.emod_nonneg _ (by lia), Int.emod_lt_of_pos _ h0, ⟨b, n1, ms1, D2, by rw [List.getElem?_set_ne D1.ne]; exact D1.lc, D1.ne, q3, by lia, D1.n0, D1.m0⟩, o1.trans Oth.setD⟩
    simp_arith [F__law_draw, e1', D1.dc, D2, deal_n, deal_s, hn, h0, deal_len, put_s, ho, hb, c1, c2]
theorem cT_inv {w : Wk} {c : I → Option (List I)} {tt : Mo Bool} {te : Mo Ev} {di δ : De} (P : Nat → List I → List M → Prop)
    (step : ∀ i acc G, i < w.n → P i acc G → ∃ d ds δa Ga y δb Gb, w.at_ i δ G = some d ∧ c d = some ds ∧ tt ((ds.map fun d => some (Vl.im d)) ++ di) G = some (true, δa, Ga) ∧ te δa Ga = some (.v (.im y), δb, Gb) ∧ P (i + 1) (acc ++ [y]) Gb)
    (fin : ∀ acc G, P w.n acc G → w.fin δ G = true) : ∀ (r i : Nat) (acc : List I) (G : List M), i + r = w.n → P i acc G → ∃ ds G', cTurns w c tt te di i r acc δ G = some (ds, G') ∧ P w.n ds G'
  | 0, i, acc, G, h, p => by
    have : i = w.n := by lia
    subst this
    exact ⟨acc, G, by unfold cTurns; rw [fin acc G p]; rfl, p⟩
  | r + 1, i, acc, G, h, p => by
    obtain ⟨d, ds, δa, Ga, y, δb, Gb, h1, h2, h3, h4, p'⟩ := step i acc G (by lia) p
    obtain ⟨ds', G', e, q⟩ := cT_inv P step fin r (i + 1) (acc ++ [y]) Gb (by lia) p'
    refine ⟨ds', G', ?_, q⟩
    unfold cTurns
    rw [h1]; dsimp only; rw [h2]; dsimp only; rw [h3]; dsimp only; rw [h4]
    exact e
theorem fT_inv {w : Wk} {g : GF} {b : SF} (P : Nat → De → List M → Prop)
    (step : ∀ i δ G, i < w.n → P i δ G → ∃ d δ1 G1 δ2 G2, w.at_ i δ G = some d ∧ g (.im d) δ G = some (δ1, G1) ∧ b δ1 G1 = some (.nx δ2 G2) ∧ P (i + 1) δ2 G2)
    (fin : ∀ δ G, P w.n δ G → w.fin δ G = true) : ∀ (r i : Nat) (δ : De) (G : List M), i + r = w.n → P i δ G → ∃ δ' G', fTurns w g b i r δ G = some (.nx δ' G') ∧ P w.n δ' G'
  | 0, i, δ, G, h, p => by
    have : i = w.n := by lia
    subst this
    exact ⟨δ, G, by unfold fTurns; rw [fin δ G p]; rfl, p⟩
  | r + 1, i, δ, G, h, p => by
    obtain ⟨d, δ1, G1, δ2, G2, h1, h2, h3, p'⟩ := step i δ G (by lia) p
    obtain ⟨δ', G', e, q⟩ := fT_inv P step fin r (i + 1) δ2 G2 (by lia) p'
    refine ⟨δ', G', ?_, q⟩
    unfold fTurns
    rw [h1]; dsimp only; rw [h2]; dsimp only; rw [h3]
    exact e
structure Mor (g s : Nat) (G G' : List M) : Prop where
  len : G.length ≤ G'.length
  at_ : ∀ k, k < G.length → k ≠ g → k ≠ s → G'[k]? = G[k]?
theorem Mor.trans {g s : Nat} {G G1 G2 : List M} (x : Mor g s G G1) (y : Mor g s G1 G2) : Mor g s G G2 := ⟨Nat.le_trans x.len y.len, fun k h h1 h2 => (y.at_ k (Nat.lt_of_lt_of_le h x.len) h1 h2).trans (x.at_ k h h1 h2)⟩
theorem Oth.mor {g s : Nat} {G G' : List M} (o : Oth g s G G') : Mor g s G G' := ⟨by rw [o.len]; exact Nat.le_refl _, fun k _ h1 h2 => o.at_ k h1 h2⟩
theorem Mor.app {g s : Nat} {G : List M} (T : List M) : Mor g s G (G ++ T) := ⟨by rw [List.length_append]; lia, fun k h _ _ => List.getElem?_append_left h⟩
theorem Oth.dg {d l g s : Nat} {G G' : List M} (o : Oth g s G G') (D : DG G d l) (h1 : d ≠ g) (h2 : d ≠ s) (h3 : l ≠ g) (h4 : l ≠ s) : DG G' d l := by
  obtain ⟨a, n, ms, D⟩ := D
  exact ⟨a, n, ms, by rw [o.at_ d h1 h2]; exact D.dc, by rw [o.at_ l h3 h4]; exact D.lc, D.ne, D.a0, D.a1, D.n0, D.m0⟩
theorem DG.lt {d l : Nat} {G : List M} (D : DG G d l) : d < G.length ∧ l < G.length := by
  obtain ⟨a, n, ms, D⟩ := D
  exact ⟨(List.getElem?_eq_some_iff.mp D.dc).1, (List.getElem?_eq_some_iff.mp D.lc).1⟩
theorem DG.app {d l : Nat} {G : List M} (D : DG G d l) (T : List M) : DG (G ++ T) d l := by
  obtain ⟨l1, l2⟩ := D.lt
  obtain ⟨a, n, ms, D⟩ := D
  exact ⟨a, n, ms, by rw [List.getElem?_append_left l1]; exact D.dc, by rw [List.getElem?_append_left l2]; exact D.lc, D.ne, D.a0, D.a1, D.n0, D.m0⟩
theorem cT_tst {w : Wk} {c : I → Option (List I)} {tt : Mo Bool} {te : Mo Ev} {di δ : De} (P : Nat → List I → List M → Prop)
    (step : ∀ i acc G, i < w.n → P i acc G → ∃ d ds δa Ga, w.at_ i δ G = some d ∧ c d = some ds ∧ ((tt ((ds.map fun d => some (Vl.im d)) ++ di) G = some (false, δa, Ga) ∧ P (i + 1) acc Ga) ∨ ∃ y δb Gb, tt ((ds.map fun d => some (Vl.im d)) ++ di) G = some (true, δa, Ga) ∧ te δa Ga = some (.v (.im y), δb, Gb) ∧ P (i + 1) (acc ++ [y]) Gb))
    (fin : ∀ acc G, P w.n acc G → w.fin δ G = true) : ∀ (r i : Nat) (acc : List I) (G : List M), i + r = w.n → P i acc G → ∃ ds G', cTurns w c tt te di i r acc δ G = some (ds, G') ∧ P w.n ds G'
  | 0, i, acc, G, h, p => by
    have : i = w.n := by lia
    subst this
    exact ⟨acc, G, by unfold cTurns; rw [fin acc G p]; rfl, p⟩
  | r + 1, i, acc, G, h, p => by
    obtain ⟨d, ds, δa, Ga, h1, h2, z⟩ := step i acc G (by lia) p
    rcases z with ⟨h3, p'⟩ | ⟨y, δb, Gb, h3, h4, p'⟩
    · obtain ⟨ds', G', e, q⟩ := cT_tst P step fin r (i + 1) acc Ga (by lia) p'
      refine ⟨ds', G', ?_, q⟩
      unfold cTurns
      rw [h1]; dsimp only; rw [h2]; dsimp only; rw [h3]
      exact e
    · obtain ⟨ds', G', e, q⟩ := cT_tst P step fin r (i + 1) (acc ++ [y]) Gb (by lia) p'
      refine ⟨ds', G', ?_, q⟩
      unfold cTurns
      rw [h1]; dsimp only; rw [h2]; dsimp only; rw [h3]; dsimp only; rw [h4]
      exact e
theorem cut_map (ns : List Int) (lo hi : Option Int) : ∃ ms : List Int, cutI (ns.map I.int) lo hi = ms.map I.int ∧ ms.length ≤ ns.length := by
  refine ⟨(ns.drop (HT.sIx ns.length 0 lo)).take (HT.sIx ns.length ns.length hi - HT.sIx ns.length 0 lo), ?_, ?_⟩
  · unfold cutI; rw [List.length_map, List.map_take, List.map_drop]
  · rw [List.length_take, List.length_drop]; lia
theorem deal_some {ms : List Int} {δ : De} {G : List M} : ∃ so : List Int, cTurns (lsW (.v (.ow (.lst (ms.map I.int)))) ms.length) c1 yesF (bd (consF (varF 0) (consF (opF subP (conF (.int 0)) (varF 0)) nilF)) max2P) [] 0 ms.length [] δ G = some (so.map I.int, G) ∧ so.length = ms.length ∧ ∀ m ∈ so, 0 ≤ m := by
  obtain ⟨ds, G', e, so, ed, ls, hp, eg⟩ := cT_inv (w := lsW (.v (.ow (.lst (ms.map I.int)))) ms.length) (c := c1) (tt := yesF) (te := bd (consF (varF 0) (consF (opF subP (conF (.int 0)) (varF 0)) nilF)) max2P) (di := []) (δ := δ)
    (fun i acc G' => ∃ so : List Int, acc = so.map I.int ∧ so.length = i ∧ (∀ m ∈ so, 0 ≤ m) ∧ G' = G)
    (fun i acc G1 hi zz => by
      obtain ⟨so, ea, ls, hp, o⟩ := zz
      have hi : i < ms.length := hi
      subst o
      obtain ⟨y, hy⟩ : ∃ y, (if 0 - ms[i] > ms[i] then 0 - ms[i] else ms[i]) = y := ⟨_, rfl⟩
      refine ⟨.int ms[i], [.int ms[i]], _, _, .int y, [some (.im (.int ms[i]))], G1, ?_, rfl, rfl, ?_, so ++ [y], by rw [ea, List.map_append]; rfl, by rw [List.length_append, ls]; rfl, fun m hm => ?_, rfl⟩
      · simp [lsW, sq, pk, hi]
      · subst hy; simp_arith [max2P]
      · rcases List.mem_append.mp hm with z | z
        · exact hp m z
        · have : m = y := by simpa using z
          subst this; subst hy; split <;> lia)
    (fun _ _ _ => by simp [lsW, sq, pk]) ms.length 0 [] G (by simp [lsW]) ⟨[], rfl, rfl, fun _ h => (by cases h), rfl⟩
  exact ⟨so, by rw [ed, eg] at e; exact e, ls, hp⟩
theorem deal_left {so : List Int} {δ : De} {G : List M} {k : Nat} (hk : G[k]? = some (.lst (so.map I.int))) (hp : ∀ m ∈ so, 0 ≤ m) : ∃ le : List Int, cTurns (lsW (.v (.im (.ref k))) so.length) c1 (tstF (opF geP (varF 0) (opF powP (conF (.int 10)) (conF (.int 18))))) (varF 0) [] 0 so.length [] δ G = some (le.map I.int, G) ∧ ∀ m ∈ le, 0 ≤ m := by
  obtain ⟨ds, G', e, so', ed, hp, eg⟩ := cT_tst (w := lsW (.v (.im (.ref k))) so.length) (c := c1) (tt := tstF (opF geP (varF 0) (opF powP (conF (.int 10)) (conF (.int 18))))) (te := varF 0) (di := []) (δ := δ)
    (fun i acc G' => ∃ le : List Int, acc = le.map I.int ∧ (∀ m ∈ le, 0 ≤ m) ∧ G' = G)
    (fun i acc G1 hi zz => by
      obtain ⟨le, ea, hp', o⟩ := zz
      have hi : i < so.length := hi
      subst o
      refine ⟨.int so[i], [.int so[i]], [some (.im (.int so[i]))], G1, by simp [lsW, sq, pk, hk, hi], rfl, ?_⟩
      by_cases z : (1000000000000000000 : Int) ≤ so[i]
      · refine .inr ⟨.int so[i], [some (.im (.int so[i]))], G1, by simp_arith [z], by simp_arith [], le ++ [so[i]], by rw [ea, List.map_append]; rfl, fun m hm => ?_, rfl⟩
        rcases List.mem_append.mp hm with y | y
        · exact hp' m y
        · have : m = so[i] := by simpa using y
          subst this; exact hp _ (List.getElem_mem hi)
      · exact .inl ⟨by simp_arith []; lia, le, ea, hp', rfl⟩)
    (fun _ G1 zz => by obtain ⟨_, _, _, eg⟩ := zz; subst eg; simp [lsW, sq, pk, hk]) so.length 0 [] G (by simp [lsW]) ⟨[], rfl, fun _ h => (by cases h), rfl⟩
  exact ⟨so', by rw [ed, eg] at e; exact e, hp⟩
theorem deal_for {so : List Int} {s1 s2 s3 v : Option Vl} {G : List M} {k : Nat} {a : Int} (hk : G[k]? = some (.lst (so.map I.int))) (h0 : 0 ≤ a) (h1 : a < 2147483647) : ∃ a' v', fTurns (lsW (.v (.im (.ref k))) so.length) (gNm 4) F__law_deal_w1b 0 so.length [s1, s2, s3, some (.im (.int a)), v] G = some (.nx [s1, s2, s3, some (.im (.int a')), v'] G) ∧ 0 ≤ a' ∧ a' < 2147483647 := by
  obtain ⟨δ', G', e, a', v', ed, p0, p1, eg⟩ := fT_inv (w := lsW (.v (.im (.ref k))) so.length) (g := gNm 4) (b := F__law_deal_w1b)
    (fun i δ G' => ∃ (a : Int) (v : Option Vl), δ = [s1, s2, s3, some (.im (.int a)), v] ∧ 0 ≤ a ∧ a < 2147483647 ∧ G' = G)
    (fun i δ G1 hi zz => by
      obtain ⟨a, v, ea, p0, p1, o⟩ := zz
      have hi : i < so.length := hi
      subst o
      subst ea
      refine ⟨.int so[i], [s1, s2, s3, some (.im (.int a)), some (.im (.int so[i]))], G1, [s1, s2, s3, some (.im (.int ((a * 48271 + so[i] % 2147483629) % 2147483647))), some (.im (.int so[i]))], G1, by simp [lsW, sq, pk, hk, hi], rfl, ?_, _, _, rfl, Int.emod_nonneg _ (by decide), Int.emod_lt_of_pos _ (by decide), rfl⟩
      simp_arith [F__law_deal_w1b])
    (fun _ G1 zz => by obtain ⟨_, _, _, _, _, eg⟩ := zz; subst eg; simp [lsW, sq, pk, hk]) so.length 0 [s1, s2, s3, some (.im (.int a)), v] G (by simp [lsW]) ⟨a, v, rfl, h0, h1, rfl⟩
  exact ⟨a', v', by rw [ed, eg] at e; exact e, p0, p1⟩
theorem seq_it {fe : Mo Ev} {e : Ev} {xs : List I} {n : Nat} {δ δ1 : De} {G G1 : List M} (h : fe δ G = some (e, δ1, G1)) (hl : isL δ1 G1 e = true) (hs : sq δ1 G1 e = some xs) (hn : xs.length = n) : itF (one fe) seqP δ G = some (lsW e n, [e], δ1, G1) := by
  subst hn
  refine it_go (bd_go h rfl) ?_
  unfold seqP lsP
  dsimp only
  rw [if_pos hl, hs]
  rfl
theorem deal_ok {ns : List Int} {b : Nat} {G : List M} (h : ns.length ≤ 63) (hb : b ≤ 1000) : ∃ (a : Int) (so le : List Int), F__law_deal [.im (.fro (ns.map I.int)), .im (.int b)] G = some (.ow (.dic (dealI a 0 (G.length + 1))), G ++ [.lst (so.map I.int), .lst (le.map I.int)]) ∧ 0 ≤ a ∧ a < 2147483647 ∧ ∀ m ∈ le, 0 ≤ m := by
  obtain ⟨ms, hc, lm⟩ := cut_map ns (some (b : Int)) (some 63)
  obtain ⟨so, e1, l1, p1⟩ := deal_some (ms := ms) (δ := [some (.im (.fro (ns.map I.int))), some (.im (.int b)), none, none, none]) (G := G)
  have hk : (G ++ [M.lst (so.map I.int)])[G.length]? = some (.lst (so.map I.int)) := by simp
  obtain ⟨a, v, e2, a0, a1⟩ := deal_for (s1 := some (.im (.fro (ns.map I.int)))) (s2 := some (.im (.int b))) (s3 := some (.im (.ref G.length))) (v := none) (a := 7919 + (b : Int)) hk (by lia) (by lia)
  obtain ⟨le, e3, p3⟩ := deal_left (δ := [some (.im (.fro (ns.map I.int))), some (.im (.int b)), some (.im (.ref G.length)), some (.im (.int a)), v]) hk p1
  refine ⟨a, so, le.reverse, ?_, a0, a1, fun m hm => p3 m (List.mem_reverse.mp hm)⟩
  refine run_rt rfl ?_
  refine seq_go (asg_go (comp_go (δ0 := [some (.im (.fro (ns.map I.int))), some (.im (.int b)), none, none, none]) (by rfl) (seq_it (e := .v (.ow (.lst (ms.map I.int)))) (n := ms.length) (δ1 := [some (.im (.fro (ns.map I.int))), some (.im (.int b)), none, none, none]) (G1 := G) ?_ rfl rfl (by simp)) (by show ms.length ≤ 100000; lia) e1) rfl) ?_
  · simp_arith [sliF, somePt, ptE, sliQ, notT, hc]
  refine seq_go (asg_go (x := .im (.int (7919 + (b : Int)))) (δ1 := [some (.im (.fro (ns.map I.int))), some (.im (.int b)), some (.ow (.lst (so.map I.int))), none, none]) (G1 := G) (by simp_arith []) rfl) ?_
  refine seq_go (for_go (seq_it (e := .v (.im (.ref G.length))) (n := so.length) (δ1 := [some (.im (.fro (ns.map I.int))), some (.im (.int b)), some (.im (.ref G.length)), some (.im (.int (7919 + (b : Int)))), none]) (G1 := G ++ [M.lst (so.map I.int)]) (xs := so.map I.int) (by simp_arith []) rfl (by simp [sq, pk]) (by simp)) e2) ?_
  refine ret_go (δ1 := [some (.im (.fro (ns.map I.int))), some (.im (.int b)), some (.im (.ref G.length)), some (.im (.int a)), v]) ?_
  have e4 : compF (itF (one (boxF (varF 2))) seqP) [] c1 (tstF (opF geP (varF 0) (opF powP (conF (.int 10)) (conF (.int 18))))) (varF 0) [some (.im (.fro (ns.map I.int))), some (.im (.int b)), some (.im (.ref G.length)), some (.im (.int a)), v] (G ++ [M.lst (so.map I.int)]) = some (.v (.ow (.lst (le.map I.int))), [some (.im (.fro (ns.map I.int))), some (.im (.int b)), some (.im (.ref G.length)), some (.im (.int a)), v], G ++ [M.lst (so.map I.int)]) := by
    refine comp_go (by rfl) (seq_it (e := .v (.im (.ref G.length))) (n := so.length) (δ1 := [some (.im (.fro (ns.map I.int))), some (.im (.int b)), some (.im (.ref G.length)), some (.im (.int a)), v]) (G1 := G ++ [M.lst (so.map I.int)]) (xs := so.map I.int) (by simp_arith []) rfl (by simp [sq, pk]) (by simp)) (by show so.length ≤ 100000; lia) e3
  have e5 : boxF (unF lrevP (compF (itF (one (boxF (varF 2))) seqP) [] c1 (tstF (opF geP (varF 0) (opF powP (conF (.int 10)) (conF (.int 18))))) (varF 0))) [some (.im (.fro (ns.map I.int))), some (.im (.int b)), some (.im (.ref G.length)), some (.im (.int a)), v] (G ++ [M.lst (so.map I.int)]) = some (.v (.im (.ref (G.length + 1))), [some (.im (.fro (ns.map I.int))), some (.im (.int b)), some (.im (.ref G.length)), some (.im (.int a)), v], G ++ [M.lst (so.map I.int), M.lst (le.reverse.map I.int)]) := by
    refine bd_go (un_go e4 (r := some (.v (.ow (.lst (le.reverse.map I.int))), [some (.im (.fro (ns.map I.int))), some (.im (.int b)), some (.im (.ref G.length)), some (.im (.int a)), v], G ++ [M.lst (so.map I.int)])) (by simp [lrevP, notT, sq, pk])) ?_
    simp [bxE]
  refine bd_go (a := [.v (.im (.str "seed")), .v (.im (.int a)), .v (.im (.str "number")), .v (.im (.int 0)), .v (.im (.str "left")), .v (.im (.ref (G.length + 1)))]) (δ1 := [some (.im (.fro (ns.map I.int))), some (.im (.int b)), some (.im (.ref G.length)), some (.im (.int a)), v]) (G1 := G ++ [M.lst (so.map I.int), M.lst (le.reverse.map I.int)]) ?_ ?_
  · refine bd_go rfl (bd_go rfl (bd_go (a := [.v (.im (.str "number")), .v (.im (.int 0)), .v (.im (.str "left")), .v (.im (.ref (G.length + 1)))]) (bd_go rfl (bd_go rfl (bd_go (a := [.v (.im (.str "left")), .v (.im (.ref (G.length + 1)))]) (bd_go rfl (bd_go e5 (bd_go rfl rfl))) rfl))) rfl))
  · simp [pairsE, keyI, mergeI, putD, hasI, s_sn, s_sl, s_nl, dealI]
end
section
noncomputable def mkS (l : List Nat) : Str := ⟨l.toArray⟩
theorem mkS_l (l : List Nat) : (mkS l).cps.toList = l := rfl
theorem mkS_of (x : Str) : mkS x.cps.toList = x := by cases x; simp [mkS]
theorem mkS_len (l : List Nat) : (mkS l).length = l.length := by simp [mkS, Str.length]
theorem mkS_app (a b : List Nat) : mkS a ++ mkS b = mkS (a ++ b) := by
  refine Str.ext' ?_
  rw [Str.cps_append]
  simp [mkS]
theorem mkS_inj {a b : List Nat} (h : mkS a = mkS b) : a = b := by have := congrArg (fun s : Str => s.cps.toList) h; simpa [mkS] using this
theorem str_of {x : Str} {l : List Nat} (h : x.cps.toList = l) : x = mkS l := by rw [← h, mkS_of]
noncomputable def spl (c : Nat) : List Nat → List (List Nat)
  | [] => [[]]
  | d :: r => if d = c then [] :: spl c r else match spl c r with
    | p :: ps => (d :: p) :: ps
    | [] => [[d]]
noncomputable def jn (c : Nat) : List (List Nat) → List Nat
  | [] => []
  | [p] => p
  | p :: q :: r => p ++ c :: jn c (q :: r)
theorem jn_cons (c : Nat) (p : List Nat) {r : List (List Nat)} (h : r ≠ []) : jn c (p :: r) = p ++ c :: jn c r := by
  cases r with
  | nil => exact absurd rfl h
  | cons q r => rfl
theorem jn_app (c : Nat) : ∀ {a b : List (List Nat)}, a ≠ [] → b ≠ [] → jn c (a ++ b) = jn c a ++ c :: jn c b
  | [], _, h, _ => absurd rfl h
  | [p], b, _, hb => jn_cons c p hb
  | p :: q :: r, b, _, hb => by
    have ih := jn_app c (a := q :: r) (b := b) (by simp) hb
    show jn c (p :: ((q :: r) ++ b)) = _
    rw [jn_cons c p (by simp), ih, jn_cons c p (by simp)]
    simp
theorem spl_free (c : Nat) : ∀ {p : List Nat}, c ∉ p → spl c p = [p]
  | [], _ => rfl
  | d :: p, h => by
    have h1 : d ≠ c := fun e => h (by rw [e]; exact List.mem_cons_self)
    have h2 : c ∉ p := fun e => h (List.mem_cons_of_mem _ e)
    rw [spl, if_neg h1, spl_free c h2]
theorem spl_sep (c : Nat) : ∀ {p : List Nat} (r : List Nat), c ∉ p → spl c (p ++ c :: r) = p :: spl c r
  | [], r, _ => by rw [List.nil_append, spl, if_pos rfl]
  | d :: p, r, h => by
    have h1 : d ≠ c := fun e => h (by rw [e]; exact List.mem_cons_self)
    have h2 : c ∉ p := fun e => h (List.mem_cons_of_mem _ e)
    rw [List.cons_append, spl, if_neg h1, spl_sep c r h2]
theorem spl_jn (c : Nat) : ∀ {ps : List (List Nat)}, ps ≠ [] → (∀ p ∈ ps, c ∉ p) → spl c (jn c ps) = ps
  | [], h, _ => absurd rfl h
  | [p], _, h => spl_free c (h p List.mem_cons_self)
  | p :: q :: r, _, h => by
    rw [jn_cons c p (by simp), spl_sep c _ (h p List.mem_cons_self), spl_jn c (by simp) fun y hy => h y (List.mem_cons_of_mem _ hy)]
theorem join_l (c : Nat) : ∀ ps : List Str, (Str.join ⟨#[c]⟩ ps).cps.toList = jn c (ps.map fun p => p.cps.toList)
  | [] => rfl
  | [p] => rfl
  | p :: q :: r => by
    show (p ++ ⟨#[c]⟩ ++ Str.join ⟨#[c]⟩ (q :: r)).cps.toList = _
    rw [Str.cps_append, Str.cps_append, Array.toList_append, Array.toList_append, join_l c (q :: r)]
    show (p.cps.toList ++ [c]) ++ jn c ((q :: r).map fun p => p.cps.toList) = _
    rw [List.map_cons (a := p), jn_cons c _ (by simp)]
    simp
theorem split_ne (x : Str) (c : Nat) : Txt.split x ⟨#[c]⟩ ≠ [] := by
  unfold Txt.split
  split
  · simp
  · split
    · simp
    · rw [StrLaws.partsBetween_eq]
      obtain ⟨p, r, e⟩ := StrLaws.partsFrom_ne x (⟨#[c]⟩ : Str).length 0 (Builtin.Str.occurrences x ⟨#[c]⟩ 0 x.length (x.length + 1))
      rw [e]; simp
theorem split_l (x : Str) (c : Nat) : Txt.split x ⟨#[c]⟩ = (spl c x.cps.toList).map mkS := by
  have h1 := StrLaws.join_split x ⟨#[c]⟩
  have h2 := StrLaws.split_free x c
  have h3 := split_ne x c
  have h4 : (Str.join ⟨#[c]⟩ (Txt.split x ⟨#[c]⟩)).cps.toList = x.cps.toList := congrArg (fun s : Str => s.cps.toList) h1
  rw [join_l] at h4
  rw [← h4, spl_jn c (by simpa using h3) (fun p hp => by obtain ⟨q, hq, rfl⟩ := List.mem_map.mp hp; exact h2 q hq), List.map_map]
  have : (mkS ∘ fun p : Str => p.cps.toList) = id := by funext p; exact mkS_of p
  rw [this, List.map_id]
noncomputable def jz (z : List Nat) : List (List Nat) → List Nat
  | [] => []
  | [p] => p
  | p :: q :: r => p ++ z ++ jz z (q :: r)
theorem join_z (z : List Nat) : ∀ ps : List (List Nat), (Str.join (mkS z) (ps.map mkS)).cps.toList = jz z ps
  | [] => rfl
  | [p] => rfl
  | p :: q :: r => by
    show (mkS p ++ mkS z ++ Str.join (mkS z) ((q :: r).map mkS)).cps.toList = _
    rw [Str.cps_append, Str.cps_append, Array.toList_append, Array.toList_append, join_z z (q :: r)]
    rfl
theorem spl_ne (c : Nat) : ∀ l : List Nat, spl c l ≠ []
  | [] => by simp [spl]
  | d :: r => by
    rw [spl]
    split
    · simp
    · split <;> simp
theorem jz_cons (z : List Nat) (p : List Nat) {r : List (List Nat)} (h : r ≠ []) : jz z (p :: r) = p ++ z ++ jz z r := by
  cases r with
  | nil => exact absurd rfl h
  | cons q r => rfl
theorem jz_spl (c : Nat) (z : List Nat) : ∀ l : List Nat, jz z (spl c l) = l.flatMap fun d => if d = c then z else [d]
  | [] => rfl
  | d :: r => by
    rw [spl, List.flatMap_cons, ← jz_spl c z r]
    split
    · rw [jz_cons z [] (spl_ne c r)]; rfl
    · cases e : spl c r with
      | nil => exact absurd e (spl_ne c r)
      | cons p ps =>
        cases ps with
        | nil => rfl
        | cons q ps => rfl
theorem replace_l (x : Str) (c : Nat) (z : List Nat) : (Txt.replace x ⟨#[c]⟩ (mkS z)).cps.toList = x.cps.toList.flatMap fun d => if d = c then z else [d] := by
  rw [StrLaws.replace_one, split_l, join_z, jz_spl]
noncomputable def dg (n : Nat) : List Nat := (Nat.toDigits 10 n).map Char.toNat
theorem dg_lt {n : Nat} (h : n < 10) : dg n = [48 + n] := by
  unfold dg
  rw [Nat.toDigits_of_lt_base h]
  show [(Nat.digitChar n).toNat] = _
  rw [Nat.toNat_digitChar_of_lt_ten h]
theorem dg_ge {n : Nat} (h : 10 ≤ n) : dg n = dg (n / 10) ++ [48 + n % 10] := by
  have hm : n % 10 < 10 := Nat.mod_lt n (by decide)
  have t : Nat.toDigits 10 (n / 10) ++ Nat.toDigits 10 (n % 10) = Nat.toDigits 10 (10 * (n / 10) + n % 10) := Nat.toDigits_append_toDigits (by decide) (by lia) hm
  rw [Nat.div_add_mod] at t
  unfold dg
  rw [← t, List.map_append]
  have := dg_lt hm
  unfold dg at this
  rw [this]
theorem dg_str (n : Nat) : (toString (n : Int) : Str) = mkS (dg n) := str_of (PySem.W.KIN.signs_num n)
theorem dg_rng (n : Nat) : ∀ c ∈ dg n, 48 ≤ c ∧ c ≤ 57 := by
  induction n using Nat.strongRecOn with
  | _ n ih =>
    by_cases h : n < 10
    · rw [dg_lt h]; intro c hc; rw [List.mem_singleton.mp hc]; lia
    · rw [dg_ge (by lia)]
      intro c hc
      rcases List.mem_append.mp hc with hc | hc
      · exact ih (n / 10) (by lia) c hc
      · rw [List.mem_singleton.mp hc]; lia
theorem dg_ne (n : Nat) : dg n ≠ [] := by
  by_cases h : n < 10
  · rw [dg_lt h]; simp
  · rw [dg_ge (by lia)]; simp
theorem dg_head (n : Nat) : ∀ r, dg n = 48 :: r → n = 0 := by
  induction n using Nat.strongRecOn with
  | _ n ih =>
    intro r e
    by_cases h : n < 10
    · rw [dg_lt h] at e; injection e with e1 _; lia
    · rw [dg_ge (by lia)] at e
      cases e2 : dg (n / 10) with
      | nil => exact absurd e2 (dg_ne _)
      | cons d t =>
        rw [e2] at e
        injection e with e3 _
        have := ih (n / 10) (by lia) t (by rw [e2, e3])
        lia
noncomputable def vl (a : Nat) (l : List Nat) : Nat := l.foldl (fun a c => 10 * a + (c - 48)) a
theorem vl_dg (n : Nat) : vl 0 (dg n) = n := by
  induction n using Nat.strongRecOn with
  | _ n ih =>
    by_cases h : n < 10
    · rw [dg_lt h]; show 10 * 0 + (48 + n - 48) = n; lia
    · rw [dg_ge (by lia)]
      unfold vl at ih ⊢
      rw [List.foldl_append, ih (n / 10) (by lia)]
      show 10 * (n / 10) + (48 + n % 10 - 48) = n
      lia
theorem dg_len (n k : Nat) (h : n < 10 ^ (k + 1)) : (dg n).length ≤ k + 1 := by
  induction k generalizing n with
  | zero => rw [dg_lt (by lia)]; simp
  | succ k ih =>
    by_cases h1 : n < 10
    · rw [dg_lt h1]; simp
    · rw [dg_ge (by lia), List.length_append]
      have : n / 10 < 10 ^ (k + 1) := by rw [Nat.div_lt_iff_lt_mul (by decide)]; rw [Nat.pow_succ] at h; exact h
      have := ih (n / 10) this
      simp
      lia
inductive Tm where
  | num (w : Nat) | cell (x : List Nat) | at_ (r : List Nat) (t : Tm) | op (s : Nat) (a b : Tm)
noncomputable def Tm.i : Tm → I
  | .num w => .tup [.str "num", .int w]
  | .cell x => .tup [.str "cell", .str (mkS x)]
  | .at_ r t => .tup [.str "at", .str (mkS r), t.i]
  | .op s a b => .tup [.str "op", .str (mkS [s]), a.i, b.i]
noncomputable def Tm.deep : Tm → Nat
  | .num _ => 1
  | .cell _ => 1
  | .at_ _ t => t.deep + 1
  | .op _ a b => max a.deep b.deep + 1
noncomputable def Tm.size : Tm → Nat
  | .num _ => 1
  | .cell _ => 1
  | .at_ _ t => 1 + t.size
  | .op _ a b => 1 + a.size + b.size
noncomputable def Sgn (s : Nat) : Prop := s = 43 ∨ s = 45 ∨ s = 42 ∨ s = 60 ∨ s = 61
noncomputable def keptL : List Str := ["cell", "row", "def", "main", "set", "put", "while", "if", "else", "call", "end", "at"]
structure Nm (x : List Nat) : Prop where
  lo : 1 ≤ x.length
  hi : x.length ≤ 6
  ab : ∀ c ∈ x, 97 ≤ c ∧ c ≤ 122
  nk : mkS x ∉ keptL
noncomputable def Tm.ok : Tm → Prop
  | .num w => w < 4294967296
  | .cell x => Nm x
  | .at_ r t => Nm r ∧ t.ok
  | .op s a b => Sgn s ∧ a.ok ∧ b.ok
/-- the text -/
noncomputable def Tm.tx : Tm → List Nat
  | .num w => dg w
  | .cell x => x
  | .at_ r t => [40, 97, 116, 32] ++ r ++ [32] ++ t.tx ++ [41]
  | .op s a b => [40] ++ ([s] ++ [32] ++ a.tx ++ [32] ++ b.tx) ++ [41]
/-- the words -/
noncomputable def Tm.tk : Tm → List (List Nat)
  | .num w => [dg w]
  | .cell x => [x]
  | .at_ r t => [[40], [97, 116], r] ++ t.tk ++ [[41]]
  | .op s a b => [[40], [s]] ++ a.tk ++ b.tk ++ [[41]]
theorem Tm.tk_ne : ∀ t : Tm, t.tk ≠ []
  | .num _ => by simp [tk]
  | .cell _ => by simp [tk]
  | .at_ _ _ => by simp [tk]
  | .op _ _ _ => by simp [tk]
noncomputable def gg (d : Nat) : List Nat := if d = 40 then [40, 32] else if d = 41 then [32, 41] else [d]
theorem gg_id : ∀ {l : List Nat}, (∀ c ∈ l, c ≠ 40 ∧ c ≠ 41) → l.flatMap gg = l
  | [], _ => rfl
  | d :: l, h => by
    have h1 := h d List.mem_cons_self
    rw [List.flatMap_cons, gg_id fun c hc => h c (List.mem_cons_of_mem _ hc)]
    unfold gg
    rw [if_neg h1.1, if_neg h1.2]
    rfl
theorem dg_plain (n : Nat) : ∀ c ∈ dg n, c ≠ 40 ∧ c ≠ 41 ∧ c ≠ 32 := fun c hc => by have := dg_rng n c hc; lia
theorem Nm.plain {x : List Nat} (h : Nm x) : ∀ c ∈ x, c ≠ 40 ∧ c ≠ 41 ∧ c ≠ 32 := fun c hc => by have := h.ab c hc; lia
theorem Sgn.plain {s : Nat} (h : Sgn s) : s ≠ 40 ∧ s ≠ 41 ∧ s ≠ 32 := by unfold Sgn at h; lia
theorem Tm.sx : ∀ {t : Tm}, t.ok → t.tx.flatMap gg = jn 32 t.tk
  | .num w, _ => gg_id fun c hc => ⟨(dg_plain w c hc).1, (dg_plain w c hc).2.1⟩
  | .cell x, h => gg_id fun c hc => ⟨(Nm.plain h c hc).1, (Nm.plain h c hc).2.1⟩
  | .at_ r t, h => by
    rw [tx, tk, List.flatMap_append, List.flatMap_append, List.flatMap_append, List.flatMap_append, t.sx h.2, gg_id (l := r) fun c hc => ⟨(h.1.plain c hc).1, (h.1.plain c hc).2.1⟩]
    rw [jn_app 32 (by simp) (by simp), jn_app 32 (by simp) t.tk_ne]
    simp [gg, jn]
  | .op s a b, h => by
    have hs := h.1.plain
    rw [tx, tk, List.flatMap_append, List.flatMap_append, List.flatMap_append, List.flatMap_append, List.flatMap_append, List.flatMap_append, a.sx h.2.1, b.sx h.2.2, gg_id (l := [s]) fun c hc => by rw [List.mem_singleton.mp hc]; exact ⟨hs.1, hs.2.1⟩]
    rw [jn_app 32 (by simp) (by simp), jn_app 32 (by simp) b.tk_ne, jn_app 32 (by simp) a.tk_ne]
    simp [gg, jn]
theorem Tm.tk_free : ∀ {t : Tm}, t.ok → ∀ p ∈ t.tk, (32 : Nat) ∉ p
  | .num w, _, p, hp, hc => by rw [List.mem_singleton.mp hp] at hc; exact (dg_plain w _ hc).2.2 rfl
  | .cell x, h, p, hp, hc => by rw [List.mem_singleton.mp hp] at hc; exact (Nm.plain h _ hc).2.2 rfl
  | .at_ r t, h, p, hp, hc => by
    rw [tk, List.mem_append, List.mem_append] at hp
    rcases hp with (hp | hp) | hp
    · simp only [List.mem_cons, List.not_mem_nil, or_false] at hp
      rcases hp with e | e | e
      · subst e; revert hc; decide
      · subst e; revert hc; decide
      · subst e; exact (h.1.plain _ hc).2.2 rfl
    · exact t.tk_free h.2 p hp hc
    · rw [List.mem_singleton.mp hp] at hc; revert hc; decide
  | .op s a b, h, p, hp, hc => by
    rw [tk, List.mem_append, List.mem_append, List.mem_append] at hp
    rcases hp with ((hp | hp) | hp) | hp
    · simp only [List.mem_cons, List.not_mem_nil, or_false] at hp
      rcases hp with e | e
      · subst e; revert hc; decide
      · subst e; exact h.1.plain.2.2 (List.mem_singleton.mp hc).symm
    · exact a.tk_free h.2.1 p hp hc
    · exact b.tk_free h.2.2 p hp hc
    · rw [List.mem_singleton.mp hp] at hc; revert hc; decide
theorem ff_gg (l : List Nat) : (l.flatMap fun d => if d = 40 then [40, 32] else [d]).flatMap (fun d => if d = 41 then [32, 41] else [d]) = l.flatMap gg := by
  rw [List.flatMap_assoc]
  congr 1
  funext d
  unfold gg
  by_cases h : d = 40
  · subst h; rfl
  · rw [if_neg h, if_neg h]; simp
theorem lit1 : ("(" : Str) = ⟨#[40]⟩ := by decide +kernel
theorem lit2 : ("( " : Str) = mkS [40, 32] := by decide +kernel
theorem lit3 : (")" : Str) = ⟨#[41]⟩ := by decide +kernel
theorem lit4 : (" )" : Str) = mkS [32, 41] := by decide +kernel
theorem lit5 : (" " : Str) = ⟨#[32]⟩ := by decide +kernel
theorem spread_l {t : Tm} (h : t.ok) : Txt.split (Txt.replace (Txt.replace (mkS t.tx) "(" "( ") ")" " )") " " = t.tk.map mkS := by
  rw [lit1, lit2, lit3, lit4, lit5, split_l, replace_l, replace_l, mkS_l, ff_gg, t.sx h, spl_jn 32 t.tk_ne (t.tk_free h)]
theorem Tm.tx_len : ∀ {t : Tm}, t.ok → t.tx.length ≤ 20 * t.size
  | .num w, h => by
    have := dg_len w 9 (Nat.lt_trans h (by decide))
    show (dg w).length ≤ 20 * 1
    lia
  | .cell x, h => by have := Nm.hi h; show x.length ≤ 20 * 1; lia
  | .at_ r t, h => by
    have h1 := t.tx_len h.2
    have h2 := h.1.hi
    simp only [tx, size, List.length_append, List.length_cons, List.length_nil]
    lia
  | .op s a b, h => by
    have h1 := a.tx_len h.2.1
    have h2 := b.tx_len h.2.2
    simp only [tx, size, List.length_append, List.length_cons, List.length_nil]
    lia
theorem Tm.size_le : ∀ t : Tm, t.size + 1 ≤ 2 ^ t.deep
  | .num _ => by simp [size, deep]
  | .cell _ => by simp [size, deep]
  | .at_ _ t => by have := t.size_le; simp only [size, deep, Nat.pow_succ]; lia
  | .op _ a b => by
    have h1 := a.size_le
    have h2 := b.size_le
    have h3 : 2 ^ a.deep ≤ 2 ^ max a.deep b.deep := Nat.pow_le_pow_right (by decide) (Nat.le_max_left _ _)
    have h4 : 2 ^ b.deep ≤ 2 ^ max a.deep b.deep := Nat.pow_le_pow_right (by decide) (Nat.le_max_right _ _)
    simp only [size, deep, Nat.pow_succ]
    lia
theorem Tm.size_six {t : Tm} (h : t.deep ≤ 6) : t.size ≤ 63 := by
  have h1 := t.size_le
  have h2 : 2 ^ t.deep ≤ 2 ^ 6 := Nat.pow_le_pow_right (by decide) h
  lia
end
section
variable {d l : Nat}
theorem at0 {α : Type} (x : α) (r : List α) : atI (x :: r) 0 = some x := atI_nat (j := 0) rfl
theorem at1 {α : Type} (x y : α) (r : List α) : atI (x :: y :: r) 1 = some y := atI_nat (j := 1) rfl
theorem at2 {α : Type} (x y z : α) (r : List α) : atI (x :: y :: z :: r) 2 = some z := atI_nat (j := 2) rfl
theorem at3 {α : Type} (x y z u : α) (r : List α) : atI (x :: y :: z :: u :: r) 3 = some u := atI_nat (j := 3) rfl
theorem word_ok {G : List M} {d l : Nat} (D : DG G d l) : ∃ w G', F__law_word [.im (.ref d)] G = some (.im (.int w), G') ∧ 0 ≤ w ∧ w < 4294967296 ∧ DG G' d l ∧ Oth d l G G' := by
  obtain ⟨r1, G1, e1, p0, p1, D1, o1⟩ := draw_ok (many := 6) D (by decide) (by decide)
  by_cases h : r1 < 4
  · obtain ⟨k, hk, k0, k1⟩ : ∃ k, atI [I.int 2, I.int 5, I.int 5, I.int 10] r1 = some (.int k) ∧ 0 < k ∧ k ≤ 10 := by
      rcases (show r1 = 0 ∨ r1 = 1 ∨ r1 = 2 ∨ r1 = 3 by lia) with z | z | z | z <;> subst z
      · exact ⟨2, at0 _ _, by decide, by decide⟩
      · exact ⟨5, at1 _ _ _, by decide, by decide⟩
      · exact ⟨5, at2 _ _ _ _, by decide, by decide⟩
      · exact ⟨10, at3 _ _ _ _ _, by decide, by decide⟩
    obtain ⟨r2, G2, e2, q0, q1, D2, o2⟩ := draw_ok (many := k) D1 k0 (Int.lt_of_le_of_lt k1 (by decide))
    refine ⟨r2, G2, ?_, q0, by lia, D2, o1.trans o2⟩
    simp_arith [F__law_word, e1, h, hk, e2]
  · obtain ⟨r2, G2, e2, q0, q1, D2, o2⟩ := draw_ok (many := 4294967296) D1 (by decide) (by decide)
    obtain ⟨r3, G3, e3, s0, s1, D3, o3⟩ := draw_ok (many := 3) D2 (by decide) (by decide)
    have o := (o1.trans o2).trans o3
    rcases (show r1 = 4 ∨ r1 = 5 by lia) with z | z <;> subst z
    · exact ⟨r2, G3, by simp_arith [F__law_word, e1, e2, e3, at0], q0, q1, D3, o⟩
    · exact ⟨4294967295 - r3, G3, by simp_arith [F__law_word, e1, e2, e3, at1], by lia, by lia, D3, o⟩
theorem pick_str {xs : List Str} {r : Int} (h0 : 0 ≤ r) (h1 : r < xs.length) : ∃ x, atI (xs.map I.str) r = some (.str x) ∧ x ∈ xs := by
  obtain ⟨j, rfl⟩ := Int.eq_ofNat_of_zero_le h0
  have hj : j < xs.length := by lia
  exact ⟨xs[j], atI_nat (by simp [hj]), List.getElem_mem hj⟩
theorem pick_any {α : Type} {xs : List α} {r : Int} (h0 : 0 ≤ r) (h1 : r < xs.length) : ∃ x, atI xs r = some x ∧ x ∈ xs := by
  obtain ⟨j, rfl⟩ := Int.eq_ofNat_of_zero_le h0
  have hj : j < xs.length := by lia
  exact ⟨xs[j], atI_nat (by simp [hj]), List.getElem_mem hj⟩
noncomputable def LtS (s : Str) : Prop := ∀ c ∈ s.cps.toList, 97 ≤ c ∧ c ≤ 122
theorem LtS.app {a b : Str} (x : LtS a) (y : LtS b) : LtS (a ++ b) := fun c hc => by
  rw [Str.cps_append, Array.toList_append, List.mem_append] at hc
  exact hc.elim (x c) (y c)
theorem abc_lt : ∀ c ∈ ("abcdefghijklmnopqrstuvwxyz" : Str).cps.toList, 97 ≤ c ∧ c ≤ 122 := by decide +kernel
theorem slice_to (x : Str) {a : Nat} (h : a ≤ x.length) : Txt.slice x none (some (a : Int)) = mkS (x.cps.toList.take a) := by
  have := StrLaws.sliceText_to (x := x) (j := a) ⟨by lia, by simp [Str.length] at h ⊢; lia⟩
  rw [show Txt.slice x none (some (a : Int)) = StrLaws.sliceText x none (some (a : Int)) from rfl, this]
  simp [mkS]
theorem slice_from (x : Str) {a : Nat} (h : a ≤ x.length) : Txt.slice x (some (a : Int)) none = mkS (x.cps.toList.drop a) := by
  have := StrLaws.sliceText_from (x := x) (i := a) ⟨by lia, by simp [Str.length] at h ⊢; lia⟩
  rw [show Txt.slice x (some (a : Int)) none = StrLaws.sliceText x (some (a : Int)) none from rfl, this]
  simp [mkS]
  exact List.take_of_length_le (by simp)
theorem joined {m : Nat} {zs : List Str} (h : ∀ z ∈ zs, z.length ≤ m) : (Txt.join "" zs).length ≤ zs.length * m := by
  unfold Txt.join
  rw [StrLaws.glued_eq_join]
  have h1 := StrLaws.join_length_le "" zs
  have h2 : (zs.map (·.length)).sum ≤ zs.length * m := by
    clear h1
    induction zs with
    | nil => simp
    | cons z zs ih =>
      rw [List.map_cons, List.sum_cons, List.length_cons, Nat.add_mul]
      have := h z List.mem_cons_self
      have := ih fun y hy => h y (List.mem_cons_of_mem _ hy)
      lia
  have h3 : ("" : Str).length = 0 := by decide +kernel
  rw [h3, Nat.mul_zero] at h1
  lia
theorem sums {m : Nat} {zs : List Str} (h : ∀ z ∈ zs, z.length ≤ m) : (zs.map (·.length)).sum ≤ zs.length * m := by
  induction zs with
  | nil => simp
  | cons z zs ih =>
    rw [List.map_cons, List.sum_cons, List.length_cons, Nat.add_mul]
    have := h z List.mem_cons_self
    have := ih fun y hy => h y (List.mem_cons_of_mem _ hy)
    lia
theorem letter_ok {r : Int} {δ : De} {G : List M} (h0 : 0 ≤ r) (h1 : r < 26) : ∃ s : Str, ixP [.v (.im (.str "abcdefghijklmnopqrstuvwxyz")), .v (.im (.int r))] δ G = some (.v (.im (.str s)), δ, G) ∧ s.length = 1 ∧ LtS s := by
  obtain ⟨c, hc, hm⟩ := pick_any (xs := ("abcdefghijklmnopqrstuvwxyz" : Str).cps.toList) h0 (by rw [show ("abcdefghijklmnopqrstuvwxyz" : Str).cps.toList.length = 26 by decide +kernel]; exact h1)
  refine ⟨⟨#[c]⟩, ?_, rfl, fun e he => by rw [show e = c by simpa using he]; exact abc_lt c hm⟩
  have hl : ("abcdefghijklmnopqrstuvwxyz" : Str).length ≤ 1000000 := by rw [show ("abcdefghijklmnopqrstuvwxyz" : Str).length = 26 by decide +kernel]; lia
  generalize ("abcdefghijklmnopqrstuvwxyz" : Str) = z at hc hl ⊢
  simp [ixP, orP, ixS, sq, pk, hc, hl]
theorem core_ok {G : List M} {N : Nat} {δ : De} (D : DG G d l) : ∃ (zs : List Str) (G' : List M), cTurns (upW N) c1 yesF (opF ixP (varF 1) (bd (consF (varF 2) (consF (conF (.int 26)) nilF)) (callP 2 F__law_draw))) [some (.im (.str "abcdefghijklmnopqrstuvwxyz")), some (.im (.ref d))] 0 N [] δ G = some (zs.map I.str, G') ∧ zs.length = N ∧ (∀ z ∈ zs, z.length = 1 ∧ LtS z) ∧ DG G' d l ∧ Oth d l G G' := by
  obtain ⟨ds, G', e, zs, ed, lz, hz, D', o⟩ := cT_inv (w := upW N) (c := c1) (tt := yesF) (te := opF ixP (varF 1) (bd (consF (varF 2) (consF (conF (.int 26)) nilF)) (callP 2 F__law_draw))) (di := [some (.im (.str "abcdefghijklmnopqrstuvwxyz")), some (.im (.ref d))]) (δ := δ)
    (fun i acc G' => ∃ zs : List Str, acc = zs.map I.str ∧ zs.length = i ∧ (∀ z ∈ zs, z.length = 1 ∧ LtS z) ∧ DG G' d l ∧ Oth d l G G')
    (fun i acc g hi zz => by
      obtain ⟨zs, ea, lz, hz, D, o⟩ := zz
      obtain ⟨r, g1, e1, p0, p1, D1, o1⟩ := draw_ok (many := 26) D (by decide) (by decide)
      obtain ⟨s, es, ls⟩ := letter_ok (δ := [some (.im (.int i)), some (.im (.str "abcdefghijklmnopqrstuvwxyz")), some (.im (.ref d))]) (G := g1) p0 p1
      refine ⟨.int i, [.int i], _, _, .str s, [some (.im (.int i)), some (.im (.str "abcdefghijklmnopqrstuvwxyz")), some (.im (.ref d))], g1, rfl, rfl, rfl, ?_, zs ++ [s], by rw [ea, List.map_append]; rfl, by rw [List.length_append, lz]; rfl, fun z hm => ?_, D1, o.trans o1⟩
      · exact op_go rfl (bd_go (a := [.v (.im (.ref d)), .v (.im (.int 26))]) rfl (call_go (xs := [.im (.ref d), .im (.int 26)]) rfl rfl e1)) es
      · rcases List.mem_append.mp hm with q | q
        · exact hz z q
        · have : z = s := by simpa using q
          subst this; exact ls)
    (fun _ _ _ => rfl) N 0 [] G (by rw [upW_n]; lia) ⟨[], rfl, rfl, fun _ h => (by cases h), D, Oth.refl _ _ _⟩
  exact ⟨zs, G', by rw [ed] at e; exact e, lz, hz, D', o⟩
theorem str_e : ("" : Str).length = 0 := by decide +kernel
theorem str_z : ("z" : Str).length = 1 := by decide +kernel
theorem z_lt : LtS ("z" : Str) := by unfold LtS; decide +kernel
theorem e_lt : LtS ("" : Str) := by unfold LtS; decide +kernel
theorem join_lt {zs : List Str} (h : ∀ z ∈ zs, z.length = 1 ∧ LtS z) : LtS (Txt.join "" zs) := by
  unfold Txt.join
  rw [StrLaws.glued_eq_join]
  induction zs with
  | nil => exact fun c hc => by cases hc
  | cons z zs ih =>
    have h1 := (h z List.mem_cons_self).2
    have h2 := ih fun y hy => h y (List.mem_cons_of_mem _ hy)
    cases zs with
    | nil => exact h1
    | cons y r => exact (h1.app e_lt).app h2
structure Nm0 (y : Str) : Prop where
  lo : 1 ≤ y.length
  hi : y.length ≤ 6
  lt : LtS y
theorem name_turn {G : List M} {core : Str} {a : Nat} {t : Int} {ys : List Str} {v1 v8 v9 v10 v11 : Option Vl} {v0 : Option Vl} {i : Nat} (hc : core.length ≤ 4) (hlt : LtS core) (ha : a ≤ core.length) (h0 : 0 ≤ t) (hl : ys.length ≤ 1000) :
    ∃ (y : Str) (v8' : Option Vl), F__law_names_w1b [v0, v1, some (.im (.str "abcdefghijklmnopqrstuvwxyz")), some (.im (.str core)), some (.im (.int a)), some (.im (.int t)), some (.ow (.lst (ys.map I.str))), some (.im (.int i)), v8, v9, v10, v11] G = some (.nx [v0, v1, some (.im (.str "abcdefghijklmnopqrstuvwxyz")), some (.im (.str core)), some (.im (.int a)), some (.im (.int t)), some (.ow (.lst ((ys ++ [y]).map I.str))), some (.im (.int i)), v8', v9, v10, v11] G) ∧ Nm0 y := by
  have r0 : 0 ≤ (t + 7 * (i : Int)) % 26 := Int.emod_nonneg _ (by decide)
  have r1 : (t + 7 * (i : Int)) % 26 < 26 := Int.emod_lt_of_pos _ (by decide)
  obtain ⟨s, es, ls, lts⟩ := letter_ok (δ := [v0, v1, some (.im (.str "abcdefghijklmnopqrstuvwxyz")), some (.im (.str core)), some (.im (.int a)), some (.im (.int t)), some (.ow (.lst (ys.map I.str))), some (.im (.int i)), v8, v9, v10, v11]) (G := G) r0 r1
  obtain ⟨e, ee, le, lte⟩ : ∃ e : Str, atI [I.str "", I.str "z"] ((i : Int) % 5 / 4) = some (.str e) ∧ e.length ≤ 1 ∧ LtS e := by
    rcases (show (i : Int) % 5 / 4 = 0 ∨ (i : Int) % 5 / 4 = 1 by lia) with z | z <;> rw [z]
    · exact ⟨_, at0 _ _, by rw [str_e]; lia, e_lt⟩
    · exact ⟨_, at1 _ _ _, by rw [str_z]; lia, z_lt⟩
  have ap : ∀ x y : Str, (x ++ y).length = x.length + y.length := fun x y => strLen_append x y
  have hcl : core.cps.toList.length = core.length := by simp [Str.length]
  have s1 := slice_to core ha
  have s2 := slice_from core ha
  have l1 : (Txt.slice core none (some (a : Int))).length = a := by rw [s1, mkS_len, List.length_take, hcl]; lia
  have l2 : (Txt.slice core (some (a : Int)) none).length = core.length - a := by rw [s2, mkS_len, List.length_drop, hcl]
  have t1 : LtS (Txt.slice core none (some (a : Int))) := fun c hc => by rw [s1, mkS_l] at hc; exact hlt c (List.mem_of_mem_take hc)
  have t2 : LtS (Txt.slice core (some (a : Int)) none) := fun c hc => by rw [s2, mkS_l] at hc; exact hlt c (List.mem_of_mem_drop hc)
  have hc' : core.length ≤ 1000000 := by lia
  have c1 : s.length + (Txt.slice core (some (a : Int)) none).length ≤ 1000000 := by lia
  have c2 : (Txt.slice core none (some (a : Int))).length + (s ++ Txt.slice core (some (a : Int)) none).length ≤ 1000000 := by rw [ap]; lia
  have c3 : (Txt.slice core none (some (a : Int)) ++ (s ++ Txt.slice core (some (a : Int)) none)).length + e.length ≤ 1000000 := by rw [ap, ap]; lia
  have hn : ys.length < 1000000 := by lia
  refine ⟨Txt.slice core none (some (a : Int)) ++ (s ++ Txt.slice core (some (a : Int)) none) ++ e, some (.im (.str (s ++ Txt.slice core (some (a : Int)) none))), ?_, by rw [ap, ap, ap]; lia, by rw [ap, ap, ap]; lia, (t1.app (lts.app t2)).app lte⟩
  refine seq_go (asg_go (x := .im (.str (s ++ Txt.slice core (some (a : Int)) none))) (δ1 := [v0, v1, some (.im (.str "abcdefghijklmnopqrstuvwxyz")), some (.im (.str core)), some (.im (.int a)), some (.im (.int t)), some (.ow (.lst (ys.map I.str))), some (.im (.int i)), v8, v9, v10, v11]) (G1 := G) (op_go (x := .v (.im (.str s))) (δ1 := [v0, v1, some (.im (.str "abcdefghijklmnopqrstuvwxyz")), some (.im (.str core)), some (.im (.int a)), some (.im (.int t)), some (.ow (.lst (ys.map I.str))), some (.im (.int i)), v8, v9, v10, v11]) (G1 := G) (op_go rfl (r := some (.v (.im (.str s)), _, G)) (y := .v (.im (.int ((t + 7 * (i : Int)) % 26)))) (by simp_arith []) es) (y := .v (.im (.str (Txt.slice core (some (a : Int)) none)))) (δ2 := [v0, v1, some (.im (.str "abcdefghijklmnopqrstuvwxyz")), some (.im (.str core)), some (.im (.int a)), some (.im (.int t)), some (.ow (.lst (ys.map I.str))), some (.im (.int i)), v8, v9, v10, v11]) (G2 := G) (by simp_arith [sliF, somePt, noPt, ptE, sliQ, hc']) (by simp [addP, orP, addI, intP, catS, c1])) rfl) ?_
  simp_arith [sliF, somePt, noPt, ptE, sliQ, catS, hc', c1, c2, c3, ee, hn]
end
section
variable {d l : Nat}
noncomputable def NmS (y : Str) : Prop := Nm y.cps.toList
noncomputable def nmB (z : Str) : Bool := decide (1 ≤ z.length) && decide (z.length ≤ 6) && z.cps.toList.all (fun c => decide (97 ≤ c) && decide (c ≤ 122)) && !(keptL.contains z)
theorem nmB_of {z : Str} (h : nmB z = true) : NmS z := by
  unfold nmB at h
  rw [Bool.and_eq_true, Bool.and_eq_true, Bool.and_eq_true, List.all_eq_true, decide_eq_true_eq, decide_eq_true_eq] at h
  obtain ⟨⟨⟨h1, h2⟩, h3⟩, h4⟩ := h
  refine ⟨by simpa [Str.length] using h1, by simpa [Str.length] using h2, fun c hc => by simpa using h3 c hc, fun hm => ?_⟩
  rw [mkS_of] at hm
  rw [List.contains_iff_mem.mpr hm] at h4
  cases h4
theorem kept_q : ∀ y ∈ keptL, nmB (y ++ Txt.mul "q" 1) = true := by decide +kernel
theorem spare_nm : ∀ y ∈ ([("cells" : Str), "de", "mains", "setx", "ends", "atx", "i", "calls"] : List Str), nmB y = true := by decide +kernel
theorem mul0 : Txt.mul "q" 0 = Str.empty := by decide +kernel
theorem Nm0.nm {y : Str} (h : Nm0 y) (hk : y ∉ keptL) : NmS y := ⟨by simpa [Str.length] using h.lo, by simpa [Str.length] using h.hi, h.lt, by rw [mkS_of]; exact hk⟩
noncomputable def keptI : List I := [.str "cell", .str "row", .str "def", .str "main", .str "set", .str "put", .str "while", .str "if", .str "else", .str "call", .str "end", .str "at"]
noncomputable def spareI : List I := [.str "cells", .str "de", .str "mains", .str "setx", .str "ends", .str "atx", .str "i", .str "calls"]
theorem kept_fl : keptI.all flI = true := rfl
theorem q_len : ("q" : Str).length ≤ 1000 := by decide +kernel
theorem q_mul0 : (Txt.mul "q" 0).length ≤ 1 := by decide +kernel
theorem q_mul1 : (Txt.mul "q" 1).length ≤ 1 := by decide +kernel
theorem kept_any (y : Str) : (keptI.any fun z => eqFl z (.str y)) = keptL.contains y := by
  have : keptI = keptL.map I.str := rfl
  rw [this, List.any_map]
  induction keptL with
  | nil => rfl
  | cons k ks ih =>
    rw [List.any_cons, ih, List.contains_cons]
    show ((k == y) || _) = _
    rw [Bool.beq_comm]
theorem qq_ok {y : Str} {G : List M} (hy : Nm0 y) : ∃ z : Str, opF addP (varF 0) (opF mulP (conF (.str "q")) (bd (consF (opF inP (varF 0) (varF 1)) nilF) int1P)) [some (.im (.str y)), some (.im (.tup keptI))] G = some (.v (.im (.str z)), [some (.im (.str y)), some (.im (.tup keptI))], G) ∧ NmS z := by
  have hlen := hy.hi
  obtain ⟨b, hb, eb⟩ : ∃ b, b = keptL.contains y ∧ opF inP (varF 0) (varF 1) [some (.im (.str y)), some (.im (.tup keptI))] G = some (.v (.im (.bl b)), [some (.im (.str y)), some (.im (.tup keptI))], G) := by
    refine ⟨_, (kept_any y), op_go rfl rfl ?_⟩
    have h : (flI (.str y) && keptI.all flI) = true := by rw [kept_fl]; rfl
    simp [inP, orP, inL, sq, h]
  have e1 : bd (consF (opF inP (varF 0) (varF 1)) nilF) int1P [some (.im (.str y)), some (.im (.tup keptI))] G = some (.v (.im (.int (if b then 1 else 0))), [some (.im (.str y)), some (.im (.tup keptI))], G) := bd_go (bd_go eb rfl) rfl
  obtain ⟨j, hj, hl, hnm⟩ : ∃ j : Int, (if b then (1 : Int) else 0) = j ∧ ((0 ≤ j ∧ j ≤ 1000) ∧ (Txt.mul "q" j).length ≤ 1) ∧ NmS (y ++ Txt.mul "q" j) := by
    cases b
    · refine ⟨0, rfl, ⟨⟨by decide, by decide⟩, q_mul0⟩, ?_⟩
      rw [mul0, Str.append_empty]
      exact hy.nm fun hm => by rw [List.contains_iff_mem.mpr hm] at hb; cases hb
    · exact ⟨1, rfl, ⟨⟨by decide, by decide⟩, q_mul1⟩, nmB_of (kept_q y (List.contains_iff_mem.mp hb.symm))⟩
  rw [hj] at e1
  have e2 : opF mulP (conF (.str "q")) (bd (consF (opF inP (varF 0) (varF 1)) nilF) int1P) [some (.im (.str y)), some (.im (.tup keptI))] G = some (.v (.im (.str (Txt.mul "q" j))), [some (.im (.str y)), some (.im (.tup keptI))], G) := by
    refine op_go rfl e1 ?_
    have q := q_len
    generalize ("q" : Str) = qs at q ⊢
    simp [mulP, orP, mulI, intP, repL, repS, pk, hl.1.1, hl.1.2, q]
  refine ⟨y ++ Txt.mul "q" j, op_go rfl e2 ?_, hnm⟩
  have hs : y.length + (Txt.mul "q" j).length ≤ 1000000 := by lia
  generalize Txt.mul "q" j = zz at hs
  simp [addP, orP, addI, intP, catS, hs]
theorem names_for {G : List M} {core : Str} {a : Nat} {t : Int} {v0 v1 v7 v8 v9 v10 v11 : Option Vl} {N : Nat} (hc : core.length ≤ 4) (hlt : LtS core) (ha : a ≤ core.length) (h0 : 0 ≤ t) (hN : N ≤ 1000) :
    ∃ (ys : List Str) (v7' v8' : Option Vl), fTurns (upW N) (gNm 7) F__law_names_w1b 0 N [v0, v1, some (.im (.str "abcdefghijklmnopqrstuvwxyz")), some (.im (.str core)), some (.im (.int a)), some (.im (.int t)), some (.ow (.lst [])), v7, v8, v9, v10, v11] G = some (.nx [v0, v1, some (.im (.str "abcdefghijklmnopqrstuvwxyz")), some (.im (.str core)), some (.im (.int a)), some (.im (.int t)), some (.ow (.lst (ys.map I.str))), v7', v8', v9, v10, v11] G) ∧ ys.length = N ∧ ∀ y ∈ ys, Nm0 y := by
  obtain ⟨δ', G', e, ys, v7', v8', ed, ly, hy, eg⟩ := fT_inv (w := upW N) (g := gNm 7) (b := F__law_names_w1b) (fun i δ G' => ∃ (ys : List Str) (v7 v8 : Option Vl), δ = [v0, v1, some (.im (.str "abcdefghijklmnopqrstuvwxyz")), some (.im (.str core)), some (.im (.int a)), some (.im (.int t)), some (.ow (.lst (ys.map I.str))), v7, v8, v9, v10, v11] ∧ ys.length = i ∧ (∀ y ∈ ys, Nm0 y) ∧ G' = G)
    (fun i δ g hi p => by
      obtain ⟨ys, v7, v8, rfl, ly, hy, rfl⟩ := p
      have hi : i < N := hi
      obtain ⟨y, v8', e, h⟩ := name_turn (G := g) (core := core) (a := a) (t := t) (ys := ys) (v0 := v0) (v1 := v1) (v8 := v8) (v9 := v9) (v10 := v10) (v11 := v11) (i := i) hc hlt ha h0 (by lia)
      refine ⟨.int i, _, g, _, g, rfl, rfl, e, ys ++ [y], _, _, rfl, by rw [List.length_append, ly]; rfl, fun z hz => ?_, rfl⟩
      rcases List.mem_append.mp hz with q | q
      · exact hy z q
      · have : z = y := by simpa using q
        subst this; exact h)
    (fun δ g p => rfl) N 0 [v0, v1, some (.im (.str "abcdefghijklmnopqrstuvwxyz")), some (.im (.str core)), some (.im (.int a)), some (.im (.int t)), some (.ow (.lst [])), v7, v8, v9, v10, v11] G (by rw [upW_n]; lia) ⟨[], _, _, rfl, rfl, fun _ h => (by cases h), rfl⟩
  exact ⟨ys, v7', v8', by rw [ed, eg] at e; exact e, ly, hy⟩
theorem names_comp {G : List M} {ys : List Str} {δ : De} {k : Nat} (hk : G[k]? = some (.lst (ys.map I.str))) (hy : ∀ y ∈ ys, Nm0 y) :
    ∃ zs : List Str, cTurns (lsW (.v (.im (.ref k))) ys.length) c1 yesF (opF addP (varF 0) (opF mulP (conF (.str "q")) (bd (consF (opF inP (varF 0) (varF 1)) nilF) int1P))) [some (.im (.tup keptI))] 0 ys.length [] δ G = some (zs.map I.str, G) ∧ zs.length = ys.length ∧ ∀ z ∈ zs, NmS z := by
  obtain ⟨ds, G', e, zs, ed, lz, hz, eg⟩ := cT_inv (w := lsW (.v (.im (.ref k))) ys.length) (c := c1) (tt := yesF) (te := opF addP (varF 0) (opF mulP (conF (.str "q")) (bd (consF (opF inP (varF 0) (varF 1)) nilF) int1P))) (di := [some (.im (.tup keptI))]) (δ := δ)
    (fun i acc G' => ∃ zs : List Str, acc = zs.map I.str ∧ zs.length = i ∧ (∀ z ∈ zs, NmS z) ∧ G' = G)
    (fun i acc g hi zz => by
      obtain ⟨zs, ea, lz, hz, eg⟩ := zz
      have hi : i < ys.length := hi
      subst eg
      obtain ⟨z, ez, hzz⟩ := qq_ok (G := g) (y := ys[i]) (hy ys[i] (List.getElem_mem hi))
      refine ⟨.str ys[i], [.str ys[i]], _, _, .str z, _, g, ?_, rfl, rfl, ez, zs ++ [z], by rw [ea, List.map_append]; rfl, by rw [List.length_append, lz]; rfl, (fun y hm => by rcases List.mem_append.mp hm with q | q; exact hz y q; rw [show y = z by simpa using q]; exact hzz), rfl⟩
      simp [lsW, sq, pk, hk, hi])
    (fun _ _ p => by obtain ⟨_, _, _, _, rfl⟩ := p; simp [lsW, sq, pk, hk]) ys.length 0 [] G (by simp [lsW]) ⟨[], rfl, rfl, fun _ h => (by cases h), rfl⟩
  exact ⟨zs, by rw [ed, eg] at e; exact e, lz, hz⟩
theorem bs_go {p : List Ev → Mo Ev} {fo : Mo Ev} {fa : Mo (List Ev)} {δ δ1 δ2 : De} {G G1 G2 : List M} {e : Ev} {es : List Ev} {r : Option (Ev × De × List M)} (h : fo δ G = some (e, δ1, G1)) (hs : isS e = true) (ha : fa δ1 G1 = some (es, δ2, G2)) (k : p (e :: es) δ2 G2 = r) : bsF p fo fa δ G = r := by
  unfold bsF bd; rw [h]; dsimp only; rw [if_pos hs, ha]; exact k
theorem ixN_of {n j : Nat} (h : j < n) : ixN n (j : Int) = some j := by
  unfold ixN
  rw [if_pos (by lia)]
  first | (rw [if_pos (by lia)]; simp) | simp [h]
noncomputable abbrev abc : Str := "abcdefghijklmnopqrstuvwxyz"
theorem strs_fl (zs : List Str) : (zs.map I.str).all flI = true := by
  induction zs with
  | nil => rfl
  | cons z zs ih => rw [List.map_cons, List.all_cons, ih]; rfl
theorem names_ok {G : List M} (D : DG G d l) : ∃ (ys : List Str) (G' : List M), F__law_names [.im (.ref d), .im (.int 24)] G = some (.ow (.lst (ys.map I.str)), G') ∧ ys.length = 24 ∧ (∀ y ∈ ys, NmS y) ∧ DG G' d l ∧ Mor d l G G' := by
  obtain ⟨r1, G1, e1, p0, p1, D1, o1⟩ := draw_ok (many := 5) D (by decide) (by decide)
  obtain ⟨N, hN⟩ := Int.eq_ofNat_of_zero_le p0
  obtain ⟨zs, G2, e2, lz, hz, D2, o2⟩ := core_ok (N := N) (δ := [some (.im (.ref d)), some (.im (.int 24)), some (.im (.str abc)), none, none, none, none, none, none, none, none, none]) D1
  have jl := joined (m := 1) fun z hm => Nat.le_of_eq (hz z hm).1
  have sl := sums (m := 1) fun z hm => Nat.le_of_eq (hz z hm).1
  have jt := join_lt hz
  obtain ⟨core, hcore⟩ : ∃ core, core = Txt.join "" zs := ⟨_, rfl⟩
  rw [← hcore] at jl jt
  have hc : core.length ≤ 4 := by lia
  obtain ⟨r3, G3, e3, u3, w3, D3, o3⟩ := draw_ok (many := (core.length : Int) + 1) D2 (by lia) (by lia)
  obtain ⟨a, rfl⟩ := Int.eq_ofNat_of_zero_le u3
  have ha : a ≤ core.length := by lia
  obtain ⟨r4, G4, e4, q0, q1, D4, o4⟩ := draw_ok (many := 26) D3 (by decide) (by decide)
  obtain ⟨ys, v7, v8, e5, ly, hy⟩ := names_for (G := G4) (core := core) (a := a) (t := r4) (v0 := some (.im (.ref d))) (v1 := some (.im (.int 24))) (v7 := none) (v8 := none) (v9 := none) (v10 := none) (v11 := none) (N := 24) hc jt ha q0 (by decide)
  have hk : (G4 ++ [M.lst (ys.map I.str)])[G4.length]? = some (.lst (ys.map I.str)) := by simp
  have D5 := D4.app [M.lst (ys.map I.str)]
  obtain ⟨ws, e6, lw, hw⟩ := names_comp (δ := [some (.im (.ref d)), some (.im (.int 24)), some (.im (.str abc)), some (.im (.str core)), some (.im (.int (a : Int))), some (.im (.int r4)), some (.im (.ref G4.length)), v7, v8, some (.ow (.lst spareI)), some (.im (.tup keptI)), none]) hk hy
  obtain ⟨r7, G7, e7, u0, u1, D7, o7⟩ := draw_ok (many := 8) D5 (by decide) (by decide)
  obtain ⟨nm, en, hnm⟩ : ∃ nm : Str, atI spareI r7 = some (.str nm) ∧ NmS nm := by
    have : spareI = [("cells" : Str), "de", "mains", "setx", "ends", "atx", "i", "calls"].map I.str := rfl
    rw [this]
    obtain ⟨x, hx, hm⟩ := pick_str (xs := [("cells" : Str), "de", "mains", "setx", "ends", "atx", "i", "calls"]) u0 u1
    exact ⟨x, hx, nmB_of (spare_nm x hm)⟩
  obtain ⟨r8, G8, e8, _, _, D8, o8⟩ := draw_ok (many := 3) D7 (by decide) (by decide)
  have mo : Mor d l G G8 := ((((((o1.trans o2).trans o3).trans o4).mor).trans (Mor.app _)).trans (o7.trans o8).mor)
  -- all but the last choice
  have head : ∀ {z : Vl} {G' : List M}, seqF (iteF' (andF (tstF (opF eqP (bd (consF (varF 0) (consF (conF (.int 3)) nilF)) (callP 2 F__law_draw)) (conF (.int 1)))) (tstF (opF ninP (varF 11) (varF 6))))
      (putF' (varF 6) (bd (consF (varF 0) (consF (varF 1) nilF)) (callP 2 F__law_draw)) (varF 11)) skipF) (retF (varF 6))
      [some (.im (.ref d)), some (.im (.int 24)), some (.im (.str abc)), some (.im (.str core)), some (.im (.int (a : Int))), some (.im (.int r4)), some (.ow (.lst (ws.map I.str))), v7, v8, some (.ow (.lst spareI)), some (.im (.tup keptI)), some (.im (.str nm))] G7 = some (.rt z G') → F__law_names [.im (.ref d), .im (.int 24)] G = some (z, G') := by
    intro z G' hq
    refine run_rt rfl ?_
    refine seq_go (asg_go (x := .im (.str abc)) (δ1 := [some (.im (.ref d)), some (.im (.int 24)), none, none, none, none, none, none, none, none, none, none]) (G1 := G) rfl rfl) ?_
    refine seq_go (asg_go (x := .im (.str core)) (δ1 := [some (.im (.ref d)), some (.im (.int 24)), some (.im (.str abc)), none, none, none, none, none, none, none, none, none]) (G1 := G2) ?_ rfl) ?_
    · refine bs_go (e := .v (.im (.str ""))) (δ1 := [some (.im (.ref d)), some (.im (.int 24)), some (.im (.str abc)), none, none, none, none, none, none, none, none, none]) (G1 := G) rfl rfl (bd_go (comp_go (by rfl) (rng_it (n := N) (j := r1) (δ1 := [some (.im (.ref d)), some (.im (.int 24)), some (.im (.str abc)), none, none, none, none, none, none, none, none, none]) (G1 := G1) (by simp_arith [e1]) hN (by lia)) (by rw [upW_n]; lia) e2) rfl) ?_
      have h1 : (zs.map (·.length)).sum + zs.length * ("" : Str).length ≤ 1000000 := by rw [str_e]; lia
      rw [hcore]
      simp [join1P, pk, strsI_map, h1]
    refine seq_go (asg_go (x := .im (.int (a : Int))) (δ1 := [some (.im (.ref d)), some (.im (.int 24)), some (.im (.str abc)), some (.im (.str core)), none, none, none, none, none, none, none, none]) (G1 := G3) ?_ rfl) ?_
    · have h1 : core.length ≤ 1000000 := by lia
      simp_arith [h1, e3]
    refine seq_go (asg_go (x := .im (.int r4)) (δ1 := [some (.im (.ref d)), some (.im (.int 24)), some (.im (.str abc)), some (.im (.str core)), some (.im (.int (a : Int))), none, none, none, none, none, none, none]) (G1 := G4) (by simp_arith [e4]) rfl) ?_
    refine seq_go (asg_go (x := .ow (.lst [])) (δ1 := [some (.im (.ref d)), some (.im (.int 24)), some (.im (.str abc)), some (.im (.str core)), some (.im (.int (a : Int))), some (.im (.int r4)), none, none, none, none, none, none]) (G1 := G4) (by simp_arith []) rfl) ?_
    refine seq_go (for_go (rng_it (n := 24) (j := 24) (δ1 := [some (.im (.ref d)), some (.im (.int 24)), some (.im (.str abc)), some (.im (.str core)), some (.im (.int (a : Int))), some (.im (.int r4)), some (.ow (.lst [])), none, none, none, none, none]) (G1 := G4) rfl rfl (by decide)) e5) ?_
    refine seq_go (asg_go (x := .ow (.lst spareI)) (δ1 := [some (.im (.ref d)), some (.im (.int 24)), some (.im (.str abc)), some (.im (.str core)), some (.im (.int (a : Int))), some (.im (.int r4)), some (.ow (.lst (ys.map I.str))), v7, v8, none, none, none]) (G1 := G4) rfl rfl) ?_
    refine seq_go (asg_go (x := .im (.tup keptI)) (δ1 := [some (.im (.ref d)), some (.im (.int 24)), some (.im (.str abc)), some (.im (.str core)), some (.im (.int (a : Int))), some (.im (.int r4)), some (.ow (.lst (ys.map I.str))), v7, v8, some (.ow (.lst spareI)), none, none]) (G1 := G4) rfl rfl) ?_
    refine seq_go (asg_go (x := .ow (.lst (ws.map I.str))) (δ1 := [some (.im (.ref d)), some (.im (.int 24)), some (.im (.str abc)), some (.im (.str core)), some (.im (.int (a : Int))), some (.im (.int r4)), some (.im (.ref G4.length)), v7, v8, some (.ow (.lst spareI)), some (.im (.tup keptI)), none]) (G1 := G4 ++ [M.lst (ys.map I.str)]) ?_ rfl) ?_
    · exact comp_go (by rfl) (seq_it (e := .v (.im (.ref G4.length))) (n := ys.length) (δ1 := [some (.im (.ref d)), some (.im (.int 24)), some (.im (.str abc)), some (.im (.str core)), some (.im (.int (a : Int))), some (.im (.int r4)), some (.im (.ref G4.length)), v7, v8, some (.ow (.lst spareI)), some (.im (.tup keptI)), none]) (G1 := G4 ++ [M.lst (ys.map I.str)]) (xs := ys.map I.str) (by simp_arith []) rfl (by simp [sq, pk]) (by simp)) (by show ys.length ≤ 100000; lia) e6
    refine seq_go (asg_go (x := .im (.str nm)) (δ1 := [some (.im (.ref d)), some (.im (.int 24)), some (.im (.str abc)), some (.im (.str core)), some (.im (.int (a : Int))), some (.im (.int r4)), some (.ow (.lst (ws.map I.str))), v7, v8, some (.ow (.lst spareI)), some (.im (.tup keptI)), none]) (G1 := G7) ?_ rfl) hq
    simp_arith [e7, en]
  by_cases h8 : r8 = 1
  · subst h8
    obtain ⟨b, hb⟩ : ∃ b, b = !((ws.map I.str).any fun y => eqFl y (.str nm)) := ⟨_, rfl⟩
    have et : andF (tstF (opF eqP (bd (consF (varF 0) (consF (conF (.int 3)) nilF)) (callP 2 F__law_draw)) (conF (.int 1)))) (tstF (opF ninP (varF 11) (varF 6))) [some (.im (.ref d)), some (.im (.int 24)), some (.im (.str abc)), some (.im (.str core)), some (.im (.int (a : Int))), some (.im (.int r4)), some (.ow (.lst (ws.map I.str))), v7, v8, some (.ow (.lst spareI)), some (.im (.tup keptI)), some (.im (.str nm))] G7 = some (b, [some (.im (.ref d)), some (.im (.int 24)), some (.im (.str abc)), some (.im (.str core)), some (.im (.int (a : Int))), some (.im (.int r4)), some (.ow (.lst (ws.map I.str))), v7, v8, some (.ow (.lst spareI)), some (.im (.tup keptI)), some (.im (.str nm))], G8) := by
      refine and_t (δ1 := [some (.im (.ref d)), some (.im (.int 24)), some (.im (.str abc)), some (.im (.str core)), some (.im (.int (a : Int))), some (.im (.int r4)), some (.ow (.lst (ws.map I.str))), v7, v8, some (.ow (.lst spareI)), some (.im (.tup keptI)), some (.im (.str nm))]) (G1 := G8) (by simp_arith [e8]) (tst_go (op_go rfl rfl ?_))
      have h : (flI (.str nm) && (ws.map I.str).all flI) = true := by rw [strs_fl]; rfl
      rw [hb]
      unfold ninP orP inL
      dsimp only
      rw [show sq [some (.im (.ref d)), some (.im (.int 24)), some (.im (.str abc)), some (.im (.str core)), some (.im (.int (a : Int))), some (.im (.int r4)), some (.ow (.lst (ws.map I.str))), v7, v8, some (.ow (.lst spareI)), some (.im (.tup keptI)), some (.im (.str nm))] G8 (.s 6) = some (ws.map I.str) from rfl]
      dsimp only
      rw [if_pos h]
      rfl
    cases b with
    | false => exact ⟨ws, G8, head (seq_go (ite_f et rfl) rfl), by lia, hw, D8, mo⟩
    | true =>
      obtain ⟨r9, G9, e9, w0, w1, D9, o9⟩ := draw_ok (many := 24) D8 (by decide) (by decide)
      obtain ⟨j, rfl⟩ := Int.eq_ofNat_of_zero_le w0
      have hj : ixN ws.length (j : Int) = some j := ixN_of (by lia)
      refine ⟨ws.set j nm, G9, head (seq_go (δ1 := [some (.im (.ref d)), some (.im (.int 24)), some (.im (.str abc)), some (.im (.str core)), some (.im (.int (a : Int))), some (.im (.int r4)), some (.ow (.lst ((ws.set j nm).map I.str))), v7, v8, some (.ow (.lst spareI)), some (.im (.tup keptI)), some (.im (.str nm))]) (G1 := G9) (ite_t et ?_) rfl), by rw [List.length_set]; lia, (fun y hy => by rcases List.mem_or_eq_of_mem_set hy with q | q; exact hw y q; rw [q]; exact hnm), D9, mo.trans o9.mor⟩
      simp_arith [e9, hj, List.map_set]
  · have h8b : (r8 == 1) = false := beq_eq_false_iff_ne.mpr h8
    refine ⟨ws, G8, head (seq_go (ite_f (δ1 := [some (.im (.ref d)), some (.im (.int 24)), some (.im (.str abc)), some (.im (.str core)), some (.im (.int (a : Int))), some (.im (.int r4)), some (.ow (.lst (ws.map I.str))), v7, v8, some (.ow (.lst spareI)), some (.im (.tup keptI)), some (.im (.str nm))]) (G1 := G8) (and_f (by simp_arith [e8, h8b])) rfl) rfl), by lia, hw, D8, mo⟩
end
section
variable {d l w rm : Nat} {ys : List Str}
structure Sn (G : List M) (d l w rm : Nat) (ys : List Str) : Prop where
  D : DG G d l
  hw : G[w]? = some (.lst (ys.map I.str))
  r : ∃ r : Int, G[rm]? = some (.lst [.int r])
  nd : d ≠ w ∧ d ≠ rm
  nl : l ≠ w ∧ l ≠ rm
  nw : w ≠ rm
  c0 : 0 < ys.length
  c1 : ys.length ≤ 1000
  nm : ∀ y ∈ ys, NmS y
theorem Sn.oth {G G' : List M} (s : Sn G d l w rm ys) (D : DG G' d l) (o : Oth d l G G') : Sn G' d l w rm ys :=
  ⟨D, (o.at_ _ s.nd.1.symm s.nl.1.symm).trans s.hw, by obtain ⟨r, h⟩ := s.r; exact ⟨r, (o.at_ _ s.nd.2.symm s.nl.2.symm).trans h⟩, s.nd, s.nl, s.nw, s.c0, s.c1, s.nm⟩
theorem Sn.draw {G : List M} {many : Int} (s : Sn G d l w rm ys) (h0 : 0 < many) (h1 : many < 2 ^ 100) : ∃ r G', F__law_draw [.im (.ref d), .im (.int many)] G = some (.im (.int r), G') ∧ 0 ≤ r ∧ r < many ∧ Sn G' d l w rm ys ∧ G'.length = G.length := by
  obtain ⟨r, G', e, p0, p1, D, o⟩ := draw_ok s.D h0 h1
  exact ⟨r, G', e, p0, p1, s.oth D o, o.len⟩
theorem Sn.put {G : List M} (s : Sn G d l w rm ys) (r : Int) : Sn (G.set rm (.lst [.int r])) d l w rm ys := by
  obtain ⟨r0, h⟩ := s.r
  have o : Oth rm rm G (G.set rm (.lst [.int r])) := Oth.setD
  exact ⟨o.dg s.D s.nd.2 s.nd.2 s.nl.2 s.nl.2, (o.at_ _ s.nw s.nw).trans s.hw, ⟨r, set_at h⟩, s.nd, s.nl, s.nw, s.c0, s.c1, s.nm⟩
theorem Sn.name {G : List M} (s : Sn G d l w rm ys) : ∃ (x : List Nat) (G' : List M), F__law_any_name [.im (.ref d), .im (.ref w)] G = some (.im (.str (mkS x)), G') ∧ Nm x ∧ Sn G' d l w rm ys ∧ G'.length = G.length := by
  obtain ⟨r, G', e, p0, p1, s', le⟩ := s.draw (many := ys.length) (by have := s.c0; lia) (by have := s.c1; lia)
  obtain ⟨x, ex, hx⟩ := pick_str p0 p1
  refine ⟨x.cps.toList, G', ?_, s.nm x hx, s', le⟩
  rw [mkS_of]
  have hl : (ys.map I.str).length = ys.length := List.length_map _
  simp_arith [F__law_any_name, s.hw, s'.hw, e, ex, hl]
theorem sgn_all : ∀ c ∈ ("+-*<=" : Str).cps.toList, c = 43 ∨ c = 45 ∨ c = 42 ∨ c = 60 ∨ c = 61 := by decide +kernel
theorem sign_ok {r : Int} {δ : De} {G : List M} (h0 : 0 ≤ r) (h1 : r < 5) : ∃ c : Nat, ixP [.v (.im (.str "+-*<=")), .v (.im (.int r))] δ G = some (.v (.im (.str (mkS [c]))), δ, G) ∧ Sgn c := by
  obtain ⟨c, hc, hm⟩ := pick_any (xs := ("+-*<=" : Str).cps.toList) h0 (by rw [show ("+-*<=" : Str).cps.toList.length = 5 by decide +kernel]; exact h1)
  refine ⟨c, ?_, sgn_all c hm⟩
  have hl : ("+-*<=" : Str).length ≤ 1000000 := by rw [show ("+-*<=" : Str).length = 5 by decide +kernel]; lia
  simp [ixP, orP, ixS, sq, pk, hc, hl, mkS]
noncomputable def tmD (d w rm dn : Nat) (v4 v5 v6 : Option Vl) : De := [some (.im (.ref d)), some (.im (.ref w)), some (.im (.ref rm)), some (.im (.int dn)), v4, v5, v6]
theorem any_term_ok : ∀ (n dn : Nat) {G : List M}, 6 ≤ n + dn → dn ≤ 5 → Sn G d l w rm ys → ∃ (t : Tm) (G' : List M), F__law_any_term n [.im (.ref d), .im (.ref w), .im (.ref rm), .im (.int dn)] G = some (.im t.i, G') ∧ t.ok ∧ t.deep + dn ≤ 6 ∧ Sn G' d l w rm ys ∧ G'.length = G.length
  | 0, dn, G, h, h2, _ => by lia
  | n + 1, dn, G, h, h2, s => by
    obtain ⟨fm, G1, e1, p0, p1, s1, l1⟩ := s.draw (many := 6) (by decide) (by decide)
    obtain ⟨r, hr⟩ := s1.r
    have st : asgF (bd (consF (varF 0) (consF (conF (.int 6)) nilF)) (callP 2 F__law_draw)) (gNm 4) (tmD d w rm dn none none none) G = some (.nx (tmD d w rm dn (some (.im (.int fm))) none none) G1) := by
      simp_arith [tmD, e1]
    by_cases hs : r < 1 ∨ 4 < (dn : Int) ∨ fm < 2
    · have hc : orF (tstF (opF ltP (opF ixP (varF 2) (conF (.int 0))) (conF (.int 1)))) (orF (tstF (opF gtP (varF 3) (conF (.int 4)))) (tstF (opF ltP (varF 4) (conF (.int 2))))) (tmD d w rm dn (some (.im (.int fm))) none none) G1 = some (true, tmD d w rm dn (some (.im (.int fm))) none none, G1) := by
        by_cases h3 : r < 1
        · simp_arith [tmD, hr, at0, h3]
        · by_cases h4 : 4 < (dn : Int)
          · simp_arith [tmD, hr, at0, h3, h4]
          · have h5 : fm < 2 := (hs.resolve_left h3).resolve_left h4
            simp_arith [tmD, hr, at0, h3, h4, h5]
      obtain ⟨y, G2, e2, _, _, s2, l2⟩ := s1.draw (many := 2) (by decide) (by decide)
      by_cases hy : y = 0
      · subst hy
        obtain ⟨x, G3, e3, hx, s3, l3⟩ := s2.name
        refine ⟨.cell x, G3, ?_, hx, by show 1 + dn ≤ 6; lia, s3, by lia⟩
        refine run_rt rfl (seq_go st (seq_rt (ite_t hc (seq_rt (ite_t (δ1 := tmD d w rm dn (some (.im (.int fm))) none none) (G1 := G2) (by simp_arith [tmD, e2]) (ret_go (δ1 := tmD d w rm dn (some (.im (.int fm))) none none) ?_))))))
        simp_arith [tmD, e3, Tm.i]
      · have yb : (y == 0) = false := beq_eq_false_iff_ne.mpr hy
        obtain ⟨wd, G3, e3, w0, w1, D3, o3⟩ := word_ok s2.D
        obtain ⟨wn, rfl⟩ := Int.eq_ofNat_of_zero_le w0
        refine ⟨.num wn, G3, ?_, show wn < 4294967296 by lia, by show 1 + dn ≤ 6; lia, s2.oth D3 o3, by rw [o3.len]; lia⟩
        refine run_rt rfl (seq_go st (seq_rt (ite_t hc (seq_go (δ1 := tmD d w rm dn (some (.im (.int fm))) none none) (G1 := G2) (ite_f (δ1 := tmD d w rm dn (some (.im (.int fm))) none none) (G1 := G2) (by simp_arith [tmD, e2, yb]) rfl) (ret_go (δ1 := tmD d w rm dn (some (.im (.int fm))) none none) ?_)))))
        simp_arith [tmD, e3, Tm.i]
    · have h3 : ¬ r < 1 := fun z => hs (.inl z)
      have h4 : ¬ 4 < (dn : Int) := fun z => hs (.inr (.inl z))
      have h5 : ¬ fm < 2 := fun z => hs (.inr (.inr z))
      have hc : orF (tstF (opF ltP (opF ixP (varF 2) (conF (.int 0))) (conF (.int 1)))) (orF (tstF (opF gtP (varF 3) (conF (.int 4)))) (tstF (opF ltP (varF 4) (conF (.int 2))))) (tmD d w rm dn (some (.im (.int fm))) none none) G1 = some (false, tmD d w rm dn (some (.im (.int fm))) none none, G1) := by
        simp_arith [tmD, hr, at0, h3, h4, h5]
      have s1' := s1.put (r - 1)
      have l1' : (G1.set rm (M.lst [.int (r - 1)])).length = G1.length := List.length_set
      have hp : putF' (varF 2) (conF (.int 0)) (opF subP (opF ixP (varF 2) (conF (.int 0))) (conF (.int 1))) (tmD d w rm dn (some (.im (.int fm))) none none) G1 = some (.nx (tmD d w rm dn (some (.im (.int fm))) none none) (G1.set rm (.lst [.int (r - 1)]))) := by
        have : ixN 1 0 = some 0 := by decide
        simp_arith [tmD, hr, at0, this]
      have ed : ((dn + 1 : Nat) : Int) = (dn : Int) + 1 := by lia
      by_cases hf : fm = 2
      · subst hf
        obtain ⟨x, G2, e2, hx, s2, l2⟩ := s1'.name
        obtain ⟨t, G3, e3, t1, t2, s3, l3⟩ := any_term_ok n (dn + 1) (by lia) (by lia) s2
        rw [ed] at e3
        refine ⟨.at_ x t, G3, ?_, ⟨hx, t1⟩, by show t.deep + 1 + dn ≤ 6; lia, s3, by lia⟩
        refine run_rt rfl (seq_go st (seq_go (ite_f hc rfl) (seq_go hp (seq_rt (ite_t (δ1 := tmD d w rm dn (some (.im (.int 2))) none none) (G1 := G1.set rm (.lst [.int (r - 1)])) (by simp_arith [tmD]) (seq_go (asg_go (x := .im (.str (mkS x))) (δ1 := tmD d w rm dn (some (.im (.int 2))) none none) (G1 := G2) (by simp_arith [tmD, e2]) rfl) (ret_go (δ1 := tmD d w rm dn (some (.im (.int 2))) (some (.im (.str (mkS x)))) none) ?_)))))))
        simp_arith [tmD, e3, Tm.i]
      · have fb : (fm == 2) = false := beq_eq_false_iff_ne.mpr hf
        obtain ⟨ta, G2, e2, a1, a2, s2, l2⟩ := any_term_ok n (dn + 1) (by lia) (by lia) s1'
        rw [ed] at e2
        obtain ⟨y, G3, e3, y0, y1, s3, l3⟩ := s2.draw (many := 5) (by decide) (by decide)
        obtain ⟨tb, G4, e4, b1, b2, s4, l4⟩ := any_term_ok n (dn + 1) (by lia) (by lia) s3
        rw [ed] at e4
        obtain ⟨sg, es, ls⟩ := sign_ok (δ := tmD d w rm dn (some (.im (.int fm))) none (some (.im ta.i))) (G := G3) y0 y1
        refine ⟨.op sg ta tb, G4, ?_, ⟨ls, a1, b1⟩, by show max ta.deep tb.deep + 1 + dn ≤ 6; lia, s4, by lia⟩
        refine run_rt rfl (seq_go st (seq_go (ite_f hc rfl) (seq_go hp (seq_go (δ1 := tmD d w rm dn (some (.im (.int fm))) none none) (G1 := G1.set rm (.lst [.int (r - 1)])) (ite_f (δ1 := tmD d w rm dn (some (.im (.int fm))) none none) (G1 := G1.set rm (.lst [.int (r - 1)])) (by simp_arith [tmD, fb]) rfl) (seq_go (asg_go (x := .im ta.i) (δ1 := tmD d w rm dn (some (.im (.int fm))) none none) (G1 := G2) (by simp_arith [tmD, e2]) rfl) (ret_go (δ1 := tmD d w rm dn (some (.im (.int fm))) none (some (.im ta.i))) ?_))))))
        refine bd_go (bd_go rfl (bd_go (bd_go (op_go rfl (bd_go (a := [.v (.im (.ref d)), .v (.im (.int 5))]) rfl (call_go (xs := [.im (.ref d), .im (.int 5)]) rfl rfl e3)) es) (bd_go (bd_go rfl (bd_go (bd_go (bd_go (a := [.v (.im (.ref d)), .v (.im (.ref w)), .v (.im (.ref rm)), .v (.im (.int ((dn : Int) + 1)))]) rfl (call_go (xs := [.im (.ref d), .im (.ref w), .im (.ref rm), .im (.int ((dn : Int) + 1))]) rfl rfl e4)) rfl) rfl)) rfl)) rfl)) ?_
        simp_arith [tmD, Tm.i]
end
section
theorem fig_at : ∀ r, r < 10 → ("0123456789" : Str).cps.toList[r]? = some (48 + r) := by decide +kernel
theorem fig_ix {r : Nat} {δ : De} {G : List M} (h : r < 10) : ixP [.v (.im (.str "0123456789")), .v (.im (.int (r : Int)))] δ G = some (.v (.im (.str (mkS [48 + r]))), δ, G) := by
  have hc : atI ("0123456789" : Str).cps.toList (r : Int) = some (48 + r) := atI_nat (fig_at r h)
  have hl : ("0123456789" : Str).length ≤ 1000000 := by rw [show ("0123456789" : Str).length = 10 by decide +kernel]; lia
  simp [ixP, orP, ixS, sq, pk, hc, hl, mkS]
noncomputable def sgI (l : List Nat) : List I := l.map fun c => I.str (mkS [c])
theorem join_sg : ∀ l : List Nat, Txt.join "" (l.map fun c => mkS [c]) = mkS l := fun l => by
  unfold Txt.join
  rw [StrLaws.glued_eq_join, show ("" : Str) = mkS [] by decide +kernel]
  have : (l.map fun c => mkS [c]) = (l.map fun c => [c]).map mkS := by rw [List.map_map]; rfl
  rw [this]
  refine str_of ((join_z [] _).trans ?_)
  induction l with
  | nil => rfl
  | cons c l ih =>
    cases l with
    | nil => rfl
    | cons c' l => rw [List.map_cons, jz_cons [] _ (by simp), ih (by rw [List.map_map]; rfl)]; rfl
theorem fig_turn {m : Nat} {acc : List Nat} {G : List M} (h : 10 ≤ m) (hl : acc.length ≤ 1000) : F_figures_of_w1b [some (.im (.int (m : Int))), some (.ow (.lst (sgI acc)))] G = some (.nx [some (.im (.int ((m / 10 : Nat) : Int))), some (.ow (.lst (sgI (acc ++ [48 + m % 10]))))] G) := by
  have e1 : ((m : Int) % 10) = ((m % 10 : Nat) : Int) := by lia
  have e2 : ((m : Int) / 10) = ((m / 10 : Nat) : Int) := by lia
  have h1 := fig_ix (r := m % 10) (δ := [some (.im (.int (m : Int))), some (.ow (.lst (sgI acc)))]) (G := G) (by lia)
  have hn : (sgI acc).length < 1000000 := by unfold sgI; rw [List.length_map]; lia
  refine seq_go (δ1 := [some (.im (.int (m : Int))), some (.ow (.lst (sgI (acc ++ [48 + m % 10]))))]) (G1 := G) (drop_go (e := .v (.im .non)) (bm_go (e := .s 1) rfl rfl (bd_go (op_go rfl (y := .v (.im (.int ((m % 10 : Nat) : Int)))) (by rw [← e1]; simp_arith []) h1) rfl) ?_)) ?_
  · unfold sgI at hn ⊢
    have hn' : acc.length < 1000000 := by lia
    simp [append1P, pk, pkS, imA, imE, putQ, hn']
  · rw [← e2]; simp_arith []
theorem fig_wh (G : List M) : ∀ (m : Nat) (acc : List Nat), acc.length + (dg m).length ≤ 1000 → ∃ (k : Nat) (acc' : List Nat), whF F_figures_of_w1c F_figures_of_w1b [some (.im (.int (m : Int))), some (.ow (.lst (sgI acc)))] G = some (.nx [some (.im (.int (k : Int))), some (.ow (.lst (sgI acc')))] G) ∧ k < 10 ∧ dg m ++ acc.reverse = (48 + k) :: acc'.reverse := by
  intro m
  induction m using Nat.strongRecOn with
  | _ m ih =>
    intro acc hl
    by_cases h : m < 10
    · refine ⟨m, acc, whF_done ?_, h, by rw [dg_lt h]; rfl⟩
      have : ¬ (9 : Int) < m := by lia
      simp_arith [F_figures_of_w1c, this]
    · have hg : (9 : Int) < m := by lia
      rw [dg_ge (by lia), List.length_append] at hl
      obtain ⟨k, acc', e, hk, q⟩ := ih (m / 10) (by lia) (acc ++ [48 + m % 10]) (by simp at hl ⊢; lia)
      refine ⟨k, acc', ?_, hk, ?_⟩
      · rw [whF_next (δ1 := [some (.im (.int (m : Int))), some (.ow (.lst (sgI acc)))]) (G1 := G) (by simp_arith [F_figures_of_w1c, hg]) (fig_turn (by lia) (by simp at hl; lia))]
        exact e
      · rw [dg_ge (by lia), ← q]; simp
theorem strs_sg (l : List Nat) : strsI (sgI l) = some (l.map fun c => mkS [c]) := by
  have : sgI l = (l.map fun c => mkS [c]).map I.str := by unfold sgI; rw [List.map_map]; rfl
  rw [this, strsI_map]
theorem figures_ok {n : Nat} {G : List M} (h : n < 4294967296) : F_figures_of [.im (.int (n : Int))] G = some (.im (.str (mkS (dg n))), G) := by
  have hd := dg_len n 9 (Nat.lt_trans h (by decide))
  obtain ⟨k, acc, e, hk, q⟩ := fig_wh G n [] (by simp; lia)
  have hlen : acc.length + 1 ≤ 10 := by have := congrArg List.length q; simp at this; lia
  have hn : (sgI acc).length < 1000000 := by unfold sgI; rw [List.length_map]; lia
  have ej : Txt.join "" (((acc ++ [48 + k]).map fun c => mkS [c]).reverse) = mkS (dg n) := by
    rw [← List.map_reverse, join_sg, List.reverse_append]
    simp only [List.reverse_nil, List.append_nil] at q
    rw [q]; rfl
  have es := strs_sg (acc ++ [48 + k])
  have hz : (((acc ++ [48 + k]).map fun c => mkS [c]).map (·.length)).sum + ((acc ++ [48 + k]).map fun c => mkS [c]).length * ("" : Str).length ≤ 1000000 := by
    have h1 := sums (m := 1) (zs := (acc ++ [48 + k]).map fun c => mkS [c]) (fun z hz => by obtain ⟨c, _, rfl⟩ := List.mem_map.mp hz; exact Nat.le_refl _)
    rw [str_e]
    simp only [List.length_map, List.length_append, List.length_cons, List.length_nil] at h1 ⊢
    lia
  refine run_rt rfl (seq_go (asg_go (x := .ow (.lst [])) (δ1 := [some (.im (.int (n : Int))), none]) (G1 := G) rfl rfl) (seq_go e (seq_go (δ1 := [some (.im (.int (k : Int))), some (.ow (.lst (sgI (acc ++ [48 + k]))))]) (G1 := G) (drop_go (e := .v (.im .non)) (bm_go (e := .s 1) rfl rfl (bd_go (op_go rfl rfl (fig_ix hk)) rfl) ?_)) (ret_go (δ1 := [some (.im (.int (k : Int))), some (.ow (.lst (sgI (acc ++ [48 + k]))))]) ?_))))
  · unfold sgI at hn ⊢
    have hn' : acc.length < 1000000 := by lia
    simp [append1P, pk, pkS, imA, imE, putQ, hn']
  · refine bs_go (e := .v (.im (.str ""))) rfl rfl (bd_go rfl rfl) ?_
    rw [← ej]
    simp only [joinrP, pk]
    show (match strsI (sgI (acc ++ [48 + k])) with | some ys => _ | none => none) = _
    rw [es]
    dsimp only
    rw [if_pos hz]
end
section
theorem q_cn : (("cell" : Str) == "num") = false := by decide +kernel
theorem q_an : (("at" : Str) == "num") = false := by decide +kernel
theorem q_on : (("op" : Str) == "num") = false := by decide +kernel
theorem q_ac : (("at" : Str) == "cell") = false := by decide +kernel
theorem q_oc : (("op" : Str) == "cell") = false := by decide +kernel
theorem q_oa : (("op" : Str) == "at") = false := by decide +kernel
theorem q_no : (("num" : Str) == "op") = false := by decide +kernel
theorem q_co : (("cell" : Str) == "op") = false := by decide +kernel
theorem q_ao : (("at" : Str) == "op") = false := by decide +kernel
theorem q_na : (("num" : Str) == "at") = false := by decide +kernel
theorem q_ca : (("cell" : Str) == "at") = false := by decide +kernel
theorem lit6 : ("(at " : Str) = mkS [40, 97, 116, 32] := by decide +kernel
theorem lit7 : (" " : Str) = mkS [32] := by decide +kernel
theorem lit8 : (")" : Str) = mkS [41] := by decide +kernel
theorem lit9 : ("(" : Str) = mkS [40] := by decide +kernel
theorem lit0 : Str.empty = mkS [] := by decide +kernel
theorem js_c {y acc : List Nat} {fs : List (Mo Ev)} {δ : De} {G : List M} (h : acc.length + y.length ≤ 1000000) : jsF (conF (.str (mkS y)) :: fs) (mkS acc) δ G = jsF fs (mkS (acc ++ y)) δ G := by
  have h' : (mkS acc ++ mkS y).length ≤ 1000000 := by rw [mkS_app, mkS_len, List.length_append]; exact h
  rw [← mkS_app]
  show (if (mkS acc ++ mkS y).length ≤ 1000000 then jsF fs (mkS acc ++ mkS y) δ G else none) = _
  rw [if_pos h']
theorem js_v {i : Nat} {y acc : List Nat} {fs : List (Mo Ev)} {δ : De} {G : List M} (hv : varF i δ G = some (.v (.im (.str (mkS y))), δ, G)) (h : acc.length + y.length ≤ 1000000) : jsF (unF fmtP (varF i) :: fs) (mkS acc) δ G = jsF fs (mkS (acc ++ y)) δ G := by
  have h' : (mkS acc ++ mkS y).length ≤ 1000000 := by rw [mkS_app, mkS_len, List.length_append]; exact h
  have h2 : (mkS y).length ≤ 1000000 := by rw [mkS_len]; lia
  rw [← mkS_app]
  have e : unF fmtP (varF i) δ G = some (.v (.im (.str (mkS y))), δ, G) := un_go hv (by simp [fmtP, h2])
  rw [jsF, bd_go e rfl]
  show (if (mkS acc ++ mkS y).length ≤ 1000000 then jsF fs (mkS acc ++ mkS y) δ G else none) = _
  rw [if_pos h']
theorem js_n {acc : List Nat} {δ : De} {G : List M} (h : acc.length ≤ 1000000) : jsF [] (mkS acc) δ G = some (.v (.im (.str (mkS acc))), δ, G) := by
  have h' : (mkS acc).length ≤ 1000000 := by rw [mkS_len]; exact h
  rw [jsF]
  show (if (mkS acc).length ≤ 1000000 then _ else none) = _
  rw [if_pos h']
theorem Tm.kid {t : Tm} {n : Nat} : t.size ≤ n → t.ok → t.tx.length ≤ 20 * n := fun h k => Nat.le_trans (t.tx_len k) (by lia)
theorem show_ok : ∀ (n : Nat) {t : Tm} {G : List M}, t.deep ≤ n → t.ok → t.size ≤ 100 → F_show_term n [.im t.i] G = some (.im (.str (mkS t.tx)), G)
  | 0, t, G, h, _, _ => by cases t <;> simp [Tm.deep] at h
  | n + 1, .num w, G, h, k, hz => by
    have e := figures_ok (G := G) k
    refine run_rt rfl (seq_rt (ite_t (δ1 := [some (.im (Tm.num w).i), none, none, none, none, none]) (G1 := G) (by simp_arith [Tm.i, at0]) (ret_go (δ1 := [some (.im (Tm.num w).i), none, none, none, none, none]) ?_)))
    simp_arith [Tm.i, at1, e, Tm.tx]
  | n + 1, .cell x, G, h, k, hz => by
    refine run_rt rfl (seq_go (δ1 := [some (.im (Tm.cell x).i), none, none, none, none, none]) (G1 := G) (ite_f (δ1 := [some (.im (Tm.cell x).i), none, none, none, none, none]) (G1 := G) (by simp_arith [Tm.i, at0, q_cn]) rfl) (seq_rt (ite_t (δ1 := [some (.im (Tm.cell x).i), none, none, none, none, none]) (G1 := G) (by simp_arith [Tm.i, at0]) (ret_go (δ1 := [some (.im (Tm.cell x).i), none, none, none, none, none]) ?_))))
    simp_arith [Tm.i, at1, Tm.tx]
  | n + 1, .at_ r t, G, h, k, hz => by
    have hz1 : t.size + 1 ≤ 100 := by simp only [Tm.size] at hz; lia
    have e := show_ok n (t := t) (G := G) (by simp only [Tm.deep] at h; lia) k.2 (by lia)
    have l1 := Tm.kid (n := 100) (t := t) (by lia) k.2
    have l2 := k.1.hi
    refine run_rt rfl (seq_go (δ1 := [some (.im (Tm.at_ r t).i), none, none, none, none, none]) (G1 := G) (ite_f (δ1 := [some (.im (Tm.at_ r t).i), none, none, none, none, none]) (G1 := G) (by simp_arith [Tm.i, at0, q_an]) rfl) (seq_go (δ1 := [some (.im (Tm.at_ r t).i), none, none, none, none, none]) (G1 := G) (ite_f (δ1 := [some (.im (Tm.at_ r t).i), none, none, none, none, none]) (G1 := G) (by simp_arith [Tm.i, at0, q_ac]) rfl) (seq_rt (ite_t (δ1 := [some (.im (Tm.at_ r t).i), none, none, none, none, none]) (G1 := G) (by simp_arith [Tm.i, at0]) (seq_go (asg_go (x := .im (.str (mkS r))) (δ1 := [some (.im (Tm.at_ r t).i), none, none, none, none, none]) (G1 := G) (by simp_arith [Tm.i, at1]) rfl) (seq_go (asg_go (x := .im (.str (mkS t.tx))) (δ1 := [some (.im (Tm.at_ r t).i), some (.im (.str (mkS r))), none, none, none, none]) (G1 := G) (by simp_arith [Tm.i, at2, e]) rfl) (ret_go (δ1 := [some (.im (Tm.at_ r t).i), some (.im (.str (mkS r))), some (.im (.str (mkS t.tx))), none, none, none]) ?_)))))))
    rw [lit6, lit7, lit8, lit0, js_c (by simp), js_v (y := r) rfl (by simp; lia), js_c (by simp; lia), js_v (y := t.tx) rfl (by simp; lia), js_c (by simp; lia), js_n (by simp; lia)]
    simp [Tm.tx]
  | n + 1, .op s a b, G, h, k, hz => by
    have hz1 : a.size + b.size + 1 ≤ 100 := by simp only [Tm.size] at hz; lia
    have ea := show_ok n (t := a) (G := G) (by simp only [Tm.deep] at h; lia) k.2.1 (by lia)
    have eb := show_ok n (t := b) (G := G) (by simp only [Tm.deep] at h; lia) k.2.2 (by lia)
    have l1 := Tm.kid (n := 100) (t := a) (by lia) k.2.1
    have l2 := Tm.kid (n := 100) (t := b) (by lia) k.2.2
    refine run_rt rfl (seq_go (δ1 := [some (.im (Tm.op s a b).i), none, none, none, none, none]) (G1 := G) (ite_f (δ1 := [some (.im (Tm.op s a b).i), none, none, none, none, none]) (G1 := G) (by simp_arith [Tm.i, at0, q_on]) rfl) (seq_go (δ1 := [some (.im (Tm.op s a b).i), none, none, none, none, none]) (G1 := G) (ite_f (δ1 := [some (.im (Tm.op s a b).i), none, none, none, none, none]) (G1 := G) (by simp_arith [Tm.i, at0, q_oc]) rfl) (seq_go (δ1 := [some (.im (Tm.op s a b).i), none, none, none, none, none]) (G1 := G) (ite_f (δ1 := [some (.im (Tm.op s a b).i), none, none, none, none, none]) (G1 := G) (by simp_arith [Tm.i, at0, q_oa]) rfl) (seq_go (asg_go (x := .im (.str (mkS [s]))) (δ1 := [some (.im (Tm.op s a b).i), none, none, none, none, none]) (G1 := G) (by simp_arith [Tm.i, at1]) rfl) (seq_go (asg_go (x := .im (.str (mkS a.tx))) (δ1 := [some (.im (Tm.op s a b).i), none, none, some (.im (.str (mkS [s]))), none, none]) (G1 := G) (by simp_arith [Tm.i, at2, ea]) rfl) (seq_go (asg_go (x := .im (.str (mkS b.tx))) (δ1 := [some (.im (Tm.op s a b).i), none, none, some (.im (.str (mkS [s]))), some (.im (.str (mkS a.tx))), none]) (G1 := G) (by simp_arith [Tm.i, at3, eb]) rfl) (ret_go (δ1 := [some (.im (Tm.op s a b).i), none, none, some (.im (.str (mkS [s]))), some (.im (.str (mkS a.tx))), some (.im (.str (mkS b.tx)))]) ?_)))))))
    rw [lit9, lit7, lit8, lit0, js_c (by simp), js_v (y := [s]) rfl (by simp), js_c (by simp), js_v (y := a.tx) rfl (by simp; lia), js_c (by simp; lia), js_v (y := b.tx) rfl (by simp; lia), js_c (by simp; lia), js_n (by simp; lia)]
    simp [Tm.tx]
theorem join_mk (z : List Nat) (ps : List (List Nat)) : Txt.join (mkS z) (ps.map mkS) = mkS (jz z ps) := by
  unfold Txt.join
  rw [StrLaws.glued_eq_join]
  exact str_of (join_z z ps)
theorem cat_go {a b : List Nat} {δ : De} {G : List M} (h : a.length + b.length ≤ 1000000) : addP [.v (.im (.str (mkS a))), .v (.im (.str (mkS b)))] δ G = some (.v (.im (.str (mkS (a ++ b)))), δ, G) := by
  have h' : (mkS a).length + (mkS b).length ≤ 1000000 := by rw [mkS_len, mkS_len]; exact h
  rw [← mkS_app]
  simp [addP, orP, addI, intP, catS, h']
theorem log_lt {w : Nat} (h : w < 4294967296) : ((w : Int)).natAbs.log2 < 1920 := by
  rw [Int.natAbs_natCast]
  by_cases h0 : w = 0
  · subst h0; decide
  · rw [Nat.log2_lt h0]; exact Nat.lt_of_lt_of_le h (Nat.pow_le_pow_right (n := 2) (i := 32) (by decide) (by decide))
theorem text_ok : ∀ (n : Nat) {t : Tm} {G : List M}, t.deep ≤ n → t.ok → t.size ≤ 100 → F__law_term_text n [.im t.i] G = some (.im (.str (mkS t.tx)), G)
  | 0, t, G, h, _, _ => by cases t <;> simp [Tm.deep] at h
  | n + 1, .num w, G, h, k, hz => by
    have e := log_lt k
    refine run_rt rfl (seq_go (δ1 := [some (.im (Tm.num w).i)]) (G1 := G) (ite_f (δ1 := [some (.im (Tm.num w).i)]) (G1 := G) (by simp_arith [Tm.i, at0, q_no]) rfl) (seq_go (δ1 := [some (.im (Tm.num w).i)]) (G1 := G) (ite_f (δ1 := [some (.im (Tm.num w).i)]) (G1 := G) (by simp_arith [Tm.i, at0, q_na]) rfl) (ret_go (δ1 := [some (.im (Tm.num w).i)]) ?_)))
    rw [show (Tm.num w).tx = dg w from rfl, ← dg_str]
    refine bd_go (a := [.v (.im (.int (w : Int)))]) (δ1 := [some (.im (Tm.num w).i)]) (G1 := G) (by simp_arith [Tm.i, at1]) ?_
    unfold str1P
    dsimp only
    rw [if_pos e]
  | n + 1, .cell x, G, h, k, hz => by
    refine run_rt rfl (seq_go (δ1 := [some (.im (Tm.cell x).i)]) (G1 := G) (ite_f (δ1 := [some (.im (Tm.cell x).i)]) (G1 := G) (by simp_arith [Tm.i, at0, q_co]) rfl) (seq_go (δ1 := [some (.im (Tm.cell x).i)]) (G1 := G) (ite_f (δ1 := [some (.im (Tm.cell x).i)]) (G1 := G) (by simp_arith [Tm.i, at0, q_ca]) rfl) (ret_go (δ1 := [some (.im (Tm.cell x).i)]) ?_)))
    simp_arith [Tm.i, at1, str1P, Tm.tx]
  | n + 1, .at_ r t, G, h, k, hz => by
    have hz1 : t.size + 1 ≤ 100 := by simp only [Tm.size] at hz; lia
    have e := text_ok n (t := t) (G := G) (by simp only [Tm.deep] at h; lia) k.2 (by lia)
    have l1 := Tm.kid (n := 100) (t := t) (by lia) k.2
    have l2 := k.1.hi
    refine run_rt rfl (seq_go (δ1 := [some (.im (Tm.at_ r t).i)]) (G1 := G) (ite_f (δ1 := [some (.im (Tm.at_ r t).i)]) (G1 := G) (by simp_arith [Tm.i, at0, q_ao]) rfl) (seq_rt (ite_t (δ1 := [some (.im (Tm.at_ r t).i)]) (G1 := G) (by simp_arith [Tm.i, at0]) (ret_go (δ1 := [some (.im (Tm.at_ r t).i)]) ?_))))
    rw [lit6, lit7, lit8]
    refine op_go (op_go (op_go (op_go rfl (y := .v (.im (.str (mkS r)))) (δ2 := [some (.im (Tm.at_ r t).i)]) (G2 := G) (by simp_arith [Tm.i, at1]) (cat_go (by simp; lia))) rfl (cat_go (by simp; lia))) (y := .v (.im (.str (mkS t.tx)))) (δ2 := [some (.im (Tm.at_ r t).i)]) (G2 := G) (by simp_arith [Tm.i, at2, e]) (cat_go (by simp; lia))) rfl ?_
    rw [cat_go (by simp; lia)]
    simp [Tm.tx]
  | n + 1, .op s a b, G, h, k, hz => by
    have hz1 : a.size + b.size + 1 ≤ 100 := by simp only [Tm.size] at hz; lia
    have ea := text_ok n (t := a) (G := G) (by simp only [Tm.deep] at h; lia) k.2.1 (by lia)
    have eb := text_ok n (t := b) (G := G) (by simp only [Tm.deep] at h; lia) k.2.2 (by lia)
    have l1 := Tm.kid (n := 100) (t := a) (by lia) k.2.1
    have l2 := Tm.kid (n := 100) (t := b) (by lia) k.2.2
    have ej := join_mk [32] [[s], a.tx, b.tx]
    refine run_rt rfl (seq_rt (ite_t (δ1 := [some (.im (Tm.op s a b).i)]) (G1 := G) (by simp_arith [Tm.i, at0]) (ret_go (δ1 := [some (.im (Tm.op s a b).i)]) ?_)))
    rw [lit9, lit7, lit8]
    refine op_go (op_go rfl (y := .v (.im (.str (mkS ([s] ++ [32] ++ a.tx ++ [32] ++ b.tx))))) (δ2 := [some (.im (Tm.op s a b).i)]) (G2 := G) (bs_go (e := .v (.im (.str (mkS [32])))) rfl rfl (es := [.v (.ow (.lst [.str (mkS [s]), .str (mkS a.tx), .str (mkS b.tx)]))]) (δ2 := [some (.im (Tm.op s a b).i)]) (G2 := G) (by simp_arith [Tm.i, at1, at2, at3, ea, eb]) ?_) (cat_go (by simp; lia))) rfl ?_
    · have hz2 : ((([[s], a.tx, b.tx].map mkS)).map (·.length)).sum + ([[s], a.tx, b.tx].map mkS).length * (mkS [32]).length ≤ 1000000 := by simp [mkS_len]; lia
      unfold join1P
      dsimp only [pk]
      rw [show strsI [I.str (mkS [s]), I.str (mkS a.tx), I.str (mkS b.tx)] = some ([[s], a.tx, b.tx].map mkS) from rfl]
      dsimp only
      rw [if_pos hz2, ej]
      simp [jz]
    · rw [cat_go (by simp; lia)]
      simp [Tm.tx]
end
section
theorem occ_one (x : Str) (c : Nat) : occB x (mkS [c]) = decide (c ∈ x.cps.toList) := StrLaws.found_one x c
theorem comp_str {x : List Nat} {te : Mo Ev} {f : Nat → I} {δ : De} {G : List M} (h : ∀ c ∈ x, te [some (.im (.str (mkS [c])))] G = some (.v (.im (f c)), [some (.im (.str (mkS [c])))], G)) :
    cTurns (strW (mkS x)) c1 yesF te [] 0 x.length [] δ G = some (x.map f, G) := by
  have hn : (strW (mkS x)).n = x.length := by simp [strW, mkS]
  obtain ⟨ds, G', e, ed, eg⟩ := cT_inv (w := strW (mkS x)) (c := c1) (tt := yesF) (te := te) (di := []) (δ := δ) (fun i acc G' => acc = (x.take i).map f ∧ G' = G)
    (fun i acc g hi zz => by
      obtain ⟨ea, eg⟩ := zz
      rw [hn] at hi
      subst eg
      refine ⟨.str (mkS [x[i]]), [.str (mkS [x[i]])], _, _, f x[i], _, g, ?_, rfl, rfl, h x[i] (List.getElem_mem hi), ?_, rfl⟩
      · show ((mkS x).cps[i]?).map (fun c => I.str ⟨#[c]⟩) = _
        have : (mkS x).cps[i]? = some x[i] := by simp [mkS, hi]
        rw [this]; rfl
      · rw [ea, List.take_add_one, List.getElem?_eq_getElem hi, List.map_append]; rfl)
    (fun _ _ _ => rfl) x.length 0 [] G (by rw [hn]; lia) ⟨by simp, rfl⟩
  rw [hn, List.take_length] at ed
  rw [ed, eg] at e
  exact e
theorem kept_anyC (y : Str) : ((List.map I.str keptL).any fun z => eqFl z (.str y)) = keptL.contains y := kept_any y
theorem con_fl : (List.map I.str keptL).all flI = true := rfl
noncomputable def isNmB (x : List Nat) : Bool := if x.length < 1 ∨ 6 < x.length ∨ keptL.contains (mkS x) = true then false else x.all fun c => decide (c ∈ ("abcdefghijklmnopqrstuvwxyz" : Str).cps.toList)
theorem is_name_ok {x : List Nat} {G : List M} (hx : x.length ≤ 1000) : F_is_name [.im (.str (mkS x))] G = some (.im (.bl (isNmB x)), G) := by
  have hl : (mkS x).length = x.length := mkS_len x
  have h1 : (mkS x).length ≤ 1000000 := by lia
  have hin : opF inP (varF 0) (conF (.con (List.map I.str ["cell", "row", "def", "main", "set", "put", "while", "if", "else", "call", "end", "at"]))) [some (.im (.str (mkS x)))] G = some (.v (.im (.bl (keptL.contains (mkS x)))), [some (.im (.str (mkS x)))], G) := by
    refine op_go rfl rfl ?_
    have h : (flI (.str (mkS x)) && (List.map I.str keptL).all flI) = true := by rw [con_fl]; rfl
    have e := kept_anyC (mkS x)
    show inP [.v (.im (.str (mkS x))), .v (.im (.con (List.map I.str keptL)))] _ G = _
    unfold inP orP inL
    dsimp only [sq]
    rw [if_pos h]
    dsimp only
    rw [e]; rfl
  unfold isNmB
  by_cases hc : x.length < 1 ∨ 6 < x.length ∨ keptL.contains (mkS x) = true
  · rw [if_pos hc]
    refine run_rt rfl (seq_rt (ite_t (δ1 := [some (.im (.str (mkS x)))]) (G1 := G) ?_ (ret_go rfl)))
    by_cases h2 : x.length < 1
    · have : ((mkS x).length : Int) < 1 := by lia
      exact or_t (tst_go (by simp_arith [h1, this]))
    · have n2 : ¬ ((mkS x).length : Int) < 1 := by lia
      refine or_f (δ1 := [some (.im (.str (mkS x)))]) (G1 := G) (tst_go (by simp_arith [h1, n2])) ?_
      by_cases h3 : 6 < x.length
      · have : (6 : Int) < (mkS x).length := by lia
        exact or_t (tst_go (by simp_arith [h1, this]))
      · have n3 : ¬ (6 : Int) < (mkS x).length := by lia
        refine or_f (δ1 := [some (.im (.str (mkS x)))]) (G1 := G) (tst_go (by simp_arith [h1, n3])) (tst_go ?_)
        rw [hin, (hc.resolve_left h2).resolve_left h3]
  · rw [if_neg hc]
    have h2 : ¬ x.length < 1 := fun z => hc (.inl z)
    have h3 : ¬ 6 < x.length := fun z => hc (.inr (.inl z))
    have h4 : keptL.contains (mkS x) = false := by cases e : keptL.contains (mkS x) with
      | false => rfl
      | true => exact absurd (.inr (.inr e)) hc
    have n2 : ¬ ((mkS x).length : Int) < 1 := by lia
    have n3 : ¬ (6 : Int) < (mkS x).length := by lia
    refine run_rt rfl (seq_go (δ1 := [some (.im (.str (mkS x)))]) (G1 := G) (ite_f (δ1 := [some (.im (.str (mkS x)))]) (G1 := G) (or_f (δ1 := [some (.im (.str (mkS x)))]) (G1 := G) (tst_go (by simp_arith [h1, n2])) (or_f (δ1 := [some (.im (.str (mkS x)))]) (G1 := G) (tst_go (by simp_arith [h1, n3])) (tst_go (by rw [hin, h4])))) rfl) (ret_go (δ1 := [some (.im (.str (mkS x)))]) ?_))
    have hcm := comp_str (x := x) (te := opF (inSP false) (varF 0) (conF (.str "abcdefghijklmnopqrstuvwxyz"))) (f := fun c => I.bl (decide (c ∈ ("abcdefghijklmnopqrstuvwxyz" : Str).cps.toList))) (δ := [some (.im (.str (mkS x)))]) (G := G) (fun c _ => by
      refine op_go rfl rfl ?_
      show some (Ev.v (.im (.bl (occB ("abcdefghijklmnopqrstuvwxyz" : Str) (mkS [c])))), _, G) = _
      rw [occ_one])
    have hn : (strW (mkS x)).n = x.length := by simp [strW, mkS]
    refine bd_go (bd_go (comp_go (by rfl) (it_go (es := [.v (.im (.str (mkS x)))]) (w := strW (mkS x)) rfl rfl) (by rw [hn]; lia) (by rw [hn]; exact hcm)) rfl) ?_
    show allP [.v (.ow (.lst (x.map fun c => I.bl (decide (c ∈ ("abcdefghijklmnopqrstuvwxyz" : Str).cps.toList)))))] _ G = _
    have e2 : (x.map fun c => I.bl (decide (c ∈ ("abcdefghijklmnopqrstuvwxyz" : Str).cps.toList))) = (x.map fun c => decide (c ∈ ("abcdefghijklmnopqrstuvwxyz" : Str).cps.toList)).map I.bl := by rw [List.map_map]; rfl
    rw [e2]
    unfold allP
    dsimp only [pk]
    rw [blsI_map]
    dsimp only
    rw [List.all_map]
    rfl
theorem abc_all : ∀ k, k < 26 → (97 + k) ∈ ("abcdefghijklmnopqrstuvwxyz" : Str).cps.toList := by decide +kernel
theorem Nm.is {x : List Nat} (h : Nm x) : isNmB x = true := by
  unfold isNmB
  have h1 := h.lo
  have h2 := h.hi
  rw [if_neg (by
    intro z
    rcases z with z | z | z
    · lia
    · lia
    · exact h.nk (List.contains_iff_mem.mp z))]
  rw [List.all_eq_true]
  intro c hc
  have := h.ab c hc
  obtain ⟨k, rfl⟩ : ∃ k, c = 97 + k := ⟨c - 97, by lia⟩
  exact decide_eq_true (abc_all k (by lia))
theorem abc_dg : ∀ k, k < 10 → (48 + k) ∉ ("abcdefghijklmnopqrstuvwxyz" : Str).cps.toList := by decide +kernel
theorem dg_isnt (w : Nat) : isNmB (dg w) = false := by
  unfold isNmB
  split
  · rfl
  · rw [List.all_eq_false]
    cases e : dg w with
    | nil => exact absurd e (dg_ne w)
    | cons c r =>
      refine ⟨c, List.mem_cons_self, ?_⟩
      have := dg_rng w c (by rw [e]; exact List.mem_cons_self)
      obtain ⟨k, rfl⟩ : ∃ k, c = 48 + k := ⟨c - 48, by lia⟩
      simpa using abc_dg k (by lia)
theorem fig_in : ∀ k, k < 10 → (48 + k) ∈ ("0123456789" : Str).cps.toList := by decide +kernel
theorem fig_occ : ∀ k, k < 10 → Builtin.Str.occurrences "0123456789" (mkS [48 + k]) 0 ("0123456789" : Str).length 1 = [k] := by decide +kernel
theorem num_turn {x : I} {a c : Nat} {G : List M} (hc : 48 ≤ c ∧ c ≤ 57) : F_number_in_w1b [some (.im x), some (.im (.int (a : Int))), some (.im (.str (mkS [c])))] G = some (.nx [some (.im x), some (.im (.int ((10 * a + (c - 48) : Nat) : Int))), some (.im (.str (mkS [c])))] G) := by
  obtain ⟨k, rfl⟩ : ∃ k, c = 48 + k := ⟨c - 48, by lia⟩
  have hk : k < 10 := by lia
  have e1 : occB ("0123456789" : Str) (mkS [48 + k]) = true := by rw [occ_one]; exact decide_eq_true (fig_in k hk)
  have e2 := fig_occ k hk
  have e3 : ((10 * a + (48 + k - 48) : Nat) : Int) = 10 * (a : Int) + (k : Int) := by lia
  rw [e3]
  refine seq_go (δ1 := [some (.im x), some (.im (.int (a : Int))), some (.im (.str (mkS [48 + k])))]) (G1 := G) (ite_f (δ1 := [some (.im x), some (.im (.int (a : Int))), some (.im (.str (mkS [48 + k])))]) (G1 := G) (tst_go (op_go rfl rfl ?_)) rfl) (asg_go (x := .im (.int (10 * (a : Int) + (k : Int)))) (δ1 := [some (.im x), some (.im (.int (a : Int))), some (.im (.str (mkS [48 + k])))]) (G1 := G) (op_go (x := .v (.im (.int (10 * (a : Int))))) (δ1 := [some (.im x), some (.im (.int (a : Int))), some (.im (.str (mkS [48 + k])))]) (G1 := G) (by simp_arith []) (y := .v (.im (.int (k : Int)))) (δ2 := [some (.im x), some (.im (.int (a : Int))), some (.im (.str (mkS [48 + k])))]) (G2 := G) (bs_go rfl rfl (bd_go rfl rfl) ?_) (by simp_arith [])) rfl)
  · show some (Ev.v (.im (.bl (!(occB ("0123456789" : Str) (mkS [48 + k]))))), _, G) = _
    rw [e1]; rfl
  · show index1P [.v (.im (.str "0123456789")), .v (.im (.str (mkS [48 + k])))] _ G = some (.v (.im (.int (k : Int))), _, G)
    unfold index1P
    dsimp only
    rw [e2]
theorem num_for {x : List Nat} {G : List M} (hx : ∀ c ∈ x, 48 ≤ c ∧ c ≤ 57) : ∃ v2, fTurns (strW (mkS x)) (gNm 2) F_number_in_w1b 0 x.length [some (.im (.str (mkS x))), some (.im (.int 0)), none] G = some (.nx [some (.im (.str (mkS x))), some (.im (.int (vl 0 x : Int))), v2] G) := by
  have hn : (strW (mkS x)).n = x.length := by simp [strW, mkS]
  obtain ⟨δ', G', e, v2, ed, eg⟩ := fT_inv (w := strW (mkS x)) (g := gNm 2) (b := F_number_in_w1b) (fun i δ G' => ∃ v2, δ = [some (.im (.str (mkS x))), some (.im (.int (vl 0 (x.take i) : Int))), v2] ∧ G' = G)
    (fun i δ g hi zz => by
      obtain ⟨v2, ed, eg⟩ := zz
      rw [hn] at hi
      subst ed; subst eg
      refine ⟨.str (mkS [x[i]]), _, g, _, g, ?_, rfl, num_turn (hx x[i] (List.getElem_mem hi)), some (.im (.str (mkS [x[i]]))), ?_, rfl⟩
      · show ((mkS x).cps[i]?).map (fun c => I.str ⟨#[c]⟩) = _
        have : (mkS x).cps[i]? = some x[i] := by simp [mkS, hi]
        rw [this]; rfl
      · have : vl 0 (x.take (i + 1)) = 10 * vl 0 (x.take i) + (x[i] - 48) := by
          unfold vl
          rw [List.take_add_one, List.getElem?_eq_getElem hi, List.foldl_append]; rfl
        rw [this])
    (fun _ _ _ => rfl) x.length 0 [some (.im (.str (mkS x))), some (.im (.int 0)), none] G (by rw [hn]; lia) ⟨none, by simp [vl], rfl⟩
  rw [hn, List.take_length] at ed
  exact ⟨v2, by rw [ed, eg] at e; exact e⟩
theorem lit_e : ("" : Str) = mkS [] := by decide +kernel
theorem lit_0 : ("0" : Str) = mkS [48] := by decide +kernel
theorem mk_beq (a b : List Nat) : (mkS a == mkS b) = decide (a = b) := by
  by_cases h : a = b
  · subst h; simp
  · rw [decide_eq_false h]
    exact beq_eq_false_iff_ne.mpr fun e => h (mkS_inj e)
theorem number_in_ok {w : Nat} {G : List M} (hw : w < 4294967296) : F_number_in [.im (.str (mkS (dg w)))] G = some (.im (.int (w : Int)), G) := by
  have hd := dg_len w 9 (Nat.lt_trans hw (by decide))
  obtain ⟨v2, ef⟩ := num_for (x := dg w) (G := G) (dg_rng w)
  rw [vl_dg] at ef
  have hn : (strW (mkS (dg w))).n = (dg w).length := by simp [strW, mkS]
  have hl : (mkS (dg w)).length ≤ 1000000 := by rw [mkS_len]; lia
  cases e : dg w with
  | nil => exact absurd e (dg_ne w)
  | cons c r =>
    rw [e] at ef hn hl
    have n1 : (mkS (c :: r) == mkS []) = false := by rw [mk_beq]; simp
    have ix : ixP [.v (.im (.str (mkS (c :: r)))), .v (.im (.int 0))] [some (.im (.str (mkS (c :: r)))), none, none] G = some (.v (.im (.str (mkS [c]))), [some (.im (.str (mkS (c :: r)))), none, none], G) := by
      have hc : atI (mkS (c :: r)).cps.toList 0 = some c := at0 c r
      rw [show mkS [c] = (⟨#[c]⟩ : Str) from rfl]
      simp [ixP, orP, ixS, sq, pk, hc, hl]
    have hz : c = 48 → c :: r = [48] := fun hc => by
      have := dg_head w r (by rw [e, hc])
      subst this
      rw [dg_lt (by decide)] at e
      exact e.symm
    refine run_rt rfl (seq_go (δ1 := [some (.im (.str (mkS (c :: r)))), none, none]) (G1 := G) (ite_f (δ1 := [some (.im (.str (mkS (c :: r)))), none, none]) (G1 := G) (or_f (δ1 := [some (.im (.str (mkS (c :: r)))), none, none]) (G1 := G) (tst_go (op_go rfl rfl (by rw [lit_e]; simp_arith [n1]))) ?_) rfl) (seq_go (asg_go (x := .im (.int 0)) (δ1 := [some (.im (.str (mkS (c :: r)))), none, none]) (G1 := G) rfl rfl) (seq_go (for_go (it_go (es := [.v (.im (.str (mkS (c :: r))))]) (w := strW (mkS (c :: r))) rfl rfl) (by rw [hn]; exact ef)) rfl)))
    by_cases hc : c = 48
    · have e2 := hz hc
      rw [e2] at ix ⊢
      subst hc
      have n2 : (mkS [48] == mkS [48]) = true := by simp
      refine and_t (δ1 := [some (.im (.str (mkS [48]))), none, none]) (G1 := G) (tst_go (op_go (op_go rfl rfl ix) rfl (by rw [lit_0]; simp_arith []))) (tst_go (op_go rfl rfl (by rw [lit_0]; simp_arith [])))
    · have n3 : (mkS [c] == mkS [48]) = false := by rw [mk_beq]; simp [hc]
      exact and_f (tst_go (op_go (op_go rfl rfl ix) rfl (by rw [lit_0]; simp_arith [n3])))
theorem word_from_ok {w : Nat} {G : List M} (hw : w < 4294967296) : F_word_from [.im (.str (mkS (dg w)))] G = some (.im (.int (w : Int)), G) := by
  have e := number_in_ok (G := G) hw
  have h : ¬ (4294967296 : Int) ≤ (w : Int) := by lia
  simp_arith [F_word_from, e, h]
noncomputable def Tm.th : Tm → I
  | .num w => .str (mkS (dg w))
  | .cell x => .str (mkS x)
  | .at_ r t => (Tm.at_ r t).i
  | .op s a b => (Tm.op s a b).i
theorem as_term_ok {t : Tm} {G : List M} (k : t.ok) : F_as_term [.im t.th] G = some (.im t.i, G) := by
  cases t with
  | num w =>
    have e1 := is_name_ok (x := dg w) (G := G) (by have := dg_len w 9 (Nat.lt_trans k (by decide)); lia)
    rw [dg_isnt] at e1
    have e2 := word_from_ok (G := G) k
    simp_arith [F_as_term, Tm.th, isinst3P, tyR, tyIn, e1, e2, Tm.i]
  | cell x =>
    have e1 := is_name_ok (x := x) (G := G) (by have := Nm.hi k; lia)
    rw [Nm.is k] at e1
    simp_arith [F_as_term, Tm.th, isinst3P, tyR, tyIn, e1, Tm.i]
  | at_ r t => simp_arith [F_as_term, Tm.th, isinst3P, tyR, tyIn, Tm.i]
  | op s a b => simp_arith [F_as_term, Tm.th, isinst3P, tyR, tyIn, Tm.i]
end
section
theorem Tm.i_tup (t : Tm) : ∃ xs, t.i = .tup xs := by cases t <;> exact ⟨_, rfl⟩
theorem lit_at : ("at" : Str) = mkS [97, 116] := by decide +kernel
theorem bracket_at {G : List M} {k : Nat} {r : List Nat} {t : Tm} (hk : G[k]? = some (.lst [.str (mkS [97, 116]), .str (mkS r), t.th])) (hr : Nm r) (ht : t.ok) : F_bracketed [.im (.ref k)] G = some (.im (Tm.at_ r t).i, G) := by
  have e := as_term_ok (G := G) ht
  have e1 := is_name_ok (x := r) (G := G) (by have := hr.hi; lia)
  rw [hr.is] at e1
  obtain ⟨xs, hx⟩ := t.i_tup
  rw [show (Tm.at_ r t).i = .tup [.str "at", .str (mkS r), t.i] from rfl, hx]
  rw [hx] at e
  have e2 : F_is_name_thing [.im (.str (mkS r))] G = some (.im (.bl true), G) := by
    simp_arith [F_is_name_thing, andV, isinst3P, tyR, tyIn, e1]
  have q : (mkS [97, 116] == ("at" : Str)) = true := by rw [lit_at]; simp
  have a0 : atI [I.str (mkS [97, 116]), .str (mkS r), t.th] 0 = some (.str (mkS [97, 116])) := at0 _ _
  have a1 : atI [I.str (mkS [97, 116]), .str (mkS r), t.th] 1 = some (.str (mkS r)) := at1 _ _ _
  have a2 : atI [I.str (mkS [97, 116]), .str (mkS r), t.th] 2 = some t.th := at2 _ _ _ _
  simp_arith [F_bracketed, hk, a0, a1, a2, e, e2, q]
theorem sgn_in {s : Nat} (h : Sgn s) : ((List.map I.str ["+", "-", "*", "<", "="]).any fun z => eqFl z (.str (mkS [s]))) = true := by
  rcases h with z | z | z | z | z <;> subst z <;> decide +kernel
theorem sgn_fl (s : Nat) : (flI (.str (mkS [s])) && (List.map I.str ["+", "-", "*", "<", "="]).all flI) = true := rfl
theorem bracket_op {G : List M} {k s : Nat} {a b : Tm} (hk : G[k]? = some (.lst [.str (mkS [s]), a.th, b.th])) (hs : Sgn s) (ha : a.ok) (hb : b.ok) : F_bracketed [.im (.ref k)] G = some (.im (Tm.op s a b).i, G) := by
  have ea := as_term_ok (G := G) ha
  have eb := as_term_ok (G := G) hb
  obtain ⟨xs, hx⟩ := a.i_tup
  obtain ⟨ys, hy⟩ := b.i_tup
  rw [show (Tm.op s a b).i = .tup [.str "op", .str (mkS [s]), a.i, b.i] from rfl, hx, hy]
  rw [hx] at ea
  rw [hy] at eb
  have q : (mkS [s] == ("at" : Str)) = false := by rw [lit_at, mk_beq]; simp
  have a0 : atI [I.str (mkS [s]), a.th, b.th] 0 = some (.str (mkS [s])) := at0 _ _
  have a1 : atI [I.str (mkS [s]), a.th, b.th] 1 = some a.th := at1 _ _ _
  have a2 : atI [I.str (mkS [s]), a.th, b.th] 2 = some b.th := at2 _ _ _ _
  have hin : ∀ δ : De, inP [.v (.im (.str (mkS [s]))), .v (.im (.con (List.map I.str ["+", "-", "*", "<", "="])))] δ G = some (.v (.im (.bl true)), δ, G) := fun δ => by
    unfold inP orP inL
    dsimp only [sq]
    rw [if_pos (sgn_fl s)]
    dsimp only
    rw [sgn_in hs]; rfl
  refine run_rt rfl (seq_go (δ1 := [some (.im (.ref k)), none, none]) (G1 := G) (ite_f (δ1 := [some (.im (.ref k)), none, none]) (G1 := G) (by simp_arith [hk]) rfl) (seq_go (asg_go (x := .im (.tup ys)) (δ1 := [some (.im (.ref k)), none, none]) (G1 := G) (by simp_arith [hk, a2, eb]) rfl) (seq_go (δ1 := [some (.im (.ref k)), some (.im (.tup ys)), none]) (G1 := G) (ite_f (δ1 := [some (.im (.ref k)), some (.im (.tup ys)), none]) (G1 := G) (by simp_arith []) rfl) (seq_go (δ1 := [some (.im (.ref k)), some (.im (.tup ys)), none]) (G1 := G) (ite_f (δ1 := [some (.im (.ref k)), some (.im (.tup ys)), none]) (G1 := G) (and_f (by simp_arith [hk, a0, q])) rfl) (seq_go (asg_go (x := .im (.tup xs)) (δ1 := [some (.im (.ref k)), some (.im (.tup ys)), none]) (G1 := G) (by simp_arith [hk, a1, ea]) rfl) (seq_rt (ite_t (δ1 := [some (.im (.ref k)), some (.im (.tup ys)), some (.im (.tup xs))]) (G1 := G) (and_t (δ1 := [some (.im (.ref k)), some (.im (.tup ys)), some (.im (.tup xs))]) (G1 := G) (tst_go (op_go (x := .v (.im (.str (mkS [s])))) (δ1 := [some (.im (.ref k)), some (.im (.tup ys)), some (.im (.tup xs))]) (G1 := G) (by simp_arith [hk, a0]) rfl (hin _))) (by simp_arith [])) (ret_go (δ1 := [some (.im (.ref k)), some (.im (.tup ys)), some (.im (.tup xs))]) ?_))))))))
  simp_arith [hk, a0]
theorem at_last (ps : List I) (x : I) : atI (ps ++ [x]) (-1) = some x := by
  have h1 : (1 : Int) ≤ (ps.length : Int) + 1 := by lia
  have e : (-1 + ((ps.length : Int) + 1)).toNat = ps.length := by lia
  unfold atI ixN
  simp [h1, e]
theorem ft_step {w : Wk} {g : GF} {b : SF} {i r : Nat} {δ δ1 δ2 : De} {G G1 G2 : List M} {d : I} (h1 : w.at_ i δ G = some d) (h2 : g (.im d) δ G = some (δ1, G1)) (h3 : b δ1 G1 = some (.nx δ2 G2)) : fTurns w g b i (r + 1) δ G = fTurns w g b (i + 1) r δ2 G2 := by
  rw [fTurns, h1]; dsimp only; rw [h2]; dsimp only; rw [h3]
theorem turn_open {v0 v3 v4 : Option Vl} {ns : List I} {G : List M} (hn : ns.length < 1000) : F_terms_from_w1b [v0, some (.ow (.lst ns)), some (.im (.str (mkS [40]))), v3, v4] G = some (.nx [v0, some (.ow (.lst (ns ++ [.ref G.length]))), some (.im (.str (mkS [40]))), v3, v4] (G ++ [M.lst []])) := by
  have h : ns.length < 1000000 := by lia
  refine ite_t (δ1 := [v0, some (.ow (.lst ns)), some (.im (.str (mkS [40]))), v3, v4]) (G1 := G) (by rw [lit9]; simp_arith []) ?_
  simp_arith [h]
theorem turn_word {v0 v3 v4 : Option Vl} {ps xs : List I} {top : Nat} {x : List Nat} {G : List M} (h1 : x ≠ [40]) (h2 : x ≠ [41]) (ht : G[top]? = some (.lst xs)) (hx : xs.length < 1000) : F_terms_from_w1b [v0, some (.ow (.lst (ps ++ [.ref top]))), some (.im (.str (mkS x))), v3, v4] G = some (.nx [v0, some (.ow (.lst (ps ++ [.ref top]))), some (.im (.str (mkS x))), v3, v4] (G.set top (.lst (xs ++ [.str (mkS x)])))) := by
  have h : xs.length < 1000000 := by lia
  have q1 : (mkS x == mkS [40]) = false := by rw [mk_beq]; simp [h1]
  have q2 : (mkS x == mkS [41]) = false := by rw [mk_beq]; simp [h2]
  have al := at_last ps (.ref top)
  refine ite_f (δ1 := [v0, some (.ow (.lst (ps ++ [.ref top]))), some (.im (.str (mkS x))), v3, v4]) (G1 := G) (by rw [lit9]; simp_arith [q1]) (ite_f (δ1 := [v0, some (.ow (.lst (ps ++ [.ref top]))), some (.im (.str (mkS x))), v3, v4]) (G1 := G) (by rw [lit8]; simp_arith [q2]) ?_)
  simp_arith [al, ht, h]
theorem turn_close {v0 v3 v4 : Option Vl} {ps xs : List I} {top k : Nat} {y : List I} {G : List M} (hb : F_bracketed [.im (.ref k)] G = some (.im (.tup y), G)) (ht : G[top]? = some (.lst xs)) (hx : xs.length < 1000) : F_terms_from_w1b [v0, some (.ow (.lst (ps ++ [.ref top] ++ [.ref k]))), some (.im (.str (mkS [41]))), v3, v4] G = some (.nx [v0, some (.ow (.lst (ps ++ [.ref top]))), some (.im (.str (mkS [41]))), some (.im (.tup y)), v4] (G.set top (.lst (xs ++ [.tup y])))) := by
  have h : xs.length < 1000000 := by lia
  have q1 : (mkS [41] == mkS [40]) = false := by rw [mk_beq]; simp
  have al := at_last ps (.ref top)
  have hp : (ps ++ [I.ref top] ++ [I.ref k])[(ps ++ [I.ref top] ++ [I.ref k]).length - 1]? = some (.ref k) := by simp
  have hd : (ps ++ [I.ref top] ++ [I.ref k]).dropLast = ps ++ [I.ref top] := List.dropLast_concat
  generalize ps ++ [I.ref top] ++ [I.ref k] = zs at hp hd ⊢
  refine ite_f (δ1 := [v0, some (.ow (.lst zs)), some (.im (.str (mkS [41]))), v3, v4]) (G1 := G) (by rw [lit9]; simp_arith [q1]) (ite_t (δ1 := [v0, some (.ow (.lst zs)), some (.im (.str (mkS [41]))), v3, v4]) (G1 := G) (by rw [lit8]; simp_arith []) ?_)
  have hl : ((ps ++ [I.ref top]).length : Int) ≠ 0 := by simp; lia
  have hl' : (((ps ++ [I.ref top]).length : Int) == 0) = false := beq_eq_false_iff_ne.mpr hl
  refine seq_go (asg_go (x := .im (.tup y)) (δ1 := [v0, some (.ow (.lst (ps ++ [.ref top]))), some (.im (.str (mkS [41]))), v3, v4]) (G1 := G) ?_ rfl) (seq_go (δ1 := [v0, some (.ow (.lst (ps ++ [.ref top]))), some (.im (.str (mkS [41]))), some (.im (.tup y)), v4]) (G1 := G) (ite_f (δ1 := [v0, some (.ow (.lst (ps ++ [.ref top]))), some (.im (.str (mkS [41]))), some (.im (.tup y)), v4]) (G1 := G) ?_ rfl) ?_)
  · refine bd_go (bd_go (a := .v (.im (.ref k))) (δ1 := [v0, some (.ow (.lst (ps ++ [.ref top]))), some (.im (.str (mkS [41]))), v3, v4]) (G1 := G) (un_go rfl ?_) rfl) (call_go rfl rfl hb)
    show (match zs[zs.length - 1]? with | some d => some (Ev.v (.im d), [v0, some (.ow (.lst zs.dropLast)), some (.im (.str (mkS [41]))), v3, v4], G) | none => none) = _
    rw [hp, hd]
  · generalize hps : ps ++ [I.ref top] = qs at hl' al ⊢
    simp_arith [hl']
  · generalize hps : ps ++ [I.ref top] = qs at al ⊢
    simp_arith [al, ht, h]
end
section
variable {W : List (List Nat)} {kw : Nat}
noncomputable def wI (x : List Nat) : I := .str (mkS x)
noncomputable abbrev FT (W : List (List Nat)) (kw i m : Nat) (δ : De) (G : List M) : Option Fl := fTurns (lsW (.v (.im (.ref kw))) W.length) (gNm 2) F_terms_from_w1b i m δ G
theorem w_at {i : Nat} {p : List Nat} {rest : List (List Nat)} {δ : De} {G : List M} (hW : W.drop i = p :: rest) (hk : G[kw]? = some (.lst (W.map wI))) : (lsW (.v (.im (.ref kw))) W.length).at_ i δ G = some (.str (mkS p)) := by
  have h : W[i]? = some p := by
    have := congrArg List.head? hW
    rw [List.head?_drop] at this
    exact this
  simp [lsW, sq, pk, hk, h, wI]
theorem drop1 {i : Nat} {p : List Nat} {rest : List (List Nat)} (hW : W.drop i = p :: rest) : W.drop (i + 1) = rest := by
  rw [← List.tail_drop, hW]; rfl
theorem s_open {v0 v2 v3 v4 : Option Vl} {ns : List I} {G : List M} {i m : Nat} {rest : List (List Nat)} (hW : W.drop i = [40] :: rest) (hk : G[kw]? = some (.lst (W.map wI))) (hn : ns.length < 1000) :
    FT W kw i (m + 1) [v0, some (.ow (.lst ns)), v2, v3, v4] G = FT W kw (i + 1) m [v0, some (.ow (.lst (ns ++ [.ref G.length]))), some (.im (.str (mkS [40]))), v3, v4] (G ++ [M.lst []]) := ft_step (w_at hW hk) rfl (turn_open hn)
theorem s_word {v0 v2 v3 v4 : Option Vl} {ps xs : List I} {top : Nat} {x : List Nat} {G : List M} {i m : Nat} {rest : List (List Nat)} (hW : W.drop i = x :: rest) (hk : G[kw]? = some (.lst (W.map wI))) (h1 : x ≠ [40]) (h2 : x ≠ [41]) (ht : G[top]? = some (.lst xs)) (hx : xs.length < 1000) :
    FT W kw i (m + 1) [v0, some (.ow (.lst (ps ++ [.ref top]))), v2, v3, v4] G = FT W kw (i + 1) m [v0, some (.ow (.lst (ps ++ [.ref top]))), some (.im (.str (mkS x))), v3, v4] (G.set top (.lst (xs ++ [.str (mkS x)]))) := ft_step (w_at hW hk) rfl (turn_word h1 h2 ht hx)
theorem s_close {v0 v2 v3 v4 : Option Vl} {ps xs : List I} {top k : Nat} {y : List I} {G : List M} {i m : Nat} {rest : List (List Nat)} (hW : W.drop i = [41] :: rest) (hk : G[kw]? = some (.lst (W.map wI))) (hb : F_bracketed [.im (.ref k)] G = some (.im (.tup y), G)) (ht : G[top]? = some (.lst xs)) (hx : xs.length < 1000) :
    FT W kw i (m + 1) [v0, some (.ow (.lst (ps ++ [.ref top] ++ [.ref k]))), v2, v3, v4] G = FT W kw (i + 1) m [v0, some (.ow (.lst (ps ++ [.ref top]))), some (.im (.str (mkS [41]))), some (.im (.tup y)), v4] (G.set top (.lst (xs ++ [.tup y]))) := ft_step (w_at hW hk) rfl (turn_close hb ht hx)
theorem Nm.ne {x : List Nat} (h : Nm x) : x ≠ [40] ∧ x ≠ [41] := by
  constructor <;> (intro e; subst e; have := h.ab _ (List.mem_singleton.mpr rfl); lia)
theorem dg_nb (w : Nat) : dg w ≠ [40] ∧ dg w ≠ [41] := by
  constructor <;> (intro e; have := dg_rng w _ (by rw [e]; exact List.mem_singleton.mpr rfl); lia)
theorem Sgn.ne {s : Nat} (h : Sgn s) : [s] ≠ [40] ∧ [s] ≠ [41] := by
  have := h.plain
  constructor <;> (intro e; injection e with e1 _; lia)
theorem Mor.set1 {k : Nat} {G : List M} {m : M} : Mor k k G (G.set k m) := ⟨by rw [List.length_set]; lia, fun j _ h _ => List.getElem?_set_ne (Ne.symm h)⟩
/-- what one term's words do -/
theorem read_step : ∀ {t : Tm}, t.ok → ∀ {i top : Nat} {ps xs : List I} {v0 v2 v3 v4 : Option Vl} {G : List M} {rest : List (List Nat)}, W.drop i = t.tk ++ rest → G[kw]? = some (.lst (W.map wI)) → G[top]? = some (.lst xs) → top ≠ kw → xs.length < 900 → ps.length + t.deep < 900 →
    ∃ (G' : List M) (v2' v3' : Option Vl), (∀ m, FT W kw i (t.tk.length + m) [v0, some (.ow (.lst (ps ++ [.ref top]))), v2, v3, v4] G = FT W kw (i + t.tk.length) m [v0, some (.ow (.lst (ps ++ [.ref top]))), v2', v3', v4] G') ∧ G'[top]? = some (.lst (xs ++ [t.th])) ∧ Mor top top G G' ∧ W.drop (i + t.tk.length) = rest
  | .num w, k, i, top, ps, xs, v0, v2, v3, v4, G, rest, hW, hk, ht, hne, hx, hp => by
    refine ⟨G.set top (.lst (xs ++ [.str (mkS (dg w))])), some (.im (.str (mkS (dg w)))), v3, fun m => ?_, set_at ht, Mor.set1, drop1 hW⟩
    show FT W kw i (1 + m) _ G = _
    rw [Nat.add_comm 1 m]
    exact s_word hW hk (dg_nb w).1 (dg_nb w).2 ht (by lia)
  | .cell x, k, i, top, ps, xs, v0, v2, v3, v4, G, rest, hW, hk, ht, hne, hx, hp => by
    refine ⟨G.set top (.lst (xs ++ [.str (mkS x)])), some (.im (.str (mkS x))), v3, fun m => ?_, set_at ht, Mor.set1, drop1 hW⟩
    show FT W kw i (1 + m) _ G = _
    rw [Nat.add_comm 1 m]
    exact s_word hW hk (Nm.ne k).1 (Nm.ne k).2 ht (by lia)
  | .at_ r t, k, i, top, ps, xs, v0, v2, v3, v4, G, rest, hW, hk, ht, hne, hx, hp => by
    have hW0 : W.drop i = [40] :: ([97, 116] :: (r :: (t.tk ++ ([41] :: rest)))) := by rw [hW, Tm.tk]; simp
    have hW1 := drop1 hW0
    have hW2 := drop1 hW1
    have hW3 := drop1 hW2
    have tl : top < G.length := (List.getElem?_eq_some_iff.mp ht).1
    have kl : kw < G.length := (List.getElem?_eq_some_iff.mp hk).1
    have hk1 : (G ++ [M.lst []])[kw]? = some (.lst (W.map wI)) := by rw [List.getElem?_append_left kl]; exact hk
    have hn1 : (G ++ [M.lst []])[G.length]? = some (.lst []) := by simp
    have hk2 : ((G ++ [M.lst []]).set G.length (.lst [.str (mkS [97, 116])]))[kw]? = some (.lst (W.map wI)) := by rw [List.getElem?_set_ne (by lia)]; exact hk1
    have hn2 : ((G ++ [M.lst []]).set G.length (.lst [.str (mkS [97, 116])]))[G.length]? = some (.lst [.str (mkS [97, 116])]) := set_at hn1
    have hk3 : (((G ++ [M.lst []]).set G.length (.lst [.str (mkS [97, 116])])).set G.length (.lst [.str (mkS [97, 116]), .str (mkS r)]))[kw]? = some (.lst (W.map wI)) := by rw [List.getElem?_set_ne (by lia)]; exact hk2
    have hn3 : (((G ++ [M.lst []]).set G.length (.lst [.str (mkS [97, 116])])).set G.length (.lst [.str (mkS [97, 116]), .str (mkS r)]))[G.length]? = some (.lst [.str (mkS [97, 116]), .str (mkS r)]) := set_at hn2
    have mo3 : Mor G.length G.length G (((G ++ [M.lst []]).set G.length (.lst [.str (mkS [97, 116])])).set G.length (.lst [.str (mkS [97, 116]), .str (mkS r)])) := ((Mor.app _).trans Mor.set1).trans Mor.set1
    generalize hG3 : ((G ++ [M.lst []]).set G.length (M.lst [.str (mkS [97, 116])])).set G.length (.lst [.str (mkS [97, 116]), .str (mkS r)]) = G3 at hk3 hn3 mo3
    obtain ⟨G4, v2', v3', e4, hn4, mo4, hW4⟩ := read_step (t := t) k.2 (i := i + 1 + 1 + 1) (top := G.length) (ps := ps ++ [.ref top]) (xs := [.str (mkS [97, 116]), .str (mkS r)]) (v0 := v0) (v2 := some (.im (.str (mkS r)))) (v3 := v3) (v4 := v4) (G := G3) (rest := [41] :: rest) hW3 hk3 hn3 (by lia) (by simp) (by simp only [Tm.deep] at hp; simp; lia)
    have mo := mo3.trans mo4
    have hk4 : G4[kw]? = some (.lst (W.map wI)) := (mo.at_ kw kl (by lia) (by lia)).trans hk
    have ht4 : G4[top]? = some (.lst xs) := (mo.at_ top tl (by lia) (by lia)).trans ht
    have hb := bracket_at (G := G4) (k := G.length) (r := r) (t := t) hn4 k.1 k.2
    refine ⟨G4.set top (.lst (xs ++ [(Tm.at_ r t).i])), some (.im (.str (mkS [41]))), some (.im (Tm.at_ r t).i), fun m => ?_, set_at ht4, ?_, ?_⟩
    · rw [show (Tm.at_ r t).tk.length + m = ((t.tk.length + (m + 1) + 1) + 1) + 1 by simp [Tm.tk]; lia]
      refine (s_open (m := t.tk.length + (m + 1) + 1 + 1) hW0 hk (by simp; lia)).trans ?_
      refine (s_word (m := t.tk.length + (m + 1) + 1) (ps := ps ++ [I.ref top]) hW1 hk1 (by decide) (by decide) hn1 (by simp)).trans ?_
      refine (s_word (m := t.tk.length + (m + 1)) (ps := ps ++ [I.ref top]) hW2 hk2 k.1.ne.1 k.1.ne.2 hn2 (by simp)).trans ?_
      refine (congrArg (FT W kw (i + 1 + 1 + 1) (t.tk.length + (m + 1)) _) hG3).trans ?_
      refine (e4 (m + 1)).trans ?_
      refine (s_close (m := m) (ps := ps) hW4 hk4 hb ht4 (by lia)).trans ?_
      rw [show i + 1 + 1 + 1 + t.tk.length + 1 = i + (Tm.at_ r t).tk.length by simp [Tm.tk]; lia]
      rfl
    · refine ⟨by rw [List.length_set]; exact mo.len, fun j hj h1 h2 => ?_⟩
      rw [List.getElem?_set_ne (Ne.symm h1)]
      exact mo.at_ j hj (by lia) (by lia)
    · have := drop1 hW4
      rw [show i + (Tm.at_ r t).tk.length = i + 1 + 1 + 1 + t.tk.length + 1 by simp [Tm.tk]; lia]
      exact this
  | .op s a b, k, i, top, ps, xs, v0, v2, v3, v4, G, rest, hW, hk, ht, hne, hx, hp => by
    have hW0 : W.drop i = [40] :: ([s] :: (a.tk ++ (b.tk ++ ([41] :: rest)))) := by rw [hW, Tm.tk]; simp
    have hW1 := drop1 hW0
    have hW2 := drop1 hW1
    have tl : top < G.length := (List.getElem?_eq_some_iff.mp ht).1
    have kl : kw < G.length := (List.getElem?_eq_some_iff.mp hk).1
    have hk1 : (G ++ [M.lst []])[kw]? = some (.lst (W.map wI)) := by rw [List.getElem?_append_left kl]; exact hk
    have hn1 : (G ++ [M.lst []])[G.length]? = some (.lst []) := by simp
    have hk2 : ((G ++ [M.lst []]).set G.length (.lst [.str (mkS [s])]))[kw]? = some (.lst (W.map wI)) := by rw [List.getElem?_set_ne (by lia)]; exact hk1
    have hn2 : ((G ++ [M.lst []]).set G.length (.lst [.str (mkS [s])]))[G.length]? = some (.lst [.str (mkS [s])]) := set_at hn1
    have mo2 : Mor G.length G.length G ((G ++ [M.lst []]).set G.length (.lst [.str (mkS [s])])) := (Mor.app _).trans Mor.set1
    generalize hG2 : (G ++ [M.lst []]).set G.length (M.lst [.str (mkS [s])]) = G2 at hk2 hn2 mo2
    obtain ⟨G3, v2', v3', e3, hn3, mo3, hW3⟩ := read_step (t := a) k.2.1 (i := i + 1 + 1) (top := G.length) (ps := ps ++ [.ref top]) (xs := [.str (mkS [s])]) (v0 := v0) (v2 := some (.im (.str (mkS [s])))) (v3 := v3) (v4 := v4) (G := G2) (rest := b.tk ++ ([41] :: rest)) hW2 hk2 hn2 (by lia) (by simp) (by simp only [Tm.deep] at hp; simp; lia)
    have mo23 := mo2.trans mo3
    have hk3 : G3[kw]? = some (.lst (W.map wI)) := (mo23.at_ kw kl (by lia) (by lia)).trans hk
    obtain ⟨G4, v2'', v3'', e4, hn4, mo4, hW4⟩ := read_step (t := b) k.2.2 (i := i + 1 + 1 + a.tk.length) (top := G.length) (ps := ps ++ [.ref top]) (xs := [.str (mkS [s])] ++ [a.th]) (v0 := v0) (v2 := v2') (v3 := v3') (v4 := v4) (G := G3) (rest := [41] :: rest) hW3 hk3 hn3 (by lia) (by simp) (by simp only [Tm.deep] at hp; simp; lia)
    have mo := mo23.trans mo4
    have hk4 : G4[kw]? = some (.lst (W.map wI)) := (mo.at_ kw kl (by lia) (by lia)).trans hk
    have ht4 : G4[top]? = some (.lst xs) := (mo.at_ top tl (by lia) (by lia)).trans ht
    have hb := bracket_op (G := G4) (k := G.length) (s := s) (a := a) (b := b) hn4 k.1 k.2.1 k.2.2
    refine ⟨G4.set top (.lst (xs ++ [(Tm.op s a b).i])), some (.im (.str (mkS [41]))), some (.im (Tm.op s a b).i), fun m => ?_, set_at ht4, ?_, ?_⟩
    · rw [show (Tm.op s a b).tk.length + m = ((a.tk.length + (b.tk.length + (m + 1))) + 1) + 1 by simp [Tm.tk]; lia]
      refine (s_open (m := a.tk.length + (b.tk.length + (m + 1)) + 1) hW0 hk (by simp; lia)).trans ?_
      refine (s_word (m := a.tk.length + (b.tk.length + (m + 1))) (ps := ps ++ [I.ref top]) hW1 hk1 k.1.ne.1 k.1.ne.2 hn1 (by simp)).trans ?_
      refine (congrArg (FT W kw (i + 1 + 1) (a.tk.length + (b.tk.length + (m + 1))) _) hG2).trans ?_
      refine (e3 (b.tk.length + (m + 1))).trans ?_
      refine (e4 (m + 1)).trans ?_
      refine (s_close (m := m) (ps := ps) hW4 hk4 hb ht4 (by lia)).trans ?_
      rw [show i + 1 + 1 + a.tk.length + b.tk.length + 1 = i + (Tm.op s a b).tk.length by simp [Tm.tk]; lia]
      rfl
    · refine ⟨by rw [List.length_set]; exact mo.len, fun j hj h1 h2 => ?_⟩
      rw [List.getElem?_set_ne (Ne.symm h1)]
      exact mo.at_ j hj (by lia) (by lia)
    · have := drop1 hW4
      rw [show i + (Tm.op s a b).tk.length = i + 1 + 1 + a.tk.length + b.tk.length + 1 by simp [Tm.tk]; lia]
      exact this
end
section
theorem comp_as {G : List M} {k : Nat} {t : Tm} {δ : De} (hk : G[k]? = some (.lst [t.th])) (h : t.ok) : cTurns (lsW (.v (.im (.ref k))) 1) c1 yesF (bd (consF (varF 0) nilF) (callP 1 F_as_term)) [] 0 1 [] δ G = some ([t.i], G) := by
  have e := as_term_ok (G := G) h
  obtain ⟨ds, G', e2, ed, eg⟩ := cT_inv (w := lsW (.v (.im (.ref k))) 1) (c := c1) (tt := yesF) (te := bd (consF (varF 0) nilF) (callP 1 F_as_term)) (di := []) (δ := δ) (fun i acc G' => acc = ([t.i].take i) ∧ G' = G)
    (fun i acc g hi zz => by
      obtain ⟨ea, eg⟩ := zz
      have hi : i < 1 := hi
      have : i = 0 := by lia
      subst this; subst eg
      refine ⟨t.th, [t.th], _, _, t.i, [some (.im t.th)], g, by simp [lsW, sq, pk, hk], rfl, rfl, bd_go (bd_go rfl rfl) (call_go rfl rfl e), by rw [ea]; rfl, rfl⟩)
    (fun _ _ p => by obtain ⟨_, rfl⟩ := p; simp [lsW, sq, pk, hk]) 1 0 [] G rfl ⟨rfl, rfl⟩
  rw [ed, eg] at e2
  exact e2
theorem terms_from_ok {t : Tm} {G : List M} {kw : Nat} (h : t.ok) (hd : t.deep ≤ 100) (hk : G[kw]? = some (.lst (t.tk.map wI))) : ∃ G', F_terms_from [.im (.ref kw)] G = some (.ow (.lst [t.i]), G') := by
  have kl : kw < G.length := (List.getElem?_eq_some_iff.mp hk).1
  have hk1 : (G ++ [M.lst []])[kw]? = some (.lst (t.tk.map wI)) := by rw [List.getElem?_append_left kl]; exact hk
  have hn1 : (G ++ [M.lst []])[G.length]? = some (.lst []) := by simp
  obtain ⟨G2, v2, v3, e2, hn2, mo, _⟩ := read_step (W := t.tk) (kw := kw) h (i := 0) (top := G.length) (ps := []) (xs := []) (v0 := some (.im (.ref kw))) (v2 := none) (v3 := none) (v4 := none) (G := G ++ [M.lst []]) (rest := []) (by simp) hk1 hn1 (by lia) (by simp) (by simp; lia)
  have hk2 : G2[kw]? = some (.lst (t.tk.map wI)) := (mo.at_ kw (by simp; lia) (by lia) (by lia)).trans hk1
  have ef := e2 0
  have hfin : FT t.tk kw (0 + t.tk.length) 0 [some (.im (.ref kw)), some (.ow (.lst ([] ++ [.ref G.length]))), v2, v3, none] G2 = some (.nx [some (.im (.ref kw)), some (.ow (.lst ([] ++ [.ref G.length]))), v2, v3, none] G2) := by
    unfold FT fTurns
    rw [if_pos]
    simp [lsW, sq, pk, hk2]
  rw [hfin, Nat.add_zero] at ef
  obtain ⟨xs, hx⟩ := t.i_tup
  have ec := comp_as (δ := [some (.im (.ref kw)), some (.ow (.lst [I.ref G.length])), v2, v3, none]) hn2 h
  refine ⟨G2, run_rt rfl (seq_go (asg_go (x := .ow (.lst [.ref G.length])) (δ1 := [some (.im (.ref kw)), none, none, none, none]) (G1 := G ++ [M.lst []]) (by simp_arith []) rfl) (seq_go (for_go (seq_it (e := .v (.im (.ref kw))) (n := t.tk.length) (δ1 := [some (.im (.ref kw)), some (.ow (.lst [.ref G.length])), none, none, none]) (G1 := G ++ [M.lst []]) (xs := t.tk.map wI) (by simp_arith []) rfl (by simp [sq, pk, hk1]) (by simp)) ef) (seq_go (asg_go (x := .ow (.lst [t.i])) (δ1 := [some (.im (.ref kw)), some (.ow (.lst [.ref G.length])), v2, v3, none]) (G1 := G2) (comp_go (by rfl) (seq_it (e := .v (.im (.ref G.length))) (n := 1) (δ1 := [some (.im (.ref kw)), some (.ow (.lst [.ref G.length])), v2, v3, none]) (G1 := G2) (xs := [t.th]) (op_go rfl rfl ?_) rfl (by simp [sq, pk, hn2]) rfl) (show 1 ≤ 100000 by decide) ec) rfl) (seq_go (δ1 := [some (.im (.ref kw)), some (.ow (.lst [.ref G.length])), v2, v3, some (.ow (.lst [t.i]))]) (G1 := G2) (ite_f (δ1 := [some (.im (.ref kw)), some (.ow (.lst [.ref G.length])), v2, v3, some (.ow (.lst [t.i]))]) (G1 := G2) (or_f (δ1 := [some (.im (.ref kw)), some (.ow (.lst [.ref G.length])), v2, v3, some (.ow (.lst [t.i]))]) (G1 := G2) (by simp_arith []) (tst_go (op_go rfl rfl ?_))) rfl) rfl))))⟩
  · have := at0 (I.ref G.length) []
    simp [ixP, orP, ixS, sq, pk, this]
  · rw [hx]
    simp [inNP, pk, tpN, isNo]
theorem one_term_ok {t : Tm} {G : List M} (h : t.ok) (hd : t.deep ≤ 100) : ∃ G', F_one_term [.ow (.lst (t.tk.map wI))] G = some (.im t.i, G') := by
  obtain ⟨G', e⟩ := terms_from_ok (G := G ++ [M.lst (t.tk.map wI)]) (kw := G.length) h hd (by simp)
  have := at0 t.i []
  obtain ⟨xs, hx⟩ := t.i_tup
  refine ⟨G', run_rt rfl (seq_go (asg_go (x := .ow (.lst [t.i])) (δ1 := [some (.im (.ref G.length)), none]) (G1 := G') (bd_go (bd_go (a := .v (.im (.ref G.length))) (δ1 := [some (.im (.ref G.length)), none]) (G1 := G ++ [M.lst (t.tk.map wI)]) rfl rfl) (call_go rfl rfl e)) rfl) (seq_go (δ1 := [some (.im (.ref G.length)), some (.ow (.lst [t.i]))]) (G1 := G') (ite_f (δ1 := [some (.im (.ref G.length)), some (.ow (.lst [t.i]))]) (G1 := G') (by simp_arith []) rfl) (ret_go (δ1 := [some (.im (.ref G.length)), some (.ow (.lst [t.i]))]) ?_)))⟩
  simp_arith [this]
theorem fl_len (c : Nat) (z : List Nat) (hz : z.length ≤ 2) (h1 : 1 ≤ z.length) : ∀ l : List Nat, (l.flatMap fun d => if d = c then z else [d]).length ≤ 2 * l.length
  | [] => by simp
  | d :: l => by
    have := fl_len c z hz h1 l
    rw [List.flatMap_cons, List.length_append, List.length_cons]
    split
    · lia
    · simp only [List.length_cons, List.length_nil]; lia
theorem spread_ok {t : Tm} {G : List M} (h : t.ok) (hl : t.tx.length ≤ 10000) : F_spread [.im (.str (mkS t.tx))] G = some (.ow (.lst (t.tk.map wI)), G) := by
  have e1 : Txt.replace (mkS t.tx) "(" "( " = mkS (t.tx.flatMap fun d => if d = 40 then [40, 32] else [d]) := by rw [lit1, lit2]; exact str_of (by rw [replace_l, mkS_l])
  have l1 := fl_len 40 [40, 32] (by simp) (by simp) t.tx
  have e2 : Txt.replace (Txt.replace (mkS t.tx) "(" "( ") ")" " )" = mkS (t.tx.flatMap gg) := by rw [e1, lit3, lit4]; exact str_of (by rw [replace_l, mkS_l, ff_gg])
  have l2 := fl_len 41 [32, 41] (by simp) (by simp) (t.tx.flatMap fun d => if d = 40 then [40, 32] else [d])
  rw [ff_gg] at l2
  have e3 := spread_l h
  have z1 : ("( " : Str).length = 2 := by decide +kernel
  have z2 : (" )" : Str).length = 2 := by decide +kernel
  have z3 : ((" " : Str).length == 0) = false := by decide +kernel
  have s1 : unF (replP "(" "( ") (varF 0) [some (.im (.str (mkS t.tx)))] G = some (.v (.im (.str (Txt.replace (mkS t.tx) "(" "( "))), [some (.im (.str (mkS t.tx)))], G) := by
    refine un_go rfl ?_
    unfold replP
    dsimp only
    rw [if_pos (by rw [mkS_len, z1]; lia)]
  have s2 : unF (replP ")" " )") (unF (replP "(" "( ") (varF 0)) [some (.im (.str (mkS t.tx)))] G = some (.v (.im (.str (Txt.replace (Txt.replace (mkS t.tx) "(" "( ") ")" " )"))), [some (.im (.str (mkS t.tx)))], G) := by
    refine un_go s1 ?_
    unfold replP
    dsimp only
    rw [if_pos (by rw [e1, mkS_len, z2]; lia)]
  refine run_rt rfl (ret_go (δ1 := [some (.im (.str (mkS t.tx)))]) (un_go s2 ?_))
  unfold splP
  dsimp only
  rw [if_pos ⟨z3, by rw [e2, mkS_len]; lia⟩, e3, List.map_map]
  rfl
theorem read_ok {t : Tm} {G : List M} (h : t.ok) (hd : t.deep ≤ 100) (hl : t.tx.length ≤ 10000) : ∃ G', F_read_term [.im (.str (mkS t.tx))] G = some (.im t.i, G') := by
  have e1 := spread_ok (G := G) h hl
  obtain ⟨G', e2⟩ := one_term_ok (G := G) h hd
  obtain ⟨xs, hx⟩ := t.i_tup
  refine ⟨G', ?_⟩
  rw [hx] at e2 ⊢
  simp_arith [F_read_term, e1, e2]
theorem alike_int {n : Nat} {w : Int} {G : List M} : F__law_alike (n + 1) [.im (.int w), .im (.int w)] G = some (.im (.bl true), G) := by
  simp_arith [F__law_alike, isinst3P, tyR, tyIn]
theorem alike_str {n : Nat} {x : Str} {G : List M} : F__law_alike (n + 1) [.im (.str x), .im (.str x)] G = some (.im (.bl true), G) := by
  simp_arith [F__law_alike, andV, isinst3P, tyR, tyIn]
theorem alike_tup {n : Nat} {xs : List I} {G : List M} (h : ∀ x ∈ xs, F__law_alike n [.im x, .im x] G = some (.im (.bl true), G)) (hl : xs.length ≤ 1000) : F__law_alike (n + 1) [.im (.tup xs), .im (.tup xs)] G = some (.im (.bl true), G) := by
  have hc : cTurns (ziT xs xs) (cN 2) yesF (bd (consF (varF 0) (consF (varF 1) nilF)) (callP 2 (F__law_alike n))) [] 0 xs.length [] [some (.im (.tup xs)), some (.im (.tup xs))] G = some ((List.replicate xs.length true).map I.bl, G) := by
    have hn : (ziT xs xs).n = xs.length := by simp [ziT]
    obtain ⟨ds, G', e2, ed, eg⟩ := cT_inv (w := ziT xs xs) (c := cN 2) (tt := yesF) (te := bd (consF (varF 0) (consF (varF 1) nilF)) (callP 2 (F__law_alike n))) (di := []) (δ := [some (.im (.tup xs)), some (.im (.tup xs))]) (fun i acc G' => acc = (List.replicate i true).map I.bl ∧ G' = G)
      (fun i acc g hi zz => by
        obtain ⟨ea, eg⟩ := zz
        rw [hn] at hi
        subst eg
        refine ⟨.tup [xs[i], xs[i]], [xs[i], xs[i]], _, _, .bl true, [some (.im xs[i]), some (.im xs[i])], g, by simp [ziT, hi], rfl, rfl, bd_go (bd_go rfl (bd_go (bd_go rfl rfl) rfl)) (call_go rfl rfl (h xs[i] (List.getElem_mem hi))), by rw [ea, List.replicate_succ', List.map_append]; rfl, rfl⟩)
      (fun _ _ p => rfl) xs.length 0 [] G (by rw [hn]; lia) ⟨rfl, rfl⟩
    rw [hn] at ed
    rw [ed, eg] at e2
    exact e2
  have hn : (ziT xs xs).n = xs.length := by simp [ziT]
  have hall : bd (consF (compF (itF (consF (varF 0) (consF (varF 1) nilF)) zipTP) [] (cN 2) yesF (bd (consF (varF 0) (consF (varF 1) nilF)) (callP 2 (F__law_alike n)))) nilF) allP [some (.im (.tup xs)), some (.im (.tup xs))] G = some (.v (.im (.bl true)), [some (.im (.tup xs)), some (.im (.tup xs))], G) := by
    refine bd_go (bd_go (comp_go (by rfl) (it_go (es := [.v (.im (.tup xs)), .v (.im (.tup xs))]) (w := ziT xs xs) rfl rfl) (by rw [hn]; lia) (by rw [hn]; exact hc)) rfl) ?_
    unfold allP
    dsimp only [pk]
    rw [blsI_map]
    dsimp only
    have : (List.replicate xs.length true).all id = true := by simp
    rw [this]
  refine run_rt rfl (seq_rt (ite_t (δ1 := [some (.im (.tup xs)), some (.im (.tup xs))]) (G1 := G) (by simp_arith [isinst3P, tyR, tyIn]) (ret_go (δ1 := [some (.im (.tup xs)), some (.im (.tup xs))]) ?_)))
  unfold andV
  refine bd_go (a := .v (.im (.bl true))) (δ1 := [some (.im (.tup xs)), some (.im (.tup xs))]) (G1 := G) (by simp_arith []) ?_
  exact hall
theorem alike_ok : ∀ {n : Nat} {t : Tm} {G : List M}, t.deep + 1 ≤ n → F__law_alike n [.im t.i, .im t.i] G = some (.im (.bl true), G)
  | 0, t, G, h => by lia
  | n + 1, .num w, G, h => by
    simp only [Tm.deep] at h
    obtain ⟨m, rfl⟩ : ∃ m, n = m + 1 := ⟨n - 1, by lia⟩
    refine alike_tup (fun x hx => ?_) (by simp)
    simp only [List.mem_cons, List.not_mem_nil, or_false] at hx
    rcases hx with e | e <;> subst e
    · exact alike_str
    · exact alike_int
  | n + 1, .cell x, G, h => by
    simp only [Tm.deep] at h
    obtain ⟨m, rfl⟩ : ∃ m, n = m + 1 := ⟨n - 1, by lia⟩
    refine alike_tup (fun x hx => ?_) (by simp)
    simp only [List.mem_cons, List.not_mem_nil, or_false] at hx
    rcases hx with e | e <;> subst e <;> exact alike_str
  | n + 1, .at_ r t, G, h => by
    simp only [Tm.deep] at h
    have e := alike_ok (n := n) (t := t) (G := G) (by lia)
    obtain ⟨m, rfl⟩ : ∃ m, n = m + 1 := ⟨n - 1, by lia⟩
    refine alike_tup (fun x hx => ?_) (by simp)
    simp only [List.mem_cons, List.not_mem_nil, or_false] at hx
    rcases hx with e1 | e1 | e1 <;> subst e1
    · exact alike_str
    · exact alike_str
    · exact e
  | n + 1, .op s a b, G, h => by
    simp only [Tm.deep] at h
    have e := alike_ok (n := n) (t := a) (G := G) (by lia)
    have e' := alike_ok (n := n) (t := b) (G := G) (by lia)
    obtain ⟨m, rfl⟩ : ∃ m, n = m + 1 := ⟨n - 1, by lia⟩
    refine alike_tup (fun x hx => ?_) (by simp)
    simp only [List.mem_cons, List.not_mem_nil, or_false] at hx
    rcases hx with e1 | e1 | e1 | e1 <;> subst e1
    · exact alike_str
    · exact alike_str
    · exact e
    · exact e'
noncomputable def Tm.kids : Tm → List Tm
  | .at_ _ t => [t]
  | .op _ a b => [a, b]
  | _ => []
theorem inner_ok {t : Tm} {G : List M} : F_inner_terms [.im t.i] G = some (.im (.tup (t.kids.map Tm.i)), G) := by
  cases t with
  | num w => simp_arith [F_inner_terms, Tm.i, at0, q_na, q_no, Tm.kids]
  | cell x => simp_arith [F_inner_terms, Tm.i, at0, q_ca, q_co, Tm.kids]
  | at_ r t => simp_arith [F_inner_terms, Tm.i, at0, at2, Tm.kids]
  | op s a b => simp_arith [F_inner_terms, Tm.i, at0, at2, at3, q_oa, Tm.kids]
noncomputable def szs (L : List Tm) : Nat := (L.map Tm.size).sum
theorem szs_kids (t : Tm) : szs t.kids + 1 = t.size := by cases t <;> simp [szs, Tm.kids, Tm.size] <;> lia
theorem parts_turn {v0 v3 : Option Vl} {told : List I} {L : List Tm} {t : Tm} {G : List M} (h1 : told.length < 1000) (h2 : L.length < 1000) : F_terms_in_w1b [v0, some (.ow (.lst told)), some (.ow (.lst ((L ++ [t]).map Tm.i))), v3] G = some (.nx [v0, some (.ow (.lst (told ++ [t.i]))), some (.ow (.lst ((L ++ t.kids.reverse).map Tm.i))), some (.im t.i)] G) := by
  have hp : ((L ++ [t]).map Tm.i)[((L ++ [t]).map Tm.i).length - 1]? = some t.i := by simp
  have hd : ((L ++ [t]).map Tm.i).dropLast = L.map Tm.i := by rw [List.map_append]; exact List.dropLast_concat
  have e := inner_ok (t := t) (G := G)
  have h1' : told.length < 1000000 := by lia
  have hk : t.kids.length ≤ 2 := by cases t <;> simp [Tm.kids]
  generalize (L ++ [t]).map Tm.i = zs at hp hd ⊢
  refine seq_go (asg_go (x := .im t.i) (δ1 := [v0, some (.ow (.lst told)), some (.ow (.lst (L.map Tm.i))), v3]) (G1 := G) (un_go rfl ?_) rfl) (seq_go (δ1 := [v0, some (.ow (.lst (told ++ [t.i]))), some (.ow (.lst (L.map Tm.i))), some (.im t.i)]) (G1 := G) (by simp_arith [h1']) ?_)
  · show (match zs[zs.length - 1]? with | some d => some (Ev.v (.im d), [v0, some (.ow (.lst told)), some (.ow (.lst zs.dropLast)), v3], G) | none => none) = _
    rw [hp, hd]
  · have h3 : (L.map Tm.i).length + (t.kids.map Tm.i).reverse.length ≤ 1000000 := by simp; lia
    rw [List.map_append, List.map_reverse]
    have h4 : L.length + t.kids.length ≤ 1000000 := by lia
    simp_arith [extend1P, extend1P.notC, revP, e, h3, h4]
theorem parts_wh {v0 : Option Vl} {G : List M} : ∀ (n : Nat) {told : List I} {L : List Tm} {v3 : Option Vl}, szs L = n → told.length + n < 1000 → ∃ (told' : List I) (v3' : Option Vl), whF F_terms_in_w1c F_terms_in_w1b [v0, some (.ow (.lst told)), some (.ow (.lst (L.map Tm.i))), v3] G = some (.nx [v0, some (.ow (.lst told')), some (.ow (.lst [])), v3'] G) ∧ told'.length = told.length + n
  | n, told, L, v3, hs, hl => by
    rcases List.eq_nil_or_concat L with rfl | ⟨L', t, rfl⟩
    · have : n = 0 := by simpa [szs] using hs.symm
      subst this
      exact ⟨told, v3, whF_done (by simp_arith [F_terms_in_w1c]), rfl⟩
    · rw [List.concat_eq_append] at hs ⊢
      have hk := szs_kids t
      have e1 : szs (L' ++ [t]) = szs L' + t.size := by simp [szs]
      have e2 : szs (L' ++ t.kids.reverse) = szs L' + szs t.kids := by simp [szs, List.sum_reverse]
      have hL : L'.length ≤ szs L' := by
        clear e1 e2 hs
        induction L' with
        | nil => simp [szs]
        | cons a L' ih =>
          have h1 : 1 ≤ a.size := by cases a <;> simp [Tm.size] <;> lia
          simp [szs] at ih ⊢
          lia
      obtain ⟨m, rfl⟩ : ∃ m, n = m + 1 := ⟨n - 1, by lia⟩
      obtain ⟨told', v3', e, hl'⟩ := parts_wh m (told := told ++ [t.i]) (L := L' ++ t.kids.reverse) (v3 := some (.im t.i)) (by lia) (by simp; lia)
      refine ⟨told', v3', ?_, by rw [hl']; simp; lia⟩
      rw [whF_next (δ1 := [v0, some (.ow (.lst told)), some (.ow (.lst ((L' ++ [t]).map Tm.i))), v3]) (G1 := G) (by simp_arith [F_terms_in_w1c]) (parts_turn (by lia) (by lia))]
      exact e
theorem parts_ok {t : Tm} {G : List M} (h : t.size ≤ 100) : F_parts [.im t.i] G = some (.im (.int (t.size : Int)), G) := by
  obtain ⟨told, v3, e, hl⟩ := parts_wh (v0 := some (.im t.i)) (G := G) t.size (told := []) (L := [t]) (v3 := none) (by simp [szs]) (by simp; lia)
  have e1 : F_terms_in [.im t.i] G = some (.ow (.lst told), G) := run_rt rfl (seq_go (asg_go (x := .ow (.lst [])) (δ1 := [some (.im t.i), none, none, none]) (G1 := G) rfl rfl) (seq_go (asg_go (x := .ow (.lst [t.i])) (δ1 := [some (.im t.i), some (.ow (.lst [])), none, none]) (G1 := G) rfl rfl) (seq_go e rfl)))
  have hl' : told.length = t.size := by simpa using hl
  rw [← hl']
  simp_arith [F_parts, e1]
theorem many_ok : ∀ {n : Nat} {t : Tm} {G : List M}, t.deep ≤ n → F__law_many n [.im t.i] G = some (.im (.int (t.size : Int)), G)
  | 0, t, G, h => by cases t <;> simp [Tm.deep] at h
  | n + 1, .num w, G, h => by simp_arith [F__law_many, Tm.i, at0, q_na, q_no, Tm.size]
  | n + 1, .cell x, G, h => by simp_arith [F__law_many, Tm.i, at0, q_ca, q_co, Tm.size]
  | n + 1, .at_ r t, G, h => by
    have e := many_ok (n := n) (t := t) (G := G) (by simp only [Tm.deep] at h; lia)
    simp_arith [F__law_many, Tm.i, at0, at2, q_ao, e, Tm.size]
  | n + 1, .op s a b, G, h => by
    have e := many_ok (n := n) (t := a) (G := G) (by simp only [Tm.deep] at h; lia)
    have e' := many_ok (n := n) (t := b) (G := G) (by simp only [Tm.deep] at h; lia)
    simp_arith [F__law_many, Tm.i, at0, at2, at3, e, e', Tm.size]
theorem right_ok {t : Tm} {G : List M} (h : t.ok) (hd : t.deep ≤ 6) : ∃ G', F__law_right [.im t.i] G = some (.im (.bl true), G') := by
  have hz := Tm.size_six hd
  have hl : t.tx.length ≤ 10000 := Nat.le_trans (t.tx_len h) (by lia)
  have e1 := text_ok 9 (t := t) (G := G) (by lia) h (by lia)
  have e2 := show_ok 9 (t := t) (G := G) (by lia) h (by lia)
  have e3 := parts_ok (t := t) (G := G) (by lia)
  have e4 := many_ok (n := 9) (t := t) (G := G) (by lia)
  have e5 := alike_int (n := 8) (w := (t.size : Int)) (G := G)
  obtain ⟨G', e6⟩ := read_ok (G := G) h (by lia) hl
  have e7 := alike_ok (n := 9) (t := t) (G := G') (by lia)
  refine ⟨G', ?_⟩
  simp_arith [F__law_right, isinst3P, tyR, tyIn, e1, e2, e3, e4, e5, e6, e7]
end
section
theorem law_true (ns : List Int) (h : ns.length ≤ 63) : ∃ G, F_law [.im (.fro (ns.map I.int))] [] = some (.im (.bl true), G) := by
  obtain ⟨a, so, le, e1, a0, a1, hle⟩ := deal_ok (b := 0) (G := []) h (by lia)
  have e1' : F__law_deal [.im (.fro (ns.map I.int)), .im (.int 0)] [] = some (.ow (.dic (dealI a 0 1)), [M.lst (so.map I.int), M.lst (le.map I.int)]) := e1
  obtain ⟨sc, hsc⟩ : ∃ sc, sc = I.fro (ns.map I.int) := ⟨_, rfl⟩
  rw [← hsc] at e1' ⊢
  have D0 : DG [M.lst (so.map I.int), M.lst (le.map I.int), M.dic (dealI a 0 1)] 2 1 := ⟨a, 0, le, rfl, rfl, by decide, a0, a1, Int.le_refl _, hle⟩
  obtain ⟨ys, G1, e2, ly, hy, D1, mo⟩ := names_ok D0
  have l1 : 3 ≤ G1.length := mo.len
  have S1 : Sn (G1 ++ [M.lst (ys.map I.str)] ++ [M.lst [.int 9]]) 2 1 G1.length (G1.length + 1) ys :=
    ⟨(D1.app _).app _, by simp, ⟨9, by simp⟩, ⟨by lia, by lia⟩, ⟨by lia, by lia⟩, by lia, by lia, by lia, hy⟩
  obtain ⟨t1, G2, e3, k1, d1, S2, l2⟩ := any_term_ok 9 0 (by decide) (by decide) S1
  have l2' : G2.length = G1.length + 2 := by rw [l2]; simp
  have S3 : Sn (G2 ++ [M.lst [.int 9]]) 2 1 G1.length G2.length ys :=
    ⟨S2.D.app _, by rw [List.getElem?_append_left (by lia)]; exact S2.hw, ⟨9, by simp⟩, ⟨by lia, by lia⟩, ⟨by lia, by lia⟩, by lia, by lia, by lia, hy⟩
  obtain ⟨t2, G3, e4, k2, d2, _, _⟩ := any_term_ok 9 0 (by decide) (by decide) S3
  have ok : ∀ t ∈ [t1, t2, t1, t2], t.ok ∧ t.deep ≤ 6 := fun t ht => by
    simp only [List.mem_cons, List.not_mem_nil, or_false] at ht
    rcases ht with e | e | e | e <;> subst e <;> first | exact ⟨k1, by lia⟩ | exact ⟨k2, by lia⟩
  have hTs : [t1.i, t2.i, t1.i, t2.i] = [t1, t2, t1, t2].map Tm.i := rfl
  obtain ⟨ds, G4, e5, ed, _⟩ := cT_inv (w := lsW (.v (.im (.tup ([t1, t2, t1, t2].map Tm.i)))) 4) (c := c1) (tt := yesF) (te := bd (consF (varF 0) nilF) (callP 1 F__law_right)) (di := []) (δ := [some (.im sc), some (.im (.ref 2)), some (.im (.ref G1.length)), some (.im t1.i), some (.im t2.i)]) (fun i acc G' => acc = (List.replicate i true).map I.bl ∧ True)
    (fun i acc g hi zz => by
      obtain ⟨ea, _⟩ := zz
      have hi : i < [t1, t2, t1, t2].length := hi
      obtain ⟨p, q⟩ := ok _ (List.getElem_mem hi)
      obtain ⟨g', e⟩ := right_ok (G := g) p q
      refine ⟨([t1, t2, t1, t2][i]).i, [([t1, t2, t1, t2][i]).i], _, _, .bl true, [some (.im ([t1, t2, t1, t2][i]).i)], g', ?_, rfl, rfl, bd_go (bd_go rfl rfl) (call_go rfl rfl e), by rw [ea, List.replicate_succ', List.map_append]; rfl, trivial⟩
      show ([t1, t2, t1, t2].map Tm.i)[i]? = _
      rw [List.getElem?_map, List.getElem?_eq_getElem hi]; rfl)
    (fun _ _ _ => rfl) 4 0 [] G3 rfl ⟨rfl, trivial⟩
  have ed : ds = (List.replicate 4 true).map I.bl := ed
  refine ⟨G4, run_rt rfl ?_⟩
  refine seq_go (asg_go (x := .ow (.dic (dealI a 0 1))) (δ1 := [some (.im sc), none, none, none, none]) (G1 := [M.lst (so.map I.int), M.lst (le.map I.int)]) (bd_go (a := [.v (.im sc), .v (.im (.int 0))]) rfl (call_go (xs := [.im sc, .im (.int 0)]) rfl rfl e1')) rfl) ?_
  refine seq_go (asg_go (x := .ow (.lst (ys.map I.str))) (δ1 := [some (.im sc), some (.im (.ref 2)), none, none, none]) (G1 := G1) (bd_go (a := [.v (.im (.ref 2)), .v (.im (.int 24))]) (δ1 := [some (.im sc), some (.im (.ref 2)), none, none, none]) (G1 := [M.lst (so.map I.int), M.lst (le.map I.int), M.dic (dealI a 0 1)]) rfl (call_go (xs := [.im (.ref 2), .im (.int 24)]) rfl rfl e2)) rfl) ?_
  refine seq_go (asg_go (x := .im t1.i) (δ1 := [some (.im sc), some (.im (.ref 2)), some (.im (.ref G1.length)), none, none]) (G1 := G2) (bd_go (a := [.v (.im (.ref 2)), .v (.im (.ref G1.length)), .v (.im (.ref (G1.length + 1))), .v (.im (.int 0))]) (δ1 := [some (.im sc), some (.im (.ref 2)), some (.im (.ref G1.length)), none, none]) (G1 := G1 ++ [M.lst (ys.map I.str)] ++ [M.lst [.int 9]]) (by simp_arith []) (call_go (xs := [.im (.ref 2), .im (.ref G1.length), .im (.ref (G1.length + 1)), .im (.int 0)]) rfl rfl e3)) rfl) ?_
  refine seq_go (asg_go (x := .im t2.i) (δ1 := [some (.im sc), some (.im (.ref 2)), some (.im (.ref G1.length)), some (.im t1.i), none]) (G1 := G3) (bd_go (a := [.v (.im (.ref 2)), .v (.im (.ref G1.length)), .v (.im (.ref G2.length)), .v (.im (.int 0))]) (δ1 := [some (.im sc), some (.im (.ref 2)), some (.im (.ref G1.length)), some (.im t1.i), none]) (G1 := G2 ++ [M.lst [.int 9]]) (by simp_arith []) (call_go (xs := [.im (.ref 2), .im (.ref G1.length), .im (.ref G2.length), .im (.int 0)]) rfl rfl e4)) rfl) ?_
  refine ret_go (δ1 := [some (.im sc), some (.im (.ref 2)), some (.im (.ref G1.length)), some (.im t1.i), some (.im t2.i)]) (bd_go (bd_go (comp_go (by rfl) (it_go (es := [.v (.im (.tup ([t1, t2, t1, t2].map Tm.i)))]) (w := lsW (.v (.im (.tup ([t1, t2, t1, t2].map Tm.i)))) 4) rfl rfl) (show 4 ≤ 100000 by decide) e5) rfl) ?_)
  rw [ed]
  rfl
end
end Q
set_option maxHeartbeats 4000000
namespace Q
open PySem PySem.Spec PyProof.Rows L2 B
noncomputable def top (i : Nat) : Stmt := PySem.Challenge.pw_stepcourt_k02_terms_written_and_read.main.body.getD i (.Pass ⟨0, 0, 0, 0⟩)
structure Tx (K : PySem.W.Frag) (mg : Str → Option Value) (κ : Str → Addr) : Prop where
  k_FIGURES : ∃ t, mg "FIGURES" = some (.str "0123456789" t)
  k_LETTERS : ∃ t, mg "LETTERS" = some (.str "abcdefghijklmnopqrstuvwxyz" t)
  k_LONGEST_NAME : ∃ t, mg "LONGEST_NAME" = some (.int 6 t)
  k_SIGNS : ∃ a, mg "SIGNS" = some (.ref a) ∧ SqT K (fun _ => none) a (List.map V.str ["+", "-", "*", "<", "="])
  k_TAKEN : ∃ a, mg "TAKEN" = some (.ref a) ∧ SqT K (fun _ => none) a (List.map V.str ["cell", "row", "def", "main", "set", "put", "while", "if", "else", "call", "end", "at"])
  k_WIDE : ∃ t, mg "WIDE" = some (.int 4294967296 t)
  b_all : mg "all" = none
  b_bool : mg "bool" = none
  b_int : mg "int" = none
  b_isinstance : mg "isinstance" = none
  b_len : mg "len" = none
  b_list : mg "list" = none
  b_max : mg "max" = none
  b_range : mg "range" = none
  b_reversed : mg "reversed" = none
  b_str : mg "str" = none
  b_tuple : mg "tuple" = none
  b_zip : mg "zip" = none
section
variable {P : Program} {w : World} {K : PySem.W.Frag} {mg : Str → Option Value} {base : Heap} {κ : Str → Addr}
theorem sc__law_deal : FnScope ["_law_script", "_law_base", "_law_some", "_law_number", "_law_one"] ["_law_script", "_law_base"] (defScope (top 29)) := mkFS
theorem ok__law_deal {f : Addr} {fd : FuncData} (F : Fun K "_law_deal" "_law_deal" (top 29) f fd) (E : Tx K mg κ) : FnOk P w K mg base CX0 1 f fd ["_law_script", "_law_base"] (UpF K κ 2 F__law_deal) :=
  lift F sc__law_deal rfl rfl fun cdv A outer s H _ hr => (ss_cons (s_comp1 (i := 2) (compOkN_of (osc := (defScope (top 29))) (N := ["_law_script", "_law_base", "_law_some", "_law_number", "_law_one"]) (xs := ["_law_one"]) (ys := []) (ix := []) rfl rfl (by decide +kernel)) (i_seq (e_sli (e_var 0) (po_some' (e_var 1)) (po_some' e_int))) (fun z => i_nil) (fun z => (e_max2 hr E.b_max (a_cons (e_var 0) (a_cons (e_op (q_sub hr) p_sub e_int (e_var 0)) a_nil)))) sc__law_deal.nd)
  (ss_cons (s_set (i := 3) sc__law_deal.nd (e_op (q_add hr) p_add e_int (e_var 1)))
  (ss_cons (s_for (i_seq (e_box (e_var 2))) (g_nm (i := 4) sc__law_deal.nd)
  (ss_one (s_set (i := 3) sc__law_deal.nd (e_op (q_mod hr) p_mod (e_op (q_add hr) p_add (e_op (q_mul hr) p_mul (e_var 3) e_int) (e_op (q_mod hr) p_mod (e_var 4) e_int)) e_int))))
  (ss_one (s_ret (e_dic hr (d_cons e_str (e_var 3) (d_cons e_str e_int (d_cons e_str (e_box (e_lrev E.b_list E.b_reversed (e_comp1 (compOkN_of (osc := (defScope (top 29))) (N := ["_law_script", "_law_base", "_law_some", "_law_number", "_law_one"]) (xs := ["_law_one"]) (ys := []) (ix := []) rfl rfl (by decide +kernel)) (i_seq (e_box (e_var 2))) (fun z => (i_one (t_ge hr (e_var 0) (e_op (q_pow hr) p_pow e_int e_int)))) (fun z => (e_var 0))))) d_nil)))))))))
theorem sc__law_draw : FnScope ["_law_deal_here", "_law_many_here", "_law_number", "_law_one", "_law_other"] ["_law_deal_here", "_law_many_here"] (defScope (top 30)) := mkFS
theorem ok__law_draw {f : Addr} {fd : FuncData} (F : Fun K "_law_draw" "_law_draw" (top 30) f fd) (E : Tx K mg κ) : FnOk P w K mg base CX0 1 f fd ["_law_deal_here", "_law_many_here"] (UpF K κ 2 F__law_draw) :=
  lift F sc__law_draw rfl rfl fun cdv A outer s H _ hr => (ss_cons (s_while (t_w (w_and (t_eq hr (e_ix hr (e_var 0) e_str) e_int) (w_and1 (t_gt hr (e_len hr E.b_len (a_cons (e_ix hr (e_var 0) e_str) a_nil)) e_int))))
  (ss_one (s_put hr (e_var 0) e_str (e_pop0 (e_ix hr (e_var 0) e_str)))))
  (ss_cons (s_set (i := 2) sc__law_draw.nd (e_ix hr (e_var 0) e_str))
  (ss_cons (s_if (t_gt hr (e_var 2) e_int)
  (ss_cons (s_put hr (e_var 0) e_str (e_op (q_fdiv hr) p_fdiv (e_var 2) (e_var 1)))
  (ss_one (s_ret (e_op (q_mod hr) p_mod (e_var 2) (e_var 1)))))
  ss_nil)
  (ss_cons (s_set (i := 3) sc__law_draw.nd (e_op (q_mod hr) p_mod (e_op (q_add hr) p_add (e_op (q_mul hr) p_mul (e_ix hr (e_var 0) e_str) e_int) e_int) e_int))
  (ss_cons (s_put hr (e_var 0) e_str (e_op (q_mod hr) p_mod (e_op (q_add hr) p_add (e_op (q_mul hr) p_mul (e_var 3) e_int) e_int) e_int))
  (ss_cons (s_set (i := 4) sc__law_draw.nd (e_op (q_mod hr) p_mod (e_op (q_mul hr) p_mul (e_ix hr (e_var 0) e_str) (e_ix hr (e_var 0) e_str)) e_int))
  (ss_one (s_ret (e_op (q_mod hr) p_mod (e_op (q_add hr) p_add (e_op (q_mul hr) p_mul (e_op (q_mod hr) p_mod (e_op (q_mul hr) p_mul (e_var 3) (e_var 3)) e_int) e_int) (e_var 4)) (e_var 1))))))))))
theorem sc__law_names : FnScope ["_law_deal_here", "_law_many_here", "_law_letters", "_law_core", "_law_at", "_law_turn", "_law_found", "_law_k", "_law_own", "_law_spare", "_law_kept", "_law_name"] ["_law_deal_here", "_law_many_here"] (defScope (top 31)) := mkFS
theorem ok__law_names {f : Addr} {fd : FuncData} (F : Fun K "_law_names" "_law_names" (top 31) f fd) (E : Tx K mg κ) (h__law_draw : Has P w K mg base "_law_draw" 1 ["_law_deal_here", "_law_many_here"] (UpF K κ 2 F__law_draw)) : FnOk P w K mg base CX0 2 f fd ["_law_deal_here", "_law_many_here"] (UpF K κ 2 F__law_names) :=
  lift F sc__law_names rfl rfl fun cdv A outer s H _ hr => (ss_cons (s_set (i := 2) sc__law_names.nd e_str)
  (ss_cons (s_set (i := 3) sc__law_names.nd (e_join1 hr e_str (a_cons (e_comp1 (compOkN_of (osc := (defScope (top 31))) (N := ["_law_deal_here", "_law_many_here", "_law_letters", "_law_core", "_law_at", "_law_turn", "_law_found", "_law_k", "_law_own", "_law_spare", "_law_kept", "_law_name"]) (xs := ["_law_k"]) (ys := ["_law_letters", "_law_deal_here"]) (ix := [2, 0]) rfl rfl (by decide +kernel)) (i_rng1 E.b_range (a_cons (e_call h__law_draw (rm hr) (a_cons (e_var 0) (a_cons e_int a_nil))) a_nil)) (fun z => i_nil) (fun z => (e_ix hr (e_var 1) (e_call h__law_draw (rm hr) (a_cons (e_var 2) (a_cons e_int a_nil)))))) a_nil)))
  (ss_cons (s_set (i := 4) sc__law_names.nd (e_call h__law_draw (rm hr) (a_cons (e_var 0) (a_cons (e_op (q_add hr) p_add (e_len hr E.b_len (a_cons (e_var 3) a_nil)) e_int) a_nil))))
  (ss_cons (s_set (i := 5) sc__law_names.nd (e_call h__law_draw (rm hr) (a_cons (e_var 0) (a_cons e_int a_nil))))
  (ss_cons (s_set (i := 6) sc__law_names.nd (e_lst a_nil))
  (ss_cons (s_for (i_rng1 E.b_range (a_cons (e_var 1) a_nil)) (g_nm (i := 7) sc__law_names.nd)
  (ss_cons (s_set (i := 8) sc__law_names.nd (e_op (q_add hr) p_add (e_ix hr (e_var 2) (e_op (q_mod hr) p_mod (e_op (q_add hr) p_add (e_var 5) (e_op (q_mul hr) p_mul e_int (e_var 7))) e_int)) (e_sli (e_var 3) (po_some' (e_var 4)) po_none')))
  (ss_one (s_expr (e_append1 hr (e_var 6) (a_cons (e_op (q_add hr) p_add (e_op (q_add hr) p_add (e_sli (e_var 3) po_none' (po_some' (e_var 4))) (e_var 8)) (e_ix hr (e_lst (a_cons e_str (a_cons e_str a_nil))) (e_op (q_fdiv hr) p_fdiv (e_op (q_mod hr) p_mod (e_var 7) e_int) e_int))) a_nil))))))
  (ss_cons (s_set (i := 9) sc__law_names.nd (e_lst (a_cons e_str (a_cons e_str (a_cons e_str (a_cons e_str (a_cons e_str (a_cons e_str (a_cons e_str (a_cons e_str a_nil))))))))))
  (ss_cons (s_set (i := 10) sc__law_names.nd (e_tup (a_cons e_str (a_cons e_str (a_cons e_str (a_cons e_str (a_cons e_str (a_cons e_str (a_cons e_str (a_cons e_str (a_cons e_str (a_cons e_str (a_cons e_str (a_cons e_str a_nil))))))))))))))
  (ss_cons (s_comp1 (i := 6) (compOkN_of (osc := (defScope (top 31))) (N := ["_law_deal_here", "_law_many_here", "_law_letters", "_law_core", "_law_at", "_law_turn", "_law_found", "_law_k", "_law_own", "_law_spare", "_law_kept", "_law_name"]) (xs := ["_law_name"]) (ys := ["_law_kept"]) (ix := [10]) rfl rfl (by decide +kernel)) (i_seq (e_box (e_var 6))) (fun z => i_nil) (fun z => (e_op (q_add hr) p_add (e_var 0) (e_op (q_mul hr) p_mul e_str (e_int1 hr E.b_int (a_cons (e_in hr (e_var 0) (e_var 1)) a_nil))))) sc__law_names.nd)
  (ss_cons (s_set (i := 11) sc__law_names.nd (e_ix hr (e_var 9) (e_call h__law_draw (rm hr) (a_cons (e_var 0) (a_cons e_int a_nil)))))
  (ss_cons (s_if (t_w (w_and (t_eq hr (e_call h__law_draw (rm hr) (a_cons (e_var 0) (a_cons e_int a_nil))) e_int) (w_and1 (t_nin hr (e_var 11) (e_var 6)))))
  (ss_one (s_put hr (e_var 6) (e_call h__law_draw (rm hr) (a_cons (e_var 0) (a_cons (e_var 1) a_nil))) (e_var 11)))
  ss_nil)
  (ss_one (s_ret (e_var 6))))))))))))))
theorem sc__law_any_name : FnScope ["_law_deal_here", "_law_words"] ["_law_deal_here", "_law_words"] (defScope (top 33)) := mkFS
theorem ok__law_any_name {f : Addr} {fd : FuncData} (F : Fun K "_law_any_name" "_law_any_name" (top 33) f fd) (E : Tx K mg κ) (h__law_draw : Has P w K mg base "_law_draw" 1 ["_law_deal_here", "_law_many_here"] (UpF K κ 2 F__law_draw)) : FnOk P w K mg base CX0 2 f fd ["_law_deal_here", "_law_words"] (UpF K κ 2 F__law_any_name) :=
  lift F sc__law_any_name rfl rfl fun cdv A outer s H _ hr => (ss_one (s_ret (e_ix hr (e_var 1) (e_call h__law_draw (rm hr) (a_cons (e_var 0) (a_cons (e_len hr E.b_len (a_cons (e_var 1) a_nil)) a_nil))))))
theorem sc__law_word : FnScope ["_law_deal_here", "_law_form"] ["_law_deal_here"] (defScope (top 32)) := mkFS
theorem ok__law_word {f : Addr} {fd : FuncData} (F : Fun K "_law_word" "_law_word" (top 32) f fd) (E : Tx K mg κ) (h__law_draw : Has P w K mg base "_law_draw" 1 ["_law_deal_here", "_law_many_here"] (UpF K κ 2 F__law_draw)) : FnOk P w K mg base CX0 2 f fd ["_law_deal_here"] (UpF K κ 1 F__law_word) :=
  lift F sc__law_word rfl rfl fun cdv A outer s H _ hr => (ss_cons (s_set (i := 1) sc__law_word.nd (e_call h__law_draw (rm hr) (a_cons (e_var 0) (a_cons e_int a_nil))))
  (ss_cons (s_if (t_lt hr (e_var 1) e_int)
  (ss_one (s_ret (e_call h__law_draw (rm hr) (a_cons (e_var 0) (a_cons (e_ix hr (e_lst (a_cons e_int (a_cons e_int (a_cons e_int (a_cons e_int a_nil))))) (e_var 1)) a_nil)))))
  ss_nil)
  (ss_one (s_ret (e_ix hr (e_lst (a_cons (e_call h__law_draw (rm hr) (a_cons (e_var 0) (a_cons e_int a_nil))) (a_cons (e_op (q_sub hr) p_sub e_int (e_call h__law_draw (rm hr) (a_cons (e_var 0) (a_cons e_int a_nil)))) a_nil))) (e_op (q_sub hr) p_sub (e_var 1) e_int))))))
theorem sc__law_any_term : FnScope ["_law_deal_here", "_law_words", "_law_room", "_law_down", "_law_form", "_law_name", "_law_one"] ["_law_deal_here", "_law_words", "_law_room", "_law_down"] (defScope (top 34)) := mkFS
theorem ok__law_any_term {f : Addr} {fd : FuncData} {n : Nat} (F : Fun K "_law_any_term" "_law_any_term" (top 34) f fd) (E : Tx K mg κ) (h__law_any_term : Has P w K mg base "_law_any_term" (3 + n) ["_law_deal_here", "_law_words", "_law_room", "_law_down"] (UpF K κ 4 (F__law_any_term n))) (h__law_draw : Has P w K mg base "_law_draw" 1 ["_law_deal_here", "_law_many_here"] (UpF K κ 2 F__law_draw)) (h__law_any_name : Has P w K mg base "_law_any_name" 2 ["_law_deal_here", "_law_words"] (UpF K κ 2 F__law_any_name)) (h__law_word : Has P w K mg base "_law_word" 2 ["_law_deal_here"] (UpF K κ 1 F__law_word)) : FnOk P w K mg base CX0 (3 + n + 1) f fd ["_law_deal_here", "_law_words", "_law_room", "_law_down"] (UpF K κ 4 (F__law_any_term (n + 1))) := by
  unfold F__law_any_term
  exact lift F sc__law_any_term rfl rfl fun cdv A outer s H _ hr => (ss_cons (s_set (i := 4) sc__law_any_term.nd (e_call h__law_draw (rm hr) (a_cons (e_var 0) (a_cons e_int a_nil))))
  (ss_cons (s_if (t_w (w_or (t_lt hr (e_ix hr (e_var 2) e_int) e_int) (w_or (t_gt hr (e_var 3) e_int) (w_or1 (t_lt hr (e_var 4) e_int)))))
  (ss_cons (s_if (t_eq hr (e_call h__law_draw (rm hr) (a_cons (e_var 0) (a_cons e_int a_nil))) e_int)
  (ss_one (s_ret (e_tup (a_cons e_str (a_cons (e_call h__law_any_name (rm hr) (a_cons (e_var 0) (a_cons (e_var 1) a_nil))) a_nil)))))
  ss_nil)
  (ss_one (s_ret (e_tup (a_cons e_str (a_cons (e_call h__law_word (rm hr) (a_cons (e_var 0) a_nil)) a_nil))))))
  ss_nil)
  (ss_cons (s_put hr (e_var 2) e_int (e_op (q_sub hr) p_sub (e_ix hr (e_var 2) e_int) e_int))
  (ss_cons (s_if (t_eq hr (e_var 4) e_int)
  (ss_cons (s_set (i := 5) sc__law_any_term.nd (e_call h__law_any_name (rm hr) (a_cons (e_var 0) (a_cons (e_var 1) a_nil))))
  (ss_one (s_ret (e_tup (a_cons e_str (a_cons (e_var 5) (a_cons (e_call h__law_any_term (rm hr) (a_cons (e_var 0) (a_cons (e_var 1) (a_cons (e_var 2) (a_cons (e_op (q_add hr) p_add (e_var 3) e_int) a_nil))))) a_nil)))))))
  ss_nil)
  (ss_cons (s_set (i := 6) sc__law_any_term.nd (e_call h__law_any_term (rm hr) (a_cons (e_var 0) (a_cons (e_var 1) (a_cons (e_var 2) (a_cons (e_op (q_add hr) p_add (e_var 3) e_int) a_nil))))))
  (ss_one (s_ret (e_tup (a_cons e_str (a_cons (e_ix hr e_str (e_call h__law_draw (rm hr) (a_cons (e_var 0) (a_cons e_int a_nil)))) (a_cons (e_var 6) (a_cons (e_call h__law_any_term (rm hr) (a_cons (e_var 0) (a_cons (e_var 1) (a_cons (e_var 2) (a_cons (e_op (q_add hr) p_add (e_var 3) e_int) a_nil))))) a_nil))))))))))))
theorem sc__law_term_text : FnScope ["_law_term"] ["_law_term"] (defScope (top 35)) := mkFS
theorem ok__law_term_text {f : Addr} {fd : FuncData} {n : Nat} (F : Fun K "_law_term_text" "_law_term_text" (top 35) f fd) (E : Tx K mg κ) (h__law_term_text : Has P w K mg base "_law_term_text" (1 + n) ["_law_term"] (UpF K κ 1 (F__law_term_text n))) : FnOk P w K mg base CX0 (1 + n + 1) f fd ["_law_term"] (UpF K κ 1 (F__law_term_text (n + 1))) := by
  unfold F__law_term_text
  exact lift F sc__law_term_text rfl rfl fun cdv A outer s H _ hr => (ss_cons (s_if (t_eq hr (e_ix hr (e_var 0) e_int) e_str)
  (ss_one (s_ret (e_op (q_add hr) p_add (e_op (q_add hr) p_add e_str (e_join1 hr e_str (a_cons (e_lst (a_cons (e_ix hr (e_var 0) e_int) (a_cons (e_call h__law_term_text (rm hr) (a_cons (e_ix hr (e_var 0) e_int) a_nil)) (a_cons (e_call h__law_term_text (rm hr) (a_cons (e_ix hr (e_var 0) e_int) a_nil)) a_nil)))) a_nil))) e_str)))
  ss_nil)
  (ss_cons (s_if (t_eq hr (e_ix hr (e_var 0) e_int) e_str)
  (ss_one (s_ret (e_op (q_add hr) p_add (e_op (q_add hr) p_add (e_op (q_add hr) p_add (e_op (q_add hr) p_add e_str (e_ix hr (e_var 0) e_int)) e_str) (e_call h__law_term_text (rm hr) (a_cons (e_ix hr (e_var 0) e_int) a_nil))) e_str)))
  ss_nil)
  (ss_one (s_ret (e_str1 hr E.b_str (a_cons (e_ix hr (e_var 0) e_int) a_nil))))))
theorem sc_figures_of : FnScope ["number", "figures"] ["number"] (defScope (top 12)) := mkFS
theorem ok_figures_of {f : Addr} {fd : FuncData} (F : Fun K "figures_of" "figures_of" (top 12) f fd) (E : Tx K mg κ) : FnOk P w K mg base CX0 1 f fd ["number"] (UpF K κ 1 F_figures_of) :=
  lift F sc_figures_of rfl rfl fun cdv A outer s H _ hr => (ss_cons (s_set (i := 1) sc_figures_of.nd (e_lst a_nil))
  (ss_cons (s_while (t_gt hr (e_var 0) e_int)
  (ss_cons (s_expr (e_append1 hr (e_var 1) (a_cons (e_ix hr (e_globS (by rfl) E.k_FIGURES) (e_op (q_mod hr) p_mod (e_var 0) e_int)) a_nil)))
  (ss_one (s_set (i := 0) sc_figures_of.nd (e_op (q_fdiv hr) p_fdiv (e_var 0) e_int)))))
  (ss_cons (s_expr (e_append1 hr (e_var 1) (a_cons (e_ix hr (e_globS (by rfl) E.k_FIGURES) (e_var 0)) a_nil)))
  (ss_one (s_ret (e_joinr E.b_reversed e_str (e_var 1)))))))
theorem sc_show_term : FnScope ["term", "row", "place", "sign", "first", "last"] ["term"] (defScope (top 27)) := mkFS
theorem ok_show_term {f : Addr} {fd : FuncData} {n : Nat} (F : Fun K "show_term" "show_term" (top 27) f fd) (E : Tx K mg κ) (h_show_term : Has P w K mg base "show_term" (2 + n) ["term"] (UpF K κ 1 (F_show_term n))) (h_figures_of : Has P w K mg base "figures_of" 1 ["number"] (UpF K κ 1 F_figures_of)) : FnOk P w K mg base CX0 (2 + n + 1) f fd ["term"] (UpF K κ 1 (F_show_term (n + 1))) := by
  unfold F_show_term
  exact lift F sc_show_term rfl rfl fun cdv A outer s H _ hr => (ss_cons (s_if (t_eq hr (e_ix hr (e_var 0) e_int) e_str)
  (ss_one (s_ret (e_call h_figures_of (rm hr) (a_cons (e_ix hr (e_var 0) e_int) a_nil))))
  ss_nil)
  (ss_cons (s_if (t_eq hr (e_ix hr (e_var 0) e_int) e_str)
  (ss_one (s_ret (e_ix hr (e_var 0) e_int)))
  ss_nil)
  (ss_cons (s_if (t_eq hr (e_ix hr (e_var 0) e_int) e_str)
  (ss_cons (s_set (i := 1) sc_show_term.nd (e_ix hr (e_var 0) e_int))
  (ss_cons (s_set (i := 2) sc_show_term.nd (e_call h_show_term (rm hr) (a_cons (e_ix hr (e_var 0) e_int) a_nil)))
  (ss_one (s_ret (e_joined (j_cons e_str (j_cons (e_fmt (e_var 1)) (j_cons e_str (j_cons (e_fmt (e_var 2)) (j_cons e_str j_nil))))))))))
  ss_nil)
  (ss_cons (s_set (i := 3) sc_show_term.nd (e_ix hr (e_var 0) e_int))
  (ss_cons (s_set (i := 4) sc_show_term.nd (e_call h_show_term (rm hr) (a_cons (e_ix hr (e_var 0) e_int) a_nil)))
  (ss_cons (s_set (i := 5) sc_show_term.nd (e_call h_show_term (rm hr) (a_cons (e_ix hr (e_var 0) e_int) a_nil)))
  (ss_one (s_ret (e_joined (j_cons e_str (j_cons (e_fmt (e_var 3)) (j_cons e_str (j_cons (e_fmt (e_var 4)) (j_cons e_str (j_cons (e_fmt (e_var 5)) (j_cons e_str j_nil))))))))))))))))
theorem sc__law_alike : FnScope ["_law_one", "_law_other"] ["_law_one", "_law_other"] (defScope (top 36)) := mkFS
theorem ok__law_alike {f : Addr} {fd : FuncData} {n : Nat} (F : Fun K "_law_alike" "_law_alike" (top 36) f fd) (E : Tx K mg κ) (h__law_alike : Has P w K mg base "_law_alike" (1 + n) ["_law_one", "_law_other"] (UpF K κ 2 (F__law_alike n))) : FnOk P w K mg base CX0 (1 + n + 1) f fd ["_law_one", "_law_other"] (UpF K κ 2 (F__law_alike (n + 1))) := by
  unfold F__law_alike
  exact lift F sc__law_alike rfl rfl fun cdv A outer s H _ hr => (ss_cons (s_if (t_w (w_and (t_tru (e_isinst3 hr E.b_isinstance (a_cons (e_var 0) (a_cons (e_ty (by rfl) E.b_tuple PyProof.Rows.boot_tuple) a_nil)))) (w_and1 (t_tru (e_isinst3 hr E.b_isinstance (a_cons (e_var 1) (a_cons (e_ty (by rfl) E.b_tuple PyProof.Rows.boot_tuple) a_nil)))))))
  (ss_one (s_ret (e_and (e_eq hr (e_len hr E.b_len (a_cons (e_var 0) a_nil)) (e_len hr E.b_len (a_cons (e_var 1) a_nil))) (e_one (e_all hr E.b_all (a_cons (e_comp2 (compOkN_of (osc := (defScope (top 36))) (N := ["_law_one", "_law_other"]) (xs := ["_law_part", "_law_more"]) (ys := []) (ix := []) rfl rfl (by decide +kernel)) (i_zipT E.b_zip (a_cons (e_var 0) (a_cons (e_var 1) a_nil))) (fun z => i_nil) (fun z => (e_call h__law_alike (rm hr) (a_cons (e_var 0) (a_cons (e_var 1) a_nil))))) a_nil))))))
  ss_nil)
  (ss_cons (s_if (t_w (w_or (t_tru (e_isinst3 hr E.b_isinstance (a_cons (e_var 0) (a_cons (e_ty (by rfl) E.b_str PyProof.Rows.boot_str) a_nil)))) (w_or1 (t_tru (e_isinst3 hr E.b_isinstance (a_cons (e_var 1) (a_cons (e_ty (by rfl) E.b_str PyProof.Rows.boot_str) a_nil)))))))
  (ss_one (s_ret (e_and (e_isinst3 hr E.b_isinstance (a_cons (e_var 0) (a_cons (e_ty (by rfl) E.b_str PyProof.Rows.boot_str) a_nil))) (e_and (e_isinst3 hr E.b_isinstance (a_cons (e_var 1) (a_cons (e_ty (by rfl) E.b_str PyProof.Rows.boot_str) a_nil))) (e_one (e_eq hr (e_var 0) (e_var 1)))))))
  ss_nil)
  (ss_cons (s_if (t_w (w_or (t_not (t_tru (e_isinst3 hr E.b_isinstance (a_cons (e_var 0) (a_cons (e_ty (by rfl) E.b_int PyProof.Rows.boot_int) a_nil))))) (w_or (t_not (t_tru (e_isinst3 hr E.b_isinstance (a_cons (e_var 1) (a_cons (e_ty (by rfl) E.b_int PyProof.Rows.boot_int) a_nil))))) (w_or (t_tru (e_isinst3 hr E.b_isinstance (a_cons (e_var 0) (a_cons (e_ty (by rfl) E.b_bool PyProof.Rows.boot_bool) a_nil)))) (w_or1 (t_tru (e_isinst3 hr E.b_isinstance (a_cons (e_var 1) (a_cons (e_ty (by rfl) E.b_bool PyProof.Rows.boot_bool) a_nil)))))))))
  (ss_one (s_ret e_bl))
  ss_nil)
  (ss_one (s_ret (e_eq hr (e_var 0) (e_var 1)))))))
theorem sc_is_name : FnScope ["text"] ["text"] (defScope (top 10)) := mkFS
theorem ok_is_name {f : Addr} {fd : FuncData} (F : Fun K "is_name" "is_name" (top 10) f fd) (E : Tx K mg κ) : FnOk P w K mg base CX0 1 f fd ["text"] (UpF K κ 1 F_is_name) :=
  lift F sc_is_name rfl rfl fun cdv A outer s H _ hr => (ss_cons (s_if (t_w (w_or (t_lt hr (e_len hr E.b_len (a_cons (e_var 0) a_nil)) e_int) (w_or (t_gt hr (e_len hr E.b_len (a_cons (e_var 0) a_nil)) (e_globI (by rfl) E.k_LONGEST_NAME)) (w_or1 (t_in hr (e_var 0) (e_globT (ys := ["cell", "row", "def", "main", "set", "put", "while", "if", "else", "call", "end", "at"]) (by rfl) E.k_TAKEN))))))
  (ss_one (s_ret e_bl))
  ss_nil)
  (ss_one (s_ret (e_all hr E.b_all (a_cons (e_comp1 (compOkN_of (osc := (defScope (top 10))) (N := ["text"]) (xs := ["sign"]) (ys := []) (ix := []) rfl rfl (by decide +kernel)) (i_str (e_var 0)) (fun z => i_nil) (fun z => (e_inS hr (e_var 0) (e_globS (by rfl) E.k_LETTERS)))) a_nil)))))
theorem sc_number_in : FnScope ["text", "number", "sign"] ["text"] (defScope (top 11)) := mkFS
theorem ok_number_in {f : Addr} {fd : FuncData} (F : Fun K "number_in" "number_in" (top 11) f fd) (E : Tx K mg κ) : FnOk P w K mg base CX0 1 f fd ["text"] (UpF K κ 1 F_number_in) :=
  lift F sc_number_in rfl rfl fun cdv A outer s H _ hr => (ss_cons (s_if (t_w (w_or (t_eq hr (e_var 0) e_str) (w_or1 (t_w (w_and (t_eq hr (e_ix hr (e_var 0) e_int) e_str) (w_and1 (t_ne hr (e_var 0) e_str)))))))
  (ss_one (s_ret e_non))
  ss_nil)
  (ss_cons (s_set (i := 1) sc_number_in.nd e_int)
  (ss_cons (s_for (i_str (e_var 0)) (g_nm (i := 2) sc_number_in.nd)
  (ss_cons (s_if (t_ninS hr (e_var 2) (e_globS (by rfl) E.k_FIGURES))
  (ss_one (s_ret e_non))
  ss_nil)
  (ss_one (s_set (i := 1) sc_number_in.nd (e_op (q_add hr) p_add (e_op (q_mul hr) p_mul e_int (e_var 1)) (e_index1 hr (e_globS (by rfl) E.k_FIGURES) (a_cons (e_var 2) a_nil)))))))
  (ss_one (s_ret (e_var 1))))))
theorem sc_word_from : FnScope ["text", "number"] ["text"] (defScope (top 15)) := mkFS
theorem ok_word_from {f : Addr} {fd : FuncData} (F : Fun K "word_from" "word_from" (top 15) f fd) (E : Tx K mg κ) (h_number_in : Has P w K mg base "number_in" 1 ["text"] (UpF K κ 1 F_number_in)) : FnOk P w K mg base CX0 2 f fd ["text"] (UpF K κ 1 F_word_from) :=
  lift F sc_word_from rfl rfl fun cdv A outer s H _ hr => (ss_cons (s_set (i := 1) sc_word_from.nd (e_call h_number_in (rm hr) (a_cons (e_var 0) a_nil)))
  (ss_cons (s_if (t_w (w_or (t_is (e_var 1)) (w_or1 (t_ge hr (e_var 1) (e_globI (by rfl) E.k_WIDE)))))
  (ss_one (s_ret e_non))
  ss_nil)
  (ss_one (s_ret (e_var 1)))))
theorem sc_as_term : FnScope ["thing", "word"] ["thing"] (defScope (top 16)) := mkFS
theorem ok_as_term {f : Addr} {fd : FuncData} (F : Fun K "as_term" "as_term" (top 16) f fd) (E : Tx K mg κ) (h_word_from : Has P w K mg base "word_from" 2 ["text"] (UpF K κ 1 F_word_from)) (h_is_name : Has P w K mg base "is_name" 1 ["text"] (UpF K κ 1 F_is_name)) : FnOk P w K mg base CX0 3 f fd ["thing"] (UpF K κ 1 F_as_term) :=
  lift F sc_as_term rfl rfl fun cdv A outer s H _ hr => (ss_cons (s_if (t_not (t_tru (e_isinst3 hr E.b_isinstance (a_cons (e_var 0) (a_cons (e_ty (by rfl) E.b_str PyProof.Rows.boot_str) a_nil)))))
  (ss_one (s_ret (e_var 0)))
  ss_nil)
  (ss_cons (s_if (t_tru (e_call h_is_name (rm hr) (a_cons (e_var 0) a_nil)))
  (ss_one (s_ret (e_tup (a_cons e_str (a_cons (e_var 0) a_nil)))))
  ss_nil)
  (ss_cons (s_set (i := 1) sc_as_term.nd (e_call h_word_from (rm hr) (a_cons (e_var 0) a_nil)))
  (ss_cons (s_if (t_is (e_var 1))
  (ss_one (s_ret e_non))
  ss_nil)
  (ss_one (s_ret (e_tup (a_cons e_str (a_cons (e_var 1) a_nil)))))))))
theorem sc_is_name_thing : FnScope ["thing"] ["thing"] (defScope (top 17)) := mkFS
theorem ok_is_name_thing {f : Addr} {fd : FuncData} (F : Fun K "is_name_thing" "is_name_thing" (top 17) f fd) (E : Tx K mg κ) (h_is_name : Has P w K mg base "is_name" 1 ["text"] (UpF K κ 1 F_is_name)) : FnOk P w K mg base CX0 2 f fd ["thing"] (UpF K κ 1 F_is_name_thing) :=
  lift F sc_is_name_thing rfl rfl fun cdv A outer s H _ hr => (ss_one (s_ret (e_and (e_isinst3 hr E.b_isinstance (a_cons (e_var 0) (a_cons (e_ty (by rfl) E.b_str PyProof.Rows.boot_str) a_nil))) (e_one (e_call h_is_name (rm hr) (a_cons (e_var 0) a_nil))))))
theorem sc_bracketed : FnScope ["things", "last", "first"] ["things"] (defScope (top 18)) := mkFS
theorem ok_bracketed {f : Addr} {fd : FuncData} (F : Fun K "bracketed" "bracketed" (top 18) f fd) (E : Tx K mg κ) (h_as_term : Has P w K mg base "as_term" 3 ["thing"] (UpF K κ 1 F_as_term)) (h_is_name_thing : Has P w K mg base "is_name_thing" 2 ["thing"] (UpF K κ 1 F_is_name_thing)) : FnOk P w K mg base CX0 4 f fd ["things"] (UpF K κ 1 F_bracketed) :=
  lift F sc_bracketed rfl rfl fun cdv A outer s H _ hr => (ss_cons (s_if (t_ne hr (e_len hr E.b_len (a_cons (e_var 0) a_nil)) e_int)
  (ss_one (s_ret e_non))
  ss_nil)
  (ss_cons (s_set (i := 1) sc_bracketed.nd (e_call h_as_term (rm hr) (a_cons (e_ix hr (e_var 0) e_int) a_nil)))
  (ss_cons (s_if (t_is (e_var 1))
  (ss_one (s_ret e_non))
  ss_nil)
  (ss_cons (s_if (t_w (w_and (t_eq hr (e_ix hr (e_var 0) e_int) e_str) (w_and1 (t_tru (e_call h_is_name_thing (rm hr) (a_cons (e_ix hr (e_var 0) e_int) a_nil))))))
  (ss_one (s_ret (e_tup (a_cons e_str (a_cons (e_ix hr (e_var 0) e_int) (a_cons (e_var 1) a_nil))))))
  ss_nil)
  (ss_cons (s_set (i := 2) sc_bracketed.nd (e_call h_as_term (rm hr) (a_cons (e_ix hr (e_var 0) e_int) a_nil)))
  (ss_cons (s_if (t_w (w_and (t_in hr (e_ix hr (e_var 0) e_int) (e_globT (ys := ["+", "-", "*", "<", "="]) (by rfl) E.k_SIGNS)) (w_and1 (t_isn (e_var 2)))))
  (ss_one (s_ret (e_tup (a_cons e_str (a_cons (e_ix hr (e_var 0) e_int) (a_cons (e_var 2) (a_cons (e_var 1) a_nil)))))))
  ss_nil)
  (ss_one (s_ret e_non))))))))
theorem sc_terms_from : FnScope ["words", "nest", "word", "made", "terms"] ["words"] (defScope (top 19)) := mkFS
theorem ok_terms_from {f : Addr} {fd : FuncData} (F : Fun K "terms_from" "terms_from" (top 19) f fd) (E : Tx K mg κ) (h_as_term : Has P w K mg base "as_term" 3 ["thing"] (UpF K κ 1 F_as_term)) (h_bracketed : Has P w K mg base "bracketed" 4 ["things"] (UpF K κ 1 F_bracketed)) : FnOk P w K mg base CX0 5 f fd ["words"] (UpF K κ 1 F_terms_from) :=
  lift F sc_terms_from rfl rfl fun cdv A outer s H _ hr => (ss_cons (s_set (i := 1) sc_terms_from.nd (e_lst (a_cons (e_box (e_lst a_nil)) a_nil)))
  (ss_cons (s_for (i_seq (e_box (e_var 0))) (g_nm (i := 2) sc_terms_from.nd)
  (ss_one (s_if (t_eq hr (e_var 2) e_str)
  (ss_one (s_expr (e_append1 hr (e_var 1) (a_cons (e_box (e_lst a_nil)) a_nil))))
  (ss_one (s_if (t_eq hr (e_var 2) e_str)
  (ss_cons (s_set (i := 3) sc_terms_from.nd (e_call h_bracketed (rm hr) (a_cons (e_pop0 (e_var 1)) a_nil)))
  (ss_cons (s_if (t_w (w_or (t_is (e_var 3)) (w_or1 (t_eq hr (e_len hr E.b_len (a_cons (e_var 1) a_nil)) e_int))))
  (ss_one (s_ret e_non))
  ss_nil)
  (ss_one (s_expr (e_append1 hr (e_ix hr (e_var 1) (e_neg e_int)) (a_cons (e_var 3) a_nil))))))
  (ss_one (s_expr (e_append1 hr (e_ix hr (e_var 1) (e_neg e_int)) (a_cons (e_var 2) a_nil)))))))))
  (ss_cons (s_comp1 (i := 4) (compOkN_of (osc := (defScope (top 19))) (N := ["words", "nest", "word", "made", "terms"]) (xs := ["thing"]) (ys := []) (ix := []) rfl rfl (by decide +kernel)) (i_seq (e_ix hr (e_var 1) e_int)) (fun z => i_nil) (fun z => (e_call h_as_term (rm hr) (a_cons (e_var 0) a_nil))) sc_terms_from.nd)
  (ss_cons (s_if (t_w (w_or (t_gt hr (e_len hr E.b_len (a_cons (e_var 1) a_nil)) e_int) (w_or1 (t_inN hr e_non (e_var 4)))))
  (ss_one (s_ret e_non))
  ss_nil)
  (ss_one (s_ret (e_var 4)))))))
theorem sc_one_term : FnScope ["words", "terms"] ["words"] (defScope (top 20)) := mkFS
theorem ok_one_term {f : Addr} {fd : FuncData} (F : Fun K "one_term" "one_term" (top 20) f fd) (E : Tx K mg κ) (h_terms_from : Has P w K mg base "terms_from" 5 ["words"] (UpF K κ 1 F_terms_from)) : FnOk P w K mg base CX0 6 f fd ["words"] (UpF K κ 1 F_one_term) :=
  lift F sc_one_term rfl rfl fun cdv A outer s H _ hr => (ss_cons (s_set (i := 1) sc_one_term.nd (e_call h_terms_from (rm hr) (a_cons (e_box (e_var 0)) a_nil)))
  (ss_cons (s_if (t_w (w_or (t_is (e_var 1)) (w_or1 (t_ne hr (e_len hr E.b_len (a_cons (e_var 1) a_nil)) e_int))))
  (ss_one (s_ret e_non))
  ss_nil)
  (ss_one (s_ret (e_ix hr (e_var 1) e_int)))))
theorem sc_spread : FnScope ["row"] ["row"] (defScope (top 14)) := mkFS
theorem ok_spread {f : Addr} {fd : FuncData} (F : Fun K "spread" "spread" (top 14) f fd) (E : Tx K mg κ) : FnOk P w K mg base CX0 1 f fd ["row"] (UpF K κ 1 F_spread) :=
  liftK F sc_spread rfl rfl rfl fun cdv A outer s H _ hr => (k_ret (k_split (k_replace (k_replace (k_of (e_var 0))))))
theorem sc_read_term : FnScope ["text", "term"] ["text"] (defScope (top 21)) := mkFS
theorem ok_read_term {f : Addr} {fd : FuncData} (F : Fun K "read_term" "read_term" (top 21) f fd) (E : Tx K mg κ) (h_spread : Has P w K mg base "spread" 1 ["row"] (UpF K κ 1 F_spread)) (h_one_term : Has P w K mg base "one_term" 6 ["words"] (UpF K κ 1 F_one_term)) : FnOk P w K mg base CX0 7 f fd ["text"] (UpF K κ 1 F_read_term) :=
  lift F sc_read_term rfl rfl fun cdv A outer s H _ hr => (ss_cons (s_set (i := 1) sc_read_term.nd (e_call h_one_term (rm hr) (a_cons (e_call h_spread (rm hr) (a_cons (e_var 0) a_nil)) a_nil)))
  (ss_cons (s_if (t_is (e_var 1))
  (ss_one s_never)
  ss_nil)
  (ss_one (s_ret (e_var 1)))))
theorem sc_inner_terms : FnScope ["term"] ["term"] (defScope (top 23)) := mkFS
theorem ok_inner_terms {f : Addr} {fd : FuncData} (F : Fun K "inner_terms" "inner_terms" (top 23) f fd) (E : Tx K mg κ) : FnOk P w K mg base CX0 1 f fd ["term"] (UpF K κ 1 F_inner_terms) :=
  lift F sc_inner_terms rfl rfl fun cdv A outer s H _ hr => (ss_cons (s_if (t_eq hr (e_ix hr (e_var 0) e_int) e_str)
  (ss_one (s_ret (e_tup (a_cons (e_ix hr (e_var 0) e_int) a_nil))))
  ss_nil)
  (ss_cons (s_if (t_eq hr (e_ix hr (e_var 0) e_int) e_str)
  (ss_one (s_ret (e_tup (a_cons (e_ix hr (e_var 0) e_int) (a_cons (e_ix hr (e_var 0) e_int) a_nil)))))
  ss_nil)
  (ss_one (s_ret (e_tup a_nil)))))
theorem sc_terms_in : FnScope ["term", "told", "left", "first"] ["term"] (defScope (top 24)) := mkFS
theorem ok_terms_in {f : Addr} {fd : FuncData} (F : Fun K "terms_in" "terms_in" (top 24) f fd) (E : Tx K mg κ) (h_inner_terms : Has P w K mg base "inner_terms" 1 ["term"] (UpF K κ 1 F_inner_terms)) : FnOk P w K mg base CX0 2 f fd ["term"] (UpF K κ 1 F_terms_in) :=
  lift F sc_terms_in rfl rfl fun cdv A outer s H _ hr => (ss_cons (s_set (i := 1) sc_terms_in.nd (e_lst a_nil))
  (ss_cons (s_set (i := 2) sc_terms_in.nd (e_lst (a_cons (e_var 0) a_nil)))
  (ss_cons (s_while (t_tru (e_var 2))
  (ss_cons (s_set (i := 3) sc_terms_in.nd (e_pop0 (e_var 2)))
  (ss_cons (s_expr (e_append1 hr (e_var 1) (a_cons (e_var 3) a_nil)))
  (ss_one (s_expr (e_extend1 hr (e_var 2) (a_cons (e_rev (e_call h_inner_terms (rm hr) (a_cons (e_var 3) a_nil))) a_nil)))))))
  (ss_one (s_ret (e_var 1))))))
theorem sc_parts : FnScope ["term"] ["term"] (defScope (top 25)) := mkFS
theorem ok_parts {f : Addr} {fd : FuncData} (F : Fun K "parts" "parts" (top 25) f fd) (E : Tx K mg κ) (h_terms_in : Has P w K mg base "terms_in" 2 ["term"] (UpF K κ 1 F_terms_in)) : FnOk P w K mg base CX0 3 f fd ["term"] (UpF K κ 1 F_parts) :=
  lift F sc_parts rfl rfl fun cdv A outer s H _ hr => (ss_one (s_ret (e_len hr E.b_len (a_cons (e_call h_terms_in (rm hr) (a_cons (e_var 0) a_nil)) a_nil))))
theorem sc__law_many : FnScope ["_law_term"] ["_law_term"] (defScope (top 37)) := mkFS
theorem ok__law_many {f : Addr} {fd : FuncData} {n : Nat} (F : Fun K "_law_many" "_law_many" (top 37) f fd) (E : Tx K mg κ) (h__law_many : Has P w K mg base "_law_many" (1 + n) ["_law_term"] (UpF K κ 1 (F__law_many n))) : FnOk P w K mg base CX0 (1 + n + 1) f fd ["_law_term"] (UpF K κ 1 (F__law_many (n + 1))) := by
  unfold F__law_many
  exact lift F sc__law_many rfl rfl fun cdv A outer s H _ hr => (ss_cons (s_if (t_eq hr (e_ix hr (e_var 0) e_int) e_str)
  (ss_one (s_ret (e_op (q_add hr) p_add (e_op (q_add hr) p_add e_int (e_call h__law_many (rm hr) (a_cons (e_ix hr (e_var 0) e_int) a_nil))) (e_call h__law_many (rm hr) (a_cons (e_ix hr (e_var 0) e_int) a_nil)))))
  ss_nil)
  (ss_cons (s_if (t_eq hr (e_ix hr (e_var 0) e_int) e_str)
  (ss_one (s_ret (e_op (q_add hr) p_add e_int (e_call h__law_many (rm hr) (a_cons (e_ix hr (e_var 0) e_int) a_nil)))))
  ss_nil)
  (ss_one (s_ret e_int))))
theorem sc__law_right : FnScope ["_law_term", "_law_text", "_law_found"] ["_law_term"] (defScope (top 38)) := mkFS
theorem ok__law_right {f : Addr} {fd : FuncData} (F : Fun K "_law_right" "_law_right" (top 38) f fd) (E : Tx K mg κ) (h_read_term : Has P w K mg base "read_term" 7 ["text"] (UpF K κ 1 F_read_term)) (h__law_alike : Has P w K mg base "_law_alike" 10 ["_law_one", "_law_other"] (UpF K κ 2 (F__law_alike 9))) (h__law_many : Has P w K mg base "_law_many" 10 ["_law_term"] (UpF K κ 1 (F__law_many 9))) (h_parts : Has P w K mg base "parts" 3 ["term"] (UpF K κ 1 F_parts)) (h_show_term : Has P w K mg base "show_term" 11 ["term"] (UpF K κ 1 (F_show_term 9))) (h__law_term_text : Has P w K mg base "_law_term_text" 10 ["_law_term"] (UpF K κ 1 (F__law_term_text 9))) : FnOk P w K mg base CX0 12 f fd ["_law_term"] (UpF K κ 1 F__law_right) :=
  lift F sc__law_right rfl rfl fun cdv A outer s H _ hr => (ss_cons (s_set (i := 1) sc__law_right.nd (e_call h__law_term_text (rm hr) (a_cons (e_var 0) a_nil)))
  (ss_cons (s_set (i := 2) sc__law_right.nd (e_call h_show_term (rm hr) (a_cons (e_var 0) a_nil)))
  (ss_cons (s_if (t_w (w_or (t_not (t_tru (e_isinst3 hr E.b_isinstance (a_cons (e_var 2) (a_cons (e_ty (by rfl) E.b_str PyProof.Rows.boot_str) a_nil))))) (w_or (t_ne hr (e_var 2) (e_var 1)) (w_or1 (t_not (t_tru (e_call h__law_alike (rm hr) (a_cons (e_call h_parts (rm hr) (a_cons (e_var 0) a_nil)) (a_cons (e_call h__law_many (rm hr) (a_cons (e_var 0) a_nil)) a_nil)))))))))
  (ss_one (s_ret e_bl))
  ss_nil)
  (ss_one (s_ret (e_call h__law_alike (rm hr) (a_cons (e_call h_read_term (rm hr) (a_cons (e_var 1) a_nil)) (a_cons (e_var 0) a_nil))))))))
theorem sc_law : FnScope ["_law_script", "_law_deal_here", "_law_words", "_law_one", "_law_other"] ["_law_script"] (defScope (top 39)) := mkFS
theorem ok_law {f : Addr} {fd : FuncData} (F : Fun K "law" "law" (top 39) f fd) (E : Tx K mg κ) (h__law_right : Has P w K mg base "_law_right" 12 ["_law_term"] (UpF K κ 1 F__law_right)) (h__law_any_term : Has P w K mg base "_law_any_term" 12 ["_law_deal_here", "_law_words", "_law_room", "_law_down"] (UpF K κ 4 (F__law_any_term 9))) (h__law_names : Has P w K mg base "_law_names" 2 ["_law_deal_here", "_law_many_here"] (UpF K κ 2 F__law_names)) (h__law_deal : Has P w K mg base "_law_deal" 1 ["_law_script", "_law_base"] (UpF K κ 2 F__law_deal)) : FnOk P w K mg base CX0 13 f fd ["_law_script"] (UpF K κ 1 F_law) :=
  lift F sc_law rfl rfl fun cdv A outer s H _ hr => (ss_cons (s_set (i := 1) sc_law.nd (e_call h__law_deal (rm hr) (a_cons (e_var 0) (a_cons e_int a_nil))))
  (ss_cons (s_set (i := 2) sc_law.nd (e_call h__law_names (rm hr) (a_cons (e_box (e_var 1)) (a_cons e_int a_nil))))
  (ss_cons (s_set (i := 3) sc_law.nd (e_call h__law_any_term (rm hr) (a_cons (e_box (e_var 1)) (a_cons (e_box (e_var 2)) (a_cons (e_box (e_lst (a_cons e_int a_nil))) (a_cons e_int a_nil))))))
  (ss_cons (s_set (i := 4) sc_law.nd (e_call h__law_any_term (rm hr) (a_cons (e_box (e_var 1)) (a_cons (e_box (e_var 2)) (a_cons (e_box (e_lst (a_cons e_int a_nil))) (a_cons e_int a_nil))))))
  (ss_one (s_ret (e_all hr E.b_all (a_cons (e_comp1 (compOkN_of (osc := (defScope (top 39))) (N := ["_law_script", "_law_deal_here", "_law_words", "_law_one", "_law_other"]) (xs := ["_law_term"]) (ys := []) (ix := []) rfl rfl (by decide +kernel)) (i_seq (e_tup (a_cons (e_var 3) (a_cons (e_var 4) (a_cons (e_var 3) (a_cons (e_var 4) a_nil)))))) (fun z => i_nil) (fun z => (e_call h__law_right (rm hr) (a_cons (e_var 0) a_nil)))) a_nil))))))))
end
end Q
namespace Q
open PySem PySem.Spec PyProof.Rows L2 B
noncomputable def spLaw (K : PySem.W.Frag) : Sp := fun vs H Q _ => ∃ (a : Addr) (ns : List Int), vs = [.ref a] ∧ Only H ∧ SqL K H a (ns.map V.int) ∧ ns.length ≤ 63 ∧ ∀ H', Q (.bl true) H'
theorem ints_rel {K : PySem.W.Frag} {ι : List Addr} {H : Hp} : ∀ ns : List Int, RpIs K ι H (ns.map V.int) (ns.map I.int)
  | [] => .nil
  | n :: ns => .cons (.int n) (ints_rel ns)
theorem law_sp {P : Program} {w : World} {K : PySem.W.Frag} {mg : Str → Option Value} {base : Heap} {κ : Str → Addr} {f : Addr} {fd : FuncData} (h : FnOk P w K mg base CX0 13 f fd ["_law_script"] (UpF K κ 1 F_law)) : FnOk P w K mg base CX0 13 f fd ["_law_script"] (spLaw K) := by
  refine h.imp fun vs H Q E q => ?_
  obtain ⟨a, ns, rfl, ho, hs, hl, k⟩ := q
  have fr : FrL K H a (ns.map V.int) := by
    rcases hs with (z | ⟨o, z⟩) | z
    · rcases ho a with e | ⟨o, xs, e⟩ <;> (rw [z] at e; cases e)
    · exact .inl ⟨o, z⟩
    · exact .inr (.inr z)
  obtain ⟨G, e⟩ := law_true ns hl
  refine ⟨[], [.im (.fro (ns.map I.int))], [], _, G, rfl, ⟨.cons (.im (.fro fr (ints_rel ns))) .nil, .nil, fun x => ?_⟩, e, fun v ι' H' s st => ?_⟩
  · have : own (List.map some [V.ref a]) (List.map some [Vl.im (.fro (ns.map I.int))]) = [] := by show own1 _ _ ++ [] = []; rw [own1_im]; rfl
    rw [this]; simp
  · have := s.sl
    cases this with
    | cons q _ => cases q with
      | im r => cases r; exact k _
theorem us1 : ∀ (us : List Value), us.length = 1 → ∃ x0, us = [x0]
  | [x0], _ => ⟨x0, rfl⟩
theorem us2 : ∀ (us : List Value), us.length = 2 → ∃ x0 x1, us = [x0, x1]
  | [x0, x1], _ => ⟨x0, x1, rfl⟩
theorem us4 : ∀ (us : List Value), us.length = 4 → ∃ x0 x1 x2 x3, us = [x0, x1, x2, x3]
  | [x0, x1, x2, x3], _ => ⟨x0, x1, x2, x3, rfl⟩
noncomputable def BindP (x q : Str) (st : Stmt) (ps : List Str) : Prop := ∀ (kV doc pm : Value) (an : Option Addr) (cdv ct : Value) (us : List Value), us.length = ps.length → bindArgs (PySem.W.fnOf x q (defArgs st) (defBody st) (defScope st) .none kV doc pm an cdv ct) ⟨us, []⟩ = pure (ps.zip us)
noncomputable abbrev NF (K : PySem.W.Frag) (x q : Str) (st : Stmt) (f : Addr) (d : FuncData) : Prop := PySem.W.nsIn K mainGlobals x = some (some (.ref f)) ∧ Fun K x q st f d
section
variable {K : PySem.W.Frag} {mg : Str → Option Value} {h : Heap} {k : Nat} {ps : List Str} {sp : Sp} {f : Addr} {fd : FuncData} {C : Addr} {x q m : Str} {st : Stmt} (P : Program) (w : World) (base : Heap)
theorem hasFx (X : K.In h) (G : h.Ns mainGlobals mg) (A : NF K x q st f fd) (o : FnOk P w K mg base CX0 k f fd ps sp) (hb : BindP x q st ps := by intro _ _ _ _ _ _ us hl; first | (obtain ⟨_, rfl⟩ := us1 us hl; rfl) | (obtain ⟨_, _, rfl⟩ := us2 us hl; rfl) | (obtain ⟨_, _, _, _, rfl⟩ := us4 us hl; rfl)) : Has P w K mg base x k ps sp := ⟨f, fd, PySem.W.mg_of X G A.1, A.2.kp, A.2.binds hb, o⟩
end
theorem all_mk {l : PySem.W.OpenLaw} {w : World} {K : PySem.W.Frag} {h : Heap} {mg : Str → Option Value} {fa  f1 f2 f3 f4 f5 f6 f7 f8 f9 f10 f11 f12 f13 f14 f15 f16 f17 f18 f19 f20 f21 f22 f23 f24 f25 f26 : Addr} (X : K.In h) (G : h.Ns mainGlobals mg) (hfa : mg "law" = some (.ref fa))
    {d1 d2 d3 d4 d5 d6 d7 d8 d9 d10 d11 d12 d13 d14 d15 d16 d17 d18 d19 d20 d21 d22 d23 d24 d25 d26 : FuncData}
    (A1 : NF K "_law_deal" "_law_deal" (top 29) f1 d1)
    (A2 : NF K "_law_draw" "_law_draw" (top 30) f2 d2)
    (A3 : NF K "_law_names" "_law_names" (top 31) f3 d3)
    (A4 : NF K "_law_any_name" "_law_any_name" (top 33) f4 d4)
    (A5 : NF K "_law_word" "_law_word" (top 32) f5 d5)
    (A6 : NF K "_law_any_term" "_law_any_term" (top 34) f6 d6)
    (A7 : NF K "_law_term_text" "_law_term_text" (top 35) f7 d7)
    (A8 : NF K "figures_of" "figures_of" (top 12) f8 d8)
    (A9 : NF K "show_term" "show_term" (top 27) f9 d9)
    (A10 : NF K "_law_alike" "_law_alike" (top 36) f10 d10)
    (A11 : NF K "is_name" "is_name" (top 10) f11 d11)
    (A12 : NF K "number_in" "number_in" (top 11) f12 d12)
    (A13 : NF K "word_from" "word_from" (top 15) f13 d13)
    (A14 : NF K "as_term" "as_term" (top 16) f14 d14)
    (A15 : NF K "is_name_thing" "is_name_thing" (top 17) f15 d15)
    (A16 : NF K "bracketed" "bracketed" (top 18) f16 d16)
    (A17 : NF K "terms_from" "terms_from" (top 19) f17 d17)
    (A18 : NF K "one_term" "one_term" (top 20) f18 d18)
    (A19 : NF K "spread" "spread" (top 14) f19 d19)
    (A20 : NF K "read_term" "read_term" (top 21) f20 d20)
    (A21 : NF K "inner_terms" "inner_terms" (top 23) f21 d21)
    (A22 : NF K "terms_in" "terms_in" (top 24) f22 d22)
    (A23 : NF K "parts" "parts" (top 25) f23 d23)
    (A24 : NF K "_law_many" "_law_many" (top 37) f24 d24)
    (A25 : NF K "_law_right" "_law_right" (top 38) f25 d25)
    (A26 : NF K "law" "law" (top 39) f26 d26)
    {tkFIGURES : Tok} (kc_FIGURES : PySem.W.nsIn K mainGlobals "FIGURES" = some (some (.str "0123456789" tkFIGURES)))
    {tkLETTERS : Tok} (kc_LETTERS : PySem.W.nsIn K mainGlobals "LETTERS" = some (some (.str "abcdefghijklmnopqrstuvwxyz" tkLETTERS)))
    {tkLONGEST_NAME : Tok} (kc_LONGEST_NAME : PySem.W.nsIn K mainGlobals "LONGEST_NAME" = some (some (.int 6 tkLONGEST_NAME)))
    {taSIGNS : Addr} {tdSIGNS : Option Addr} {tiSIGNS : Array Value} {tnSIGNS : Nat} {tsSIGNS : Array (Option Value)} (kc_SIGNS : PySem.W.nsIn K mainGlobals "SIGNS" = some (some (.ref taSIGNS))) (kl_SIGNS : K.lookup taSIGNS = some ⟨.type "tuple", tdSIGNS, .seq tiSIGNS tnSIGNS, tsSIGNS⟩) (kv_SIGNS : Vals (List.map V.str ["+", "-", "*", "<", "="]) tiSIGNS.toList)
    {taTAKEN : Addr} {tdTAKEN : Option Addr} {tiTAKEN : Array Value} {tnTAKEN : Nat} {tsTAKEN : Array (Option Value)} (kc_TAKEN : PySem.W.nsIn K mainGlobals "TAKEN" = some (some (.ref taTAKEN))) (kl_TAKEN : K.lookup taTAKEN = some ⟨.type "tuple", tdTAKEN, .seq tiTAKEN tnTAKEN, tsTAKEN⟩) (kv_TAKEN : Vals (List.map V.str ["cell", "row", "def", "main", "set", "put", "while", "if", "else", "call", "end", "at"]) tiTAKEN.toList)
    {tkWIDE : Tok} (kc_WIDE : PySem.W.nsIn K mainGlobals "WIDE" = some (some (.int 4294967296 tkWIDE)))
    (z0 : PySem.W.nsIn K mainGlobals "all" = some none)
    (z1 : PySem.W.nsIn K mainGlobals "bool" = some none)
    (z2 : PySem.W.nsIn K mainGlobals "int" = some none)
    (z3 : PySem.W.nsIn K mainGlobals "isinstance" = some none)
    (z4 : PySem.W.nsIn K mainGlobals "len" = some none)
    (z5 : PySem.W.nsIn K mainGlobals "list" = some none)
    (z6 : PySem.W.nsIn K mainGlobals "max" = some none)
    (z7 : PySem.W.nsIn K mainGlobals "range" = some none)
    (z8 : PySem.W.nsIn K mainGlobals "reversed" = some none)
    (z9 : PySem.W.nsIn K mainGlobals "str" = some none)
    (z10 : PySem.W.nsIn K mainGlobals "tuple" = some none)
    (z11 : PySem.W.nsIn K mainGlobals "zip" = some none)
    : ∃ fd : FuncData, (∀ (s : Shared) (v : Value), BindsTo s fd ⟨[v], []⟩ [("_law_script", v)]) ∧ ∀ base : Heap, K.In base → base.Ns mainGlobals mg → FnOk l.prog w K mg base CX0 13 fa fd ["_law_script"] (spLaw K) := by
  have e := hfa.symm.trans (PySem.W.mg_of X G A26.1)
  cases e
  obtain ⟨κ, hκ⟩ : ∃ κ : Str → Addr, True := ⟨fun c : Str => 0, trivial⟩
  have E : Tx K mg κ := ⟨⟨_, PySem.W.mg_of X G kc_FIGURES⟩, ⟨_, PySem.W.mg_of X G kc_LETTERS⟩, ⟨_, PySem.W.mg_of X G kc_LONGEST_NAME⟩, ⟨_, PySem.W.mg_of X G kc_SIGNS, .inr ⟨_, _, _, kl_SIGNS, rfl, rfl, (by have q := kv_SIGNS.length; have q2 : tiSIGNS.toList.length = tiSIGNS.size := Array.length_toList; rw [← q2, ← q]; exact Nat.le_of_ble_eq_true rfl), kv_SIGNS⟩⟩, ⟨_, PySem.W.mg_of X G kc_TAKEN, .inr ⟨_, _, _, kl_TAKEN, rfl, rfl, (by have q := kv_TAKEN.length; have q2 : tiTAKEN.toList.length = tiTAKEN.size := Array.length_toList; rw [← q2, ← q]; exact Nat.le_of_ble_eq_true rfl), kv_TAKEN⟩⟩, ⟨_, PySem.W.mg_of X G kc_WIDE⟩, PySem.W.mg_none_of X G z0, PySem.W.mg_none_of X G z1, PySem.W.mg_none_of X G z2, PySem.W.mg_none_of X G z3, PySem.W.mg_none_of X G z4, PySem.W.mg_none_of X G z5, PySem.W.mg_none_of X G z6, PySem.W.mg_none_of X G z7, PySem.W.mg_none_of X G z8, PySem.W.mg_none_of X G z9, PySem.W.mg_none_of X G z10, PySem.W.mg_none_of X G z11⟩
  obtain ⟨_, _, kV, dc, pm, an, cd, ct, _, rfl, _, _⟩ := A26.2.ex
  refine ⟨PySem.W.fnOf "law" "law" (defArgs (top 39)) (defBody (top 39)) (defScope (top 39)) .none kV dc pm an cd ct, fun s v => .of_eq rfl, fun base _ _ => ?_⟩
  have h__law_deal := hasFx l.prog w base X G A1 (ok__law_deal A1.2 E )
  have h__law_draw := hasFx l.prog w base X G A2 (ok__law_draw A2.2 E )
  have h__law_names := hasFx l.prog w base X G A3 (ok__law_names A3.2 E h__law_draw)
  have h__law_any_name := hasFx l.prog w base X G A4 (ok__law_any_name A4.2 E h__law_draw)
  have h__law_word := hasFx l.prog w base X G A5 (ok__law_word A5.2 E h__law_draw)
  have r__law_any_term : ∀ n : Nat, FnOk l.prog w K mg base CX0 (3 + n) f6 _ ["_law_deal_here", "_law_words", "_law_room", "_law_down"] (UpF K κ 4 (F__law_any_term n)) := fun n => by
    induction n with
    | zero => exact (by unfold F__law_any_term; exact none_ok)
    | succ n ih => exact ok__law_any_term A6.2 E (hasFx l.prog w base X G A6 (ih)) h__law_draw h__law_any_name h__law_word
  have h__law_any_term := (hasFx l.prog w base X G A6 ((r__law_any_term 9)))
  have r__law_term_text : ∀ n : Nat, FnOk l.prog w K mg base CX0 (1 + n) f7 _ ["_law_term"] (UpF K κ 1 (F__law_term_text n)) := fun n => by
    induction n with
    | zero => exact (by unfold F__law_term_text; exact none_ok)
    | succ n ih => exact ok__law_term_text A7.2 E (hasFx l.prog w base X G A7 (ih))
  have h__law_term_text := (hasFx l.prog w base X G A7 ((r__law_term_text 9)))
  have h_figures_of := hasFx l.prog w base X G A8 (ok_figures_of A8.2 E )
  have r_show_term : ∀ n : Nat, FnOk l.prog w K mg base CX0 (2 + n) f9 _ ["term"] (UpF K κ 1 (F_show_term n)) := fun n => by
    induction n with
    | zero => exact (by unfold F_show_term; exact none_ok)
    | succ n ih => exact ok_show_term A9.2 E (hasFx l.prog w base X G A9 (ih)) h_figures_of
  have h_show_term := (hasFx l.prog w base X G A9 ((r_show_term 9)))
  have r__law_alike : ∀ n : Nat, FnOk l.prog w K mg base CX0 (1 + n) f10 _ ["_law_one", "_law_other"] (UpF K κ 2 (F__law_alike n)) := fun n => by
    induction n with
    | zero => exact (by unfold F__law_alike; exact none_ok)
    | succ n ih => exact ok__law_alike A10.2 E (hasFx l.prog w base X G A10 (ih))
  have h__law_alike := (hasFx l.prog w base X G A10 ((r__law_alike 9)))
  have h_is_name := hasFx l.prog w base X G A11 (ok_is_name A11.2 E )
  have h_number_in := hasFx l.prog w base X G A12 (ok_number_in A12.2 E )
  have h_word_from := hasFx l.prog w base X G A13 (ok_word_from A13.2 E h_number_in)
  have h_as_term := hasFx l.prog w base X G A14 (ok_as_term A14.2 E h_word_from h_is_name)
  have h_is_name_thing := hasFx l.prog w base X G A15 (ok_is_name_thing A15.2 E h_is_name)
  have h_bracketed := hasFx l.prog w base X G A16 (ok_bracketed A16.2 E h_as_term h_is_name_thing)
  have h_terms_from := hasFx l.prog w base X G A17 (ok_terms_from A17.2 E h_as_term h_bracketed)
  have h_one_term := hasFx l.prog w base X G A18 (ok_one_term A18.2 E h_terms_from)
  have h_spread := hasFx l.prog w base X G A19 (ok_spread A19.2 E )
  have h_read_term := hasFx l.prog w base X G A20 (ok_read_term A20.2 E h_spread h_one_term)
  have h_inner_terms := hasFx l.prog w base X G A21 (ok_inner_terms A21.2 E )
  have h_terms_in := hasFx l.prog w base X G A22 (ok_terms_in A22.2 E h_inner_terms)
  have h_parts := hasFx l.prog w base X G A23 (ok_parts A23.2 E h_terms_in)
  have r__law_many : ∀ n : Nat, FnOk l.prog w K mg base CX0 (1 + n) f24 _ ["_law_term"] (UpF K κ 1 (F__law_many n)) := fun n => by
    induction n with
    | zero => exact (by unfold F__law_many; exact none_ok)
    | succ n ih => exact ok__law_many A24.2 E (hasFx l.prog w base X G A24 (ih))
  have h__law_many := (hasFx l.prog w base X G A24 ((r__law_many 9)))
  have h__law_right := hasFx l.prog w base X G A25 (ok__law_right A25.2 E h_read_term h__law_alike h__law_many h_parts h_show_term h__law_term_text)
  exact law_sp (κ := κ) (ok_law A26.2 E h__law_right h__law_any_term h__law_names h__law_deal)
theorem walk {l : PySem.W.OpenLaw} {q : Program} {loose : List Str} {XP : (Str → Option Value) → Heap → Prop} {YP : World → Heap → Prop} {d : DefRec} {K : Params → PySem.W.Frag} (hn : l.most = some 63) (hdf : d.params.defaults = [])
    (hY : ∀ (w : World) (h : Heap), YP w h → (K w.params).In h)
    (F : ∀ (w : World) (mg : Str → Option Value) (fa : Addr) (h : Heap), (K w.params).In h → h.Ns mainGlobals mg → mg d.name = some (.ref fa) →
      ∃ fd : FuncData, (∀ (s : Shared) (u : Value), BindsTo s fd ⟨[u], []⟩ [("_law_script", u)]) ∧ ∀ base : Heap, (K w.params).In base → base.Ns mainGlobals mg → FnOk l.prog w (K w.params) mg base CX0 13 fa fd ["_law_script"] (spLaw (K w.params))) :
    PySem.W.WalkO q loose XP YP l.row.toRowW d [] (fun f vs => PySem.call f vs) :=
  L2.walk_of (n := 63) (k := 13) (x := "_law_script") (CX := fun _ => CX0) (sp := fun w => spLaw (K w.params)) hn (by decide) hdf ⟨rfl, by decide, by decide, rfl⟩ hY F (fun _ _ a ns hl ho hS => ⟨a, ns, rfl, ho, hS, hl, fun _ => rfl⟩) fun _ _ _ _ _ z => z
end Q
open PySem PySem.W PyProof.Rows
set_option maxRecDepth 100000 in
set_option maxHeartbeats 0 in
theorem PySem.Challenge.cw_stepcourt_k02_terms_written_and_read_holds : PySem.Challenge.rw_stepcourt_k02_terms_written_and_read.Holds := by
  refine zTop ?_
  k_fill
  refine Q.walk (l := PySem.Challenge.rw_stepcourt_k02_terms_written_and_read) rfl rfl (fun w h Y => PySem.W.kIn_of Y) ?F
  case F =>
    intro w mg fa h KX G hmg
    refine' Q.all_mk KX G hmg ..
    all_goals first | k_is | (refine' ⟨?a, L2.fun_mk ?l ?c ?k⟩; case a | l | c | k => k_is) | kernel_rfl | (repeat (first | exact .nil | refine .cons ⟨_, rfl⟩ ?_))
