import PyProof.Rows.All
import Wide.All
import OpenK.AllK
import Wide.FinOn
import Lean
import PyProof.EqAt
import PyProof.EqKinds
import PyProof.TupleCall
import PyProof.CompFree
import PyProof.NeKinds
import PyProof.Rows.RegReprOcc
import PyProof.Rows.StrCase
import PySem.Challenge.RW_stepcourt_k07_programs_let_by
set_option Elab.async false
set_option linter.all false
set_option maxRecDepth 100000
/-! THE HAND LAYER, for ints, bools, texts, own classes, DICTS (int and text keys), calls, loops. Paste it whole ahead of your own text; what your proof does not reach may be deleted. -/
namespace L2
open PySem PySem.Spec PyProof.Rows

/-- a key: an int or a str -/
abbrev Key := Sum Int Str
def keyIs : Key → Value → Bool
  | .inl k, v => Value.isInt k v
  | .inr x, v => Value.isStrOf x v
def keyH (w : World) : Key → Int
  | .inl k => hashInt k
  | .inr x => hashStr w x
theorem keyIs_shape : ∀ {k : Key} {v : Value}, keyIs k v = true → (∃ i t, k = Sum.inl i ∧ v = Value.int i t) ∨ (∃ x t, k = Sum.inr x ∧ v = Value.str x t)
  | .inl i, v, h => by
    obtain ⟨t, e⟩ := Value.isInt_shape (k := i) (v := v) h
    exact .inl ⟨i, t, rfl, e⟩
  | .inr x, v, h => by
    obtain ⟨t, e⟩ := Value.isStrOf_shape (x := x) (v := v) h
    exact .inr ⟨x, t, rfl, e⟩
theorem keyIs_int (i : Int) (t : Tok) : keyIs (.inl i) (.int i t) = true := by simp [keyIs, Value.isInt]
theorem keyIs_str (x : Str) (t : Tok) : keyIs (.inr x) (.str x t) = true := by simp [keyIs, Value.isStrOf]
theorem key_ll (a b : Int) : decide ((Sum.inl a : Key) = Sum.inl b) = (a == b) := by
  by_cases e : a = b
  · subst e; simp
  · have h : ¬ (Sum.inl a : Key) = Sum.inl b := fun q => e (Sum.inl.inj q)
    rw [decide_eq_false h]
    exact (beq_eq_false_iff_ne.mpr e).symm
theorem key_rr (a b : Str) : decide ((Sum.inr a : Key) = Sum.inr b) = decide (a = b) := by
  by_cases e : a = b
  · subst e; simp
  · have h : ¬ (Sum.inr a : Key) = Sum.inr b := fun q => e (Sum.inr.inj q)
    rw [decide_eq_false h, decide_eq_false e]
theorem key_lr (a : Int) (b : Str) : decide ((Sum.inl a : Key) = Sum.inr b) = false := decide_eq_false (fun q => nomatch q)
theorem key_rl (a : Str) (b : Int) : decide ((Sum.inr a : Key) = Sum.inl b) = false := decide_eq_false (fun q => nomatch q)

def mixKind (prog : Program) (w : World) : PySem.KeyKind prog w Key where
  is := keyIs
  hash := keyH w
  inj := fun v a b ha hb => by
    rcases keyIs_shape ha with ⟨i, t, rfl, rfl⟩ | ⟨x, t, rfl, rfl⟩
    · rcases keyIs_shape hb with ⟨j, u, rfl, e⟩ | ⟨y, u, rfl, e⟩
      · injection e with e1 _; rw [e1]
      · exact nomatch e
    · rcases keyIs_shape hb with ⟨j, u, rfl, e⟩ | ⟨y, u, rfl, e⟩
      · exact nomatch e
      · injection e with e1 _; rw [e1]
  byValue := fun k v h => by
    rcases keyIs_shape h with ⟨i, t, rfl, rfl⟩ | ⟨x, t, rfl, rfl⟩ <;> rfl
  pyHash := fun hv h => by
    rcases keyIs_shape hv with ⟨i, t, rfl, rfl⟩ | ⟨x, t, rfl, rfl⟩
    · exact wpAny_pyHash_int h
    · exact wpAny_pyHash_str h
  eqBool := fun hu hv h => by
    rcases keyIs_shape hu with ⟨i, t, rfl, rfl⟩ | ⟨x, t, rfl, rfl⟩
    · rcases keyIs_shape hv with ⟨j, u, rfl, rfl⟩ | ⟨y, u, rfl, rfl⟩
      · rw [key_ll] at h; exact wpAny_eqBool_int h
      · rw [key_lr] at h; exact SeqAt.EqAt.int_str i t y u _ _ _ _ h
    · rcases keyIs_shape hv with ⟨j, u, rfl, rfl⟩ | ⟨y, u, rfl, rfl⟩
      · rw [key_rl] at h; exact SeqAt.EqAt.str_int x t j u _ _ _ _ h
      · rw [key_rr] at h; exact wpAny_eqBool_str h
  «strs» := fun k x t v h => by
    rcases keyIs_shape h with ⟨i, u, rfl, e⟩ | ⟨y, u, rfl, e⟩
    · exact nomatch e
    · injection e with e1 _
      subst e1
      cases v <;> rfl

theorem mixKind_is (prog : Program) (w : World) (k : Key) (v : Value) : (mixKind prog w).is k v = keyIs k v := rfl
theorem mixKind_int (prog : Program) (w : World) (i : Int) (t : Tok) : (mixKind prog w).is (.inl i) (.int i t) = true := keyIs_int i t
theorem mixKind_str (prog : Program) (w : World) (x : Str) (t : Tok) : (mixKind prog w).is (.inr x) (.str x t) = true := keyIs_str x t
end L2

namespace L2
open PySem PySem.Spec PyProof.Rows

/-- a value, without the heap -/
inductive V where
  | non | bl (b : Bool) | int (i : Int) | str (x : Str) | byt (b : Array UInt8) | flt (b : UInt64) | ref (a : Addr) | ty (n : String)
  deriving DecidableEq

def RelV : V → Value → Prop
  | .non, u => u = Value.none
  | .bl b, u => u = Value.bool b
  | .int i, u => ∃ t, u = Value.int i t
  | .str x, u => ∃ t, u = Value.str x t
  | .byt b, u => ∃ t, u = Value.bytes b t
  | .flt b, u => ∃ t, u = Value.float b t
  | .ref a, u => u = Value.ref a
  | .ty n, u => u = Value.type n

abbrev Vals : List V → List Value → Prop := Paired RelV
theorem Vals.length {xs : List V} {us : List Value} (r : Vals xs us) : xs.length = us.length := Paired.length r
theorem Vals.get : ∀ {xs : List V} {us : List Value} {i : Nat} {x : V}, Vals xs us → xs[i]? = some x → ∃ u, us[i]? = some u ∧ RelV x u
  | _, _, _, _, .nil, e => by simp at e
  | _, _, 0, _, .cons r _, e => by simp at e; subst e; exact ⟨_, rfl, r⟩
  | _, _, i + 1, x, .cons _ t, e => by
    obtain ⟨u, h1, h2⟩ := Vals.get (i := i) (x := x) t (by simpa using e)
    exact ⟨u, by simpa using h1, h2⟩
theorem Vals.set {x : V} {u : Value} (r : RelV x u) : ∀ {xs : List V} {us : List Value} (i : Nat), Vals xs us → Vals (xs.set i x) (us.set i u)
  | _, _, _, .nil => .nil
  | _, _, 0, .cons _ t => .cons r t
  | _, _, i + 1, .cons q t => .cons q (Vals.set r i t)
theorem Vals.append : ∀ {xs ys : List V} {us ws : List Value}, Vals xs us → Vals ys ws → Vals (xs ++ ys) (us ++ ws)
  | _, _, _, _, .nil, s => s
  | _, _, _, _, .cons r t, s => .cons r (Vals.append t s)
theorem Vals.take : ∀ {xs : List V} {us : List Value} (n : Nat), Vals xs us → Vals (xs.take n) (us.take n)
  | _, _, 0, _ => .nil
  | _, _, _ + 1, .nil => .nil
  | _, _, n + 1, .cons r t => .cons r (Vals.take n t)
theorem Vals.drop : ∀ {xs : List V} {us : List Value} (n : Nat), Vals xs us → Vals (xs.drop n) (us.drop n)
  | _, _, 0, r => r
  | _, _, _ + 1, .nil => .nil
  | _, _, n + 1, .cons _ t => Vals.drop n t
theorem Vals.none_of : ∀ {xs : List V} {us : List Value} {i : Nat}, Vals xs us → xs[i]? = none → us[i]? = none := fun {xs us i} r e => by
  have h1 := r.length
  have h2 : xs.length ≤ i := List.getElem?_eq_none_iff.mp e
  exact List.getElem?_eq_none_iff.mpr (by omega)

def RelO : Option V → Option Value → Prop
  | some v, some u => RelV v u
  | none, none => True
  | _, _ => False
def KV {κ : Type} : List (κ × V) → List (κ × Value) → Prop := Paired fun (p : κ × V) (q : κ × Value) => p.1 = q.1 ∧ RelV p.2 q.2

/-- a key of a dict (00_mix): an int or a text -/
def kV : Key → V
  | .inl i => .int i
  | .inr x => .str x

/-- what stands at a tracked address -/
inductive HO where
  /-- a list -/
  | lst (xs : List V)
  /-- a tuple (never changes) -/
  | tup (xs : List V)
  /-- a dict whose keys are ints and texts; one whose keys are tuples of ints and texts (the empty one is both) -/
  | dK (kvs : List (Key × V)) | dT (kvs : List (List Key × V))
  /-- a set of ints: its members, its size -/
  | set (S : Int → Bool) (n : Nat)
  /-- an instance of the class at C, its dict at dx, its attributes -/
  | ins (C dx : Addr) (fs : List (Str × V))
  /-- the dict of the instance at x -/
  | own (x : Addr)
  /-- the dict of an exception -/
  | xd (fs : List (Str × V))
  /-- a bound method, f of x -/
  | met (f x : Addr)
  /-- a range object lo, lo + 1, .. below hi -/
  | rng (lo hi : Int)
  /-- a thing that is known to the object (the script; a dict while a loop walks it): read, never written while it is so -/
  | frz (o : Obj) (u : HO)
  /-- a code object's table -/
  | tbl (ps : Array Value)
  /-- any other thing, by what is true of its one object (a def of one's own: SetO a S n := HO.ext fun h => ..) -/
  | ext (φ : Heap → Prop)

abbrev Hp := Addr → Option HO
def upd (H : Hp) (a : Addr) (o : HO) : Hp := fun b => if b = a then some o else H b
theorem upd_same {H : Hp} {a : Addr} {o : HO} : upd H a o a = some o := by unfold upd; rw [if_pos rfl]
theorem upd_ne {H : Hp} {a b : Addr} {o : HO} (h : b ≠ a) : upd H a o b = H b := by unfold upd; rw [if_neg h]
theorem upd_upd {H : Hp} {a : Addr} {o u : HO} : upd (upd H a o) a u = upd H a u := by
  funext b; unfold upd; split <;> rfl
/-- two objects of different content stand apart -/
theorem ne_of {H : Hp} {a b : Addr} {o u : HO} (h : H a = some o) (h' : H b = some u) (d : o ≠ u) : a ≠ b := by
  intro e; subst e; rw [h] at h'; exact d (Option.some.inj h')
theorem ne_of_none {H : Hp} {a b : Addr} {o : HO} (h : H a = some o) (h' : H b = none) : a ≠ b := by
  intro e; subst e; rw [h] at h'; cases h'

section
variable (P : Program) (w : World)
def ObjOk (H : Hp) (h : Heap) (a : Addr) : HO → Prop
  | .lst xs => xs.length ≤ sizeLine ∧ ∃ (its : List Value) (n : Nat), Vals xs its ∧ h.get? a = some { cls := .type "list", data := .seq its.toArray n }
  | .tup xs => xs.length ≤ sizeLine ∧ ∃ its : List Value, Vals xs its ∧ IsTup h a its.toArray
  | .dK kvs => kvs.length ≤ sizeLine ∧ (a == sysModules) = false ∧ ∃ vs, KV kvs vs ∧ h.DictOf (mixKind P w) a vs
  | .dT kvs => kvs.length ≤ sizeLine ∧ (a == sysModules) = false ∧ ∃ xs : List (List Key × Addr × Value),
      Paired (fun (p : List Key × V) (q : List Key × Addr × Value) => p.1 = q.1 ∧ H q.2.1 = some (.tup (p.1.map kV)) ∧ RelV p.2 q.2.2) kvs xs ∧
      ∃ o es ep, h.get? a = some o ∧ o.ExactDict ∧ o.data = .dict es ep ∧ es.toList = xs.map (entryOfKey (tupleKind (mixKind P w))) ∧ (xs.map (·.1)).Nodup
  | .set S n => h.SetOf (intKind P w) a S n
  | .ins C dx fs => H dx = some (.own a) ∧ fs.length ≤ 1000 ∧ dx ≠ a ∧ h.get? a = some (PySem.W.instObj C dx) ∧
      ∃ mA, h.Ns1 dx mA ∧ (∀ f, RelO (fs.lookup f) (mA f)) ∧ PySem.Within mA (fs.map (·.1))
  | .own _ => ∃ o, h.get? a = some o
  | .xd fs => ∃ mA, h.Ns1 a mA ∧ ∀ f, RelO (fs.lookup f) (mA f)
  | .rng lo hi => ∃ t u v, h.get? a = some { cls := .type "range", data := .fields #[.int lo t, .int hi u, .int 1 v] }
  | .frz o u => h.get? a = some o ∧ ObjOk H h a u
  | .tbl ps => h.get? a = some { cls := .none, data := .fields ps }
  | .met f x => h.get? a = some (PySem.W.methodObj (.ref f) (.ref x))
  | .ext φ => φ h ∧ (∃ o, h.get? a = some o) ∧ ∀ h1 h2 : Heap, φ h1 → (∀ o, h1.get? a = some o → h2.get? a = some o) → φ h2
/-- the abstract heap is held -/
def HOk (H : Hp) (h : Heap) : Prop := ∀ a o, H a = some o → ObjOk P w H h a o
end

section
variable {P : Program} {w : World} {H H' : Hp} {h h' : Heap} {a : Addr} {o : HO}
theorem ObjOk.lt (x : ObjOk P w H h a o) : a < h.objs.size := by
  cases o with
  | lst xs => obtain ⟨_, _, _, _, e⟩ := x; exact Heap.lt_size e
  | tup xs => obtain ⟨_, _, _, p⟩ := x; exact p.lt
  | dK kvs => obtain ⟨_, _, _, _, o, _, _, e, _⟩ := x; exact Heap.lt_size e
  | dT kvs => obtain ⟨_, _, _, _, o, _, _, e, _⟩ := x; exact Heap.lt_size e
  | set S n => obtain ⟨o, _, _, _, e, _⟩ := x; exact Heap.lt_size e
  | ins C dx fs => obtain ⟨_, _, _, e, _⟩ := x; exact Heap.lt_size e
  | own y => obtain ⟨_, e⟩ := x; exact Heap.lt_size e
  | xd fs => obtain ⟨_, ⟨_, _, _, e, _⟩, _⟩ := x; exact Heap.lt_size e
  | rng lo hi => obtain ⟨_, _, _, e⟩ := x; exact Heap.lt_size e
  | frz ob u => obtain ⟨e, _⟩ := x; exact Heap.lt_size e
  | tbl ps => exact Heap.lt_size (show h.get? a = some _ from x)
  | met f y => exact Heap.lt_size (show h.get? a = some _ from x)
  | ext φ => obtain ⟨_, ⟨_, e⟩, _⟩ := x; exact Heap.lt_size e
theorem Paired.mapP {α β : Type} {F G : α → β → Prop} : ∀ {l₁ : List α} {l₂ : List β}, Paired F l₁ l₂ → (∀ a b, F a b → G a b) → Paired G l₁ l₂
  | _, _, .nil, _ => .nil
  | _, _, .cons r t, f => .cons (f _ _ r) (Paired.mapP t f)
theorem Paired.imp' {α β : Type} {F G : α → β → Prop} (f : ∀ a b, F a b → G a b) {l₁ : List α} {l₂ : List β} (r : Paired F l₁ l₂) : Paired G l₁ l₂ := Paired.mapP r f
/-- what an object's description leans on: its own object, its own dict, the tuples -/
theorem ObjOk.stay (x : ObjOk P w H h a o) (k : ∀ b u, (b = a ∨ H b = some (.own a)) → h.get? b = some u → h'.get? b = some u)
    (ho : ∀ b, H b = some (.own a) → H' b = some (.own a)) (ht : ∀ b xs, H b = some (.tup xs) → H' b = some (.tup xs)) : ObjOk P w H' h' a o := by
  induction o with
  | lst xs => obtain ⟨z, its, n, r, e⟩ := x; exact ⟨z, its, n, r, k _ _ (.inl rfl) e⟩
  | tup xs => obtain ⟨z, its, r, ob, e, c⟩ := x; exact ⟨z, its, r, ob, k _ _ (.inl rfl) e, c⟩
  | dK kvs => obtain ⟨z, y, vs, r, ob, es, ep, e, c⟩ := x; exact ⟨z, y, vs, r, ob, es, ep, k _ _ (.inl rfl) e, c⟩
  | dT kvs =>
    obtain ⟨z, y, xs, r, ob, es, ep, e, c⟩ := x
    exact ⟨z, y, xs, Paired.mapP r fun p q z => ⟨z.1, ht _ _ z.2.1, z.2.2⟩, ob, es, ep, k _ _ (.inl rfl) e, c⟩
  | set S n => obtain ⟨ob, es, ep, t, e, c⟩ := x; exact ⟨ob, es, ep, t, k _ _ (.inl rfl) e, c⟩
  | ins C dx fs =>
    obtain ⟨d, z, ne, e, mA, ⟨od, es, ep, e2, c⟩, r⟩ := x
    exact ⟨ho _ d, z, ne, k _ _ (.inl rfl) e, mA, ⟨od, es, ep, k _ _ (.inr d) e2, c⟩, r⟩
  | own y => obtain ⟨ob, e⟩ := x; exact ⟨ob, k _ _ (.inl rfl) e⟩
  | xd fs => obtain ⟨mA, ⟨od, es, ep, e, c⟩, r⟩ := x; exact ⟨mA, ⟨od, es, ep, k _ _ (.inl rfl) e, c⟩, r⟩
  | rng lo hi => obtain ⟨t, u, v, e⟩ := x; exact ⟨t, u, v, k _ _ (.inl rfl) e⟩
  | frz ob u ih => obtain ⟨e, q⟩ := x; exact ⟨k _ _ (.inl rfl) e, ih q⟩
  | tbl ps =>
    have e : h.get? a = some { cls := .none, data := .fields ps } := x
    show h'.get? a = some { cls := .none, data := .fields ps }
    exact k a _ (.inl rfl) e
  | met f y =>
    have e : h.get? a = some (PySem.W.methodObj (.ref f) (.ref y)) := x
    show h'.get? a = some (PySem.W.methodObj (.ref f) (.ref y))
    exact k a _ (.inl rfl) e
  | ext φ => obtain ⟨p, ⟨o, e⟩, st⟩ := x; exact ⟨st _ _ p fun o q => k _ _ (.inl rfl) q, ⟨o, k _ _ (.inl rfl) e⟩, st⟩
theorem HOk.lt (x : HOk P w H h) (e : H a = some o) : a < h.objs.size := (x a o e).lt
theorem HOk.fresh (x : HOk P w H h) (e : h.objs.size ≤ a) : H a = none := by
  cases q : H a with
  | none => rfl
  | some u => exact absurd (Nat.lt_of_lt_of_le (x.lt q) e) (Nat.lt_irrefl _)
/-- every object of the heap is kept -/
theorem HOk.kept (x : HOk P w H h) (k : ∀ b u, h.get? b = some u → h'.get? b = some u) : HOk P w H h' := fun a o e =>
  (x a o e).stay (fun b u _ q => k b u q) (fun _ q => q) fun _ _ q => q
/-- a new object is laid and tracked -/
theorem HOk.laid (x : HOk P w H h) (k : ∀ b u, h.get? b = some u → h'.get? b = some u) (hp : h.objs.size ≤ a) (new : ObjOk P w (upd H a o) h' a o) : HOk P w (upd H a o) h' := fun b u e => by
  have hn := x.fresh hp
  by_cases hb : b = a
  · subst hb; rw [upd_same] at e; cases e; exact new
  · rw [upd_ne hb] at e
    exact (x b u e).stay (fun c v _ q => k c v q) (fun c q => by rw [upd_ne (ne_of_none q hn)]; exact q) fun c xs q => by rw [upd_ne (ne_of_none q hn)]; exact q
end

/-- what may be read as u: it is u, or a known u -/
def Rd (H : Hp) (a : Addr) (u : HO) : Prop := H a = some u ∨ ∃ o, H a = some (.frz o u)
theorem Rd.of {H : Hp} {a : Addr} {u : HO} (h : H a = some u) : Rd H a u := .inl h
theorem Rd.ok {P : Program} {w : World} {H : Hp} {h : Heap} {a : Addr} {u : HO} (r : Rd H a u) (x : HOk P w H h) : ObjOk P w H h a u := by
  rcases r with r | ⟨o, r⟩
  · exact x a u r
  · obtain ⟨_, q⟩ := x a _ r
    exact q
/-- what may be written -/
def Mut : Option HO → Prop
  | some (.lst _) => True
  | some (.dK _) => True
  | some (.dT _) => True
  | some (.set _ _) => True
  | some (.ins _ _ _) => True
  | some (.ext _) => True
  | _ => False
section
variable {P : Program} {w : World} {H : Hp} {h h' : Heap} {x e : Addr} {o' : HO}
/-- the object at e is changed: x itself, or the dict of the instance x -/
theorem HOk.write (ok : HOk P w H h) (mu : Mut (H x)) (he : e = x ∨ H e = some (.own x)) (k : ∀ b u, b ≠ e → h.get? b = some u → h'.get? b = some u) (heo : ∃ u, h'.get? e = some u)
    (new : ObjOk P w (upd H x o') h' x o') : HOk P w (upd H x o') h' := fun b u q => by
  have nown : ∀ c y, H c = some (.own y) → c ≠ x := fun c y r z => by subst z; rw [r] at mu; exact mu
  have ntup : ∀ c xs, H c = some (.tup xs) → c ≠ x := fun c xs r z => by subst z; rw [r] at mu; exact mu
  by_cases hb : b = x
  · subst hb; rw [upd_same] at q; cases q; exact new
  · rw [upd_ne hb] at q
    by_cases hbe : b = e
    · have q' : H b = some (.own x) := by
        rcases he with z | z
        · exact absurd (hbe.trans z) hb
        · rw [hbe]; exact z
      rw [q] at q'; cases q'
      obtain ⟨v, hv⟩ := heo
      exact ⟨v, by rw [hbe]; exact hv⟩
    · refine (ok b u q).stay (fun c v hc r => k c v ?_ r) (fun c r => by rw [upd_ne (nown c b r)]; exact r) fun c xs r => by rw [upd_ne (ntup c xs r)]; exact r
      rcases hc with rfl | hc
      · exact hbe
      · rintro rfl
        rcases he with z | z
        · exact nown c b hc z
        · rw [hc] at z; cases z; exact hb rfl
end

/-! ### kept unless tracked; of the frames at fs (the callers') the slots may change (an exception that passes writes there); of the records at ex (iterators) nothing is said -/
structure Un (fs ex : List Addr) (H H' : Hp) (h h' : Heap) : Prop where
  keep : ∀ b o, h.get? b = some o → H b = none → b ∉ fs → b ∉ ex → h'.get? b = some o
  slot : ∀ b o, h.get? b = some o → H b = none → b ∈ fs → b ∉ ex → ∃ sl, h'.get? b = some { o with slots := sl }
  free : ∀ b o, h.get? b = some o → H b = none → b ∉ ex → H' b = none
  there : ∀ b o, h.get? b = some o → b ∉ ex → ∃ o', h'.get? b = some o'
  tups : ∀ b xs, H b = some (.tup xs) → H' b = some (.tup xs)
  frzs : ∀ b o u, H b = some (.frz o u) → H' b = some (.frz o u)
  tbls : ∀ b ps, H b = some (.tbl ps) → ∃ more, H' b = some (.tbl (ps ++ more))
section
variable {fs fs' ex ex' : List Addr} {H H1 H2 : Hp} {h h1 h2 h' : Heap} {a x e : Addr} {o : HO}
theorem Un.any (u : Un fs ex H H1 h h1) {b : Addr} {ob : Obj} (q : h.get? b = some ob) (n : H b = none) (hx : b ∉ ex) : ∃ sl, h1.get? b = some { ob with slots := sl } := by
  by_cases hb : b ∈ fs
  · exact u.slot b ob q n hb hx
  · exact ⟨ob.slots, u.keep b ob q n hb hx⟩
theorem Un.trans (a : Un fs ex H H1 h h1) (b : Un fs ex H1 H2 h1 h2) : Un fs ex H H2 h h2 where
  keep := fun c ob q n hc hx => b.keep c ob (a.keep c ob q n hc hx) (a.free c ob q n hx) hc hx
  slot := fun c ob q n hc hx => by
    obtain ⟨sl, e1⟩ := a.slot c ob q n hc hx
    obtain ⟨sl', e2⟩ := b.slot c _ e1 (a.free c ob q n hx) hc hx
    exact ⟨sl', e2⟩
  free := fun c ob q n hx => by
    obtain ⟨o', e1⟩ := a.there c ob q hx
    exact b.free c o' e1 (a.free c ob q n hx) hx
  there := fun c ob q hx => by
    obtain ⟨o', e1⟩ := a.there c ob q hx
    exact b.there c o' e1 hx
  tups := fun c xs q => b.tups c xs (a.tups c xs q)
  frzs := fun c ob xs q => b.frzs c ob xs (a.frzs c ob xs q)
  tbls := fun c ps q => by
    obtain ⟨m1, e1⟩ := a.tbls c ps q
    obtain ⟨m2, e2⟩ := b.tbls c _ e1
    exact ⟨m1 ++ m2, by rw [e2, Array.append_assoc]⟩
theorem Un.kept (k : ∀ b u, h.get? b = some u → h'.get? b = some u) : Un fs ex H H h h' :=
  ⟨fun b ob q _ _ _ => k b ob q, fun b ob q _ _ _ => ⟨ob.slots, k b ob q⟩, fun _ _ _ n _ => n, fun b ob q _ => ⟨ob, k b ob q⟩, fun _ _ q => q, fun _ _ _ q => q, fun _ ps q => ⟨#[], by rw [q]; simp⟩⟩
theorem Un.refl : Un fs ex H H h h := Un.kept fun _ _ q => q
theorem Un.laid (k : ∀ b u, h.get? b = some u → h'.get? b = some u) (hp : h.objs.size ≤ a) (hn : H a = none) : Un fs ex H (upd H a o) h h' where
  keep := fun b u q _ _ _ => k b u q
  slot := fun b u q _ _ _ => ⟨u.slots, k b u q⟩
  free := fun b u q n _ => by rw [upd_ne (Nat.ne_of_lt (Nat.lt_of_lt_of_le (Heap.lt_size q) hp))]; exact n
  there := fun b u q _ => ⟨u, k b u q⟩
  tups := fun b xs q => by rw [upd_ne (ne_of_none q hn)]; exact q
  frzs := fun b u xs q => by rw [upd_ne (ne_of_none q hn)]; exact q
  tbls := fun b ps q => ⟨#[], by rw [upd_ne (ne_of_none q hn), q]; simp⟩
theorem Un.write (mu : Mut (H x)) (he : e = x ∨ H e = some (.own x)) (k : ∀ b u, b ≠ e → h.get? b = some u → h'.get? b = some u) (heo : ∃ u, h'.get? e = some u) : Un fs ex H (upd H x o) h h' := by
  have hx : ∀ b, H b = none → b ≠ x := fun b n z => by subst z; rw [n] at mu; exact mu
  have hb : ∀ b, H b = none → b ≠ e := fun b n z => by
    subst z
    rcases he with r | r
    · exact hx b n r
    · rw [n] at r; cases r
  have hm : ∀ b u, H b = some u → ¬ Mut (some u) → b ≠ x := fun b u q nm z => by subst z; rw [q] at mu; exact nm mu
  refine ⟨fun b u q n _ _ => k b u (hb b n) q, fun b u q n _ _ => ⟨u.slots, k b u (hb b n) q⟩, fun b u q n _ => by rw [upd_ne (hx b n)]; exact n, fun b u q _ => ?_,
    fun b xs q => by rw [upd_ne (hm b _ q fun z => z)]; exact q, fun b u xs q => by rw [upd_ne (hm b _ q fun z => z)]; exact q, fun b ps q => ⟨#[], by rw [upd_ne (hm b _ q fun z => z), q]; simp⟩⟩
  by_cases hbe : b = e
  · subst hbe; exact heo
  · exact ⟨u, k b u hbe q⟩
theorem Un.mono (u : Un fs ex H H1 h h1) (hs : ∀ b ∈ fs, b ∈ fs') (hx : ∀ b ∈ ex, b ∈ ex') : Un fs' ex' H H1 h h1 :=
  ⟨fun b ob q n hb he => u.keep b ob q n (fun z => hb (hs b z)) fun z => he (hx b z), fun _ _ q n _ he => u.any q n fun z => he (hx _ z), fun b ob q n he => u.free b ob q n fun z => he (hx b z), fun b ob q he => u.there b ob q fun z => he (hx b z), u.tups, u.frzs, u.tbls⟩
end

/-! ### the heap without what is tracked -/
def trk (h : Heap) (H : Hp) : List Addr := (List.range h.objs.size).filter fun a => (H a).isSome
def hidT (h : Heap) (H : Hp) : Heap := PySem.W.hideAll h (trk h H)
theorem hidT_size (h : Heap) (H : Hp) : (hidT h H).objs.size = h.objs.size := PySem.W.hideAll_size _ _
theorem hidT_get {h : Heap} {H : Hp} {b : Addr} {o : Obj} (e : h.get? b = some o) (n : H b = none) : (hidT h H).get? b = some o :=
  PySem.W.hideAll_get _ e fun hm => by
    have q : (H b).isSome = true := (List.mem_filter.mp hm).2
    rw [n] at q; simp at q
theorem of_hidT {h : Heap} {H : Hp} {b : Addr} {o : Obj} (e : (hidT h H).get? b = some o) : h.get? b = some o ∧ H b = none := by
  have e' : h.get? b = some o := PySem.W.of_hideAll (trk h H) e
  refine ⟨e', ?_⟩
  cases q : H b with
  | none => rfl
  | some x =>
    have hm : b ∈ trk h H := List.mem_filter.mpr ⟨List.mem_range.mpr (Heap.lt_size e'), by simp [q]⟩
    have z : (hidT h H).get? b = none := PySem.W.hideAll_none (trk h H) hm
    rw [z] at e; cases e

/-! ### OpenK's ledger, filled with every new object but one -/
def allNews (g h : Heap) (L : Addr) : List (Addr × Obj) := (List.range h.objs.size).filterMap fun a => if a = L ∨ (g.get? a).isSome = true then none else (h.get? a).map fun o => (a, o)
theorem mem_allNews {g h : Heap} {L a : Addr} {o : Obj} (h1 : a ≠ L) (h2 : g.get? a = none) (h3 : h.get? a = some o) : (a, o) ∈ allNews g h L :=
  List.mem_filterMap.mpr ⟨a, List.mem_range.mpr (Heap.lt_size h3), by simp [h1, h2, h3]⟩
theorem of_mem_allNews {g h : Heap} {L : Addr} {p : Addr × Obj} (hp : p ∈ allNews g h L) : p.1 ≠ L ∧ g.get? p.1 = none ∧ h.get? p.1 = some p.2 := by
  obtain ⟨b, _, e⟩ := List.mem_filterMap.mp hp
  split at e
  · cases e
  · rename_i hn
    cases q : h.get? b with
    | none => rw [q] at e; simp at e
    | some u =>
      rw [q] at e
      simp only [Option.map_some, Option.some.injEq] at e
      subst e
      refine ⟨fun z => hn (.inl z), ?_, q⟩
      show g.get? b = none
      cases r : g.get? b with
      | none => rfl
      | some v => exact (hn (.inr (by simp [r]))).elim
def rest (g h : Heap) (L d : Addr) : List (Addr × Obj) := (allNews g h L).filter fun p => decide (p.1 ≠ d)
theorem rest_ne {g h : Heap} {L d : Addr} : ∀ p ∈ rest g h L d, p.1 ≠ d := fun p hp => of_decide_eq_true (List.mem_filter.mp hp).2
theorem mem_rest {g h : Heap} {L d a : Addr} {o : Obj} (h1 : a ≠ L) (h2 : g.get? a = none) (h3 : h.get? a = some o) (h4 : a ≠ d) : (a, o) ∈ rest g h L d :=
  List.mem_filter.mpr ⟨mem_allNews h1 h2 h3, decide_eq_true h4⟩
theorem news_all {g h : Heap} {L : Addr} : News g L h (allNews g h L) := fun p hp => let ⟨a, b, c⟩ := of_mem_allNews hp; ⟨c, a, b⟩
theorem news_at {g h : Heap} {L d : Addr} {o : Obj} (h1 : d ≠ L) (h2 : g.get? d = none) (h3 : h.get? d = some o) : News g L h ((d, o) :: rest g h L d) := fun p hp => by
  rcases List.mem_cons.mp hp with rfl | hp
  · exact ⟨h3, h1, h2⟩
  · exact news_all p (List.mem_filter.mp hp).1
/-- behind a rule that changed d alone: all else but the frame is kept -/
theorem kept_of_news {g h h' : Heap} {L d : Addr} {m : Str → Option Value} (k : ∀ b o, g.get? b = some o → h.get? b = some o) (F : Fr g L h' m) (N : News g L h' (rest g h L d)) :
    ∀ b o, b ≠ L → b ≠ d → h.get? b = some o → h'.get? b = some o := fun b o h1 h2 e => by
  cases q : g.get? b with
  | some u =>
    have := k b u q
    rw [e] at this; cases this
    exact F.keep b _ q
  | none => exact (N (b, o) (mem_rest h1 q e h2)).1
end L2

namespace L2
open PySem PySem.Spec PyProof.Rows

/-- the module's facts, over the base: the heap at the law's entry without what is tracked there -/
structure Mod (K : PySem.W.Frag) (mg : Str → Option Value) (base : Heap) : Prop where
  kin : K.In base
  glob : base.Ns mainGlobals mg
  blt : ∃ mb, base.Ns builtinsNs mb ∧ ∀ x : Str, x ≠ "__name__" → mb x = bootBuiltins x
  nolimit : base.NoLimit

/-- the context: a def's body (or a comprehension's block) running. base: fixed through the whole law; s₀, H₀: the entry; outer: the frames whose slots others may change (a def's callers); stack: all frames that run;
   ex: iterators that were made ahead of the entry and are walked here (a comprehension's); fn: the names whose cells were made at the entry (a def: all; a comprehension's block: its own); calm: not within an except suite; pn: pins that every state bears; xe: what is wanted of an exception that leaves the code -/
structure Cx where
  prog : Program
  w : World
  K : PySem.W.Frag
  mg : Str → Option Value
  base : Heap
  A : Around
  N : List Str
  s₀ : Shared
  H₀ : Hp
  env : Env
  outer : List Env
  stack : List Env
  ex : List Addr
  fn : Str → Bool
  calm : Bool
  pn : List (Addr × Obj)
  xe : Value → Shared → Prop
/-- the callers' frames -/
def frs (l : List Env) : List Addr := l.filterMap (·.frame)
abbrev Cx.fs (X : Cx) : List Addr := frs X.outer

def Vis (sc : Scope) (x : Str) : Prop := sc.names.lookup x = some .local ∨ sc.names.lookup x = some .cell ∨ sc.names.lookup x = some .free
def Loc (sc : Scope) (x : Str) : Prop := sc.names.lookup x = some .local ∨ sc.names.lookup x = some .cell
def Look (env : Env) (h : Heap) (m : Str → Option Value) (x : Str) (u : Value) : Prop :=
  (env.kindOf x = some .local ∧ m x = some u) ∨ ((env.kindOf x = some .cell ∨ env.kindOf x = some .free) ∧ ∃ c, env.cells.lookup x = some c ∧ h.IsCell c (some u))

structure Cx.Ok (X : Cx) : Prop where
  mod : Mod X.K X.mg X.base
  kind : X.env.scope.kind = .function
  glob : X.env.globals = mainGlobals
  blt : X.env.builtins = builtinsNs
  above : X.s₀.heap.objs.size ≤ X.env.locals
  inj : ∀ x y c, X.env.cells.lookup x = some c → X.env.cells.lookup y = some c → x = y
  has : ∀ x, (X.env.kindOf x = some .cell ∨ X.env.kindOf x = some .free) → ∃ c, X.env.cells.lookup x = some c
  cab : ∀ x c, X.fn x = true → X.env.cells.lookup x = some c → X.s₀.heap.objs.size ≤ c
  hd : X.calm = true → X.A.handled = none
  frames : X.A.frames = some X.stack
  stk : X.stack = X.outer ∨ (X.stack = X.env :: X.outer ∧ X.env.frame = some X.env.locals)
  exf : ∀ b ∈ X.ex, b ≠ X.env.locals ∧ ∀ x c, X.env.cells.lookup x = some c → c ≠ b
  bs : ∀ b o, X.base.get? b = some o → X.s₀.heap.get? b = some o ∧ X.H₀ b = none
  bsz : X.base.objs.size ≤ X.s₀.heap.objs.size
  noex : ∀ b o, X.base.get? b = some o → b ∉ X.ex
  exfs : ∀ b ∈ X.ex, b ∉ X.fs
  funs : X.s₀.heap.FunFrames X.base X.outer
  frf : ∀ b ∈ X.fs, X.H₀ b = none

structure Inv (X : Cx) (pins : List (Addr × Obj)) (σ : List (Option V)) (H : Hp) (s : Shared) : Prop where
  ok : X.Ok
  os : s.os = X.s₀.os
  bare : AllBare s.gens
  base : Un X.fs X.ex X.H₀ H X.s₀.heap s.heap
  loc : ∃ m, s.heap.Ns X.env.locals m ∧ ∀ (i : Nat) (x : Str) (v : V), X.N[i]? = some x → σ[i]? = some (some v) → Vis X.env.scope x → ∃ u, RelV v u ∧ Look X.env s.heap m x u
  cell : ∀ x c, X.env.cells.lookup x = some c → ∃ v, s.heap.IsCell c v
  free : H X.env.locals = none
  freeC : ∀ x c, X.env.cells.lookup x = some c → H c = none
  pin : ∀ p ∈ X.pn ++ pins, s.heap.get? p.1 = some p.2 ∧ H p.1 = none ∧ p.1 ≠ X.env.locals ∧ p.1 ∉ X.fs ∧ ∀ v, p.2.data ≠ .cell v
  hok : HOk X.prog X.w H s.heap
  len : σ.length = X.N.length

section
variable {X : Cx} {pins : List (Addr × Obj)} {σ : List (Option V)} {H H' : Hp} {s : Shared} {h' : Heap}

theorem Cx.Ok.nofr (ok : X.Ok) {b : Addr} {o : Obj} (e : X.base.get? b = some o) : b ∉ X.fs := fun hb => by
  have := (ok.funs.mem hb).1
  rw [e] at this; cases this
theorem Inv.bs (I : Inv X pins σ H s) : ∀ b o, X.base.get? b = some o → s.heap.get? b = some o ∧ H b = none := fun b o e =>
  ⟨I.base.keep b o (I.ok.bs b o e).1 (I.ok.bs b o e).2 (I.ok.nofr e) (I.ok.noex b o e), I.base.free b o (I.ok.bs b o e).1 (I.ok.bs b o e).2 (I.ok.noex b o e)⟩
theorem Inv.bk (I : Inv X pins σ H s) : ∀ b o, X.base.get? b = some o → s.heap.get? b = some o := fun b o e => (I.bs b o e).1
theorem Inv.mod (I : Inv X pins σ H s) : Mod X.K X.mg X.base := I.ok.mod
theorem Inv.kIn (I : Inv X pins σ H s) : X.K.In s.heap := I.ok.mod.kin.keeps I.bk
theorem Inv.nolimit (I : Inv X pins σ H s) : s.heap.NoLimit := I.ok.mod.nolimit.keeps I.bk
/-- the frame over the base: for OpenK's rules (K.In X.base is I.mod.kin) -/
theorem Inv.fr (I : Inv X pins σ H s) : ∃ m, Fr X.base X.env.locals s.heap m :=
  let ⟨m, hn, _⟩ := I.loc
  ⟨m, hn, I.bk, Nat.le_trans I.ok.bsz I.ok.above⟩
theorem Inv.lt (I : Inv X pins σ H s) : X.env.locals < s.heap.objs.size := let ⟨_, hn, _⟩ := I.loc; hn.lt
theorem Inv.sz (I : Inv X pins σ H s) : X.s₀.heap.objs.size ≤ s.heap.objs.size := Nat.le_trans I.ok.above (Nat.le_of_lt I.lt)
theorem Inv.nofs (I : Inv X pins σ H s) {a : Addr} (h : s.heap.objs.size ≤ a) : a ∉ X.fs := fun hb => by
  obtain ⟨_, o, ho, _⟩ := I.ok.funs.mem hb
  exact absurd (Nat.lt_of_lt_of_le (Heap.lt_size ho) (Nat.le_trans I.sz h)) (Nat.lt_irrefl _)
theorem Inv.cne (I : Inv X pins σ H s) : ∀ x c, X.env.cells.lookup x = some c → c ≠ X.env.locals := fun x c e z => by
  obtain ⟨v, o, ho, hd⟩ := I.cell x c e
  obtain ⟨m, ⟨o', es, ep, ho', hd', _⟩, _⟩ := I.loc
  rw [z, ho'] at ho; cases ho; rw [hd'] at hd; cases hd
theorem Inv.funs (I : Inv X pins σ H s) : s.heap.FunFrames X.base X.outer := by
  have all : ∀ (l : List Env), (∀ b ∈ frs l, b ∈ X.fs) → X.s₀.heap.FunFrames X.base l → s.heap.FunFrames X.base l := by
    intro l
    induction l with
    | nil => intro _ _; trivial
    | cons env r ih =>
      intro hs hl
      obtain ⟨hk, ⟨L, o, hf, hn, ho, hd⟩, hr⟩ := hl
      have hL : L ∈ X.fs := hs L (by unfold frs; rw [List.filterMap_cons, hf]; exact List.mem_cons_self)
      obtain ⟨sl, e⟩ := I.base.slot L o ho (I.ok.frf L hL) hL fun z => I.ok.exfs L z hL
      exact ⟨hk, ⟨L, _, hf, hn, e, hd⟩, ih (fun b hb => hs b (by unfold frs; rw [List.filterMap_cons, hf]; exact List.mem_cons_of_mem _ hb)) hr⟩
  exact all X.outer (fun _ hb => hb) I.ok.funs

/-- the frames that run, for a call -/
theorem Inv.stack (I : Inv X pins σ H s) : s.heap.FunFrames X.base X.stack := by
  rcases I.ok.stk with e | ⟨e, hf⟩
  · rw [e]; exact I.funs
  · rw [e]
    obtain ⟨m, hn, _⟩ := I.loc
    refine .cons (by rw [I.ok.kind]; decide) hf hn ?_ I.funs
    exact Heap.get?_none_of_le (Nat.le_trans I.ok.bsz I.ok.above)
theorem Inv.stkSub (I : Inv X pins σ H s) : ∀ b ∈ frs X.stack, b ∈ X.env.locals :: X.fs := fun b hb => by
  rcases I.ok.stk with e | ⟨e, hf⟩
  · rw [e] at hb; exact List.mem_cons_of_mem _ hb
  · rw [e] at hb
    unfold frs at hb
    rw [List.filterMap_cons, hf] at hb
    exact hb
theorem Inv.stkFree (I : Inv X pins σ H s) : ∀ b ∈ frs X.stack, H b = none := fun b hb => by
  rcases List.mem_cons.mp (I.stkSub b hb) with e | hb
  · rw [e]; exact I.free
  · obtain ⟨_, o, ho, _⟩ := I.ok.funs.mem hb
    exact I.base.free b o ho (I.ok.frf b hb) fun z => I.ok.exfs b z hb

/-- THE STEP: the untracked objects but the frame and the records at ch are kept (the callers' frames up to slots), the frame's map is kept, the new abstract heap is held -/
theorem Inv.step {g' : Array GenState} {t' : Nat} {d' : Drawn} {ch : List Addr} (I : Inv X pins σ H s)
    (hch : ∀ b ∈ ch, (b ∈ X.ex ∨ X.s₀.heap.objs.size ≤ b) ∧ b ≠ X.env.locals ∧ (∀ x c, X.env.cells.lookup x = some c → c ≠ b) ∧ ∀ p ∈ X.pn ++ pins, p.1 ≠ b)
    (keep : ∀ b o, b ≠ X.env.locals → b ∉ X.fs → b ∉ ch → s.heap.get? b = some o → H b = none → h'.get? b = some o)
    (slot : ∀ b o, b ≠ X.env.locals → b ∈ X.fs → b ∉ ch → s.heap.get? b = some o → H b = none → ∃ sl, h'.get? b = some { o with slots := sl }) (free : ∀ b o, b ∉ ch → s.heap.get? b = some o → H b = none → H' b = none)
    (there : ∀ b o, b ∉ ch → s.heap.get? b = some o → ∃ o', h'.get? b = some o')
    (tups : ∀ b xs, H b = some (.tup xs) → H' b = some (.tup xs)) (frzs : ∀ b o u, H b = some (.frz o u) → H' b = some (.frz o u)) (tbls : ∀ b ps, H b = some (.tbl ps) → ∃ more, H' b = some (.tbl (ps ++ more)))
    (ns : ∀ m, s.heap.Ns X.env.locals m → h'.Ns X.env.locals m) (hok : HOk X.prog X.w H' h') (hg : AllBare g') :
    Inv X pins σ H' { s with heap := h', gens := g', drawn := d', toks := t' } := by
  have neL : ∀ b o, X.s₀.heap.get? b = some o → b ≠ X.env.locals := fun b o e => Nat.ne_of_lt (Nat.lt_of_lt_of_le (Heap.lt_size e) I.ok.above)
  have neC : ∀ b o, X.s₀.heap.get? b = some o → b ∉ X.ex → b ∉ ch := fun b o e hx hb => by
    rcases (hch b hb).1 with z | z
    · exact hx z
    · exact absurd (Nat.lt_of_lt_of_le (Heap.lt_size e) z) (Nat.lt_irrefl _)
  have cellK : ∀ x c, X.env.cells.lookup x = some c → ∀ v, s.heap.IsCell c v → h'.IsCell c v := fun x c e v ⟨o, ho, hd⟩ => by
    have nch : c ∉ ch := fun z => (hch c z).2.2.1 x c e rfl
    by_cases hc : c ∈ X.fs
    · obtain ⟨sl, q⟩ := slot c o (I.cne x c e) hc nch ho (I.freeC x c e)
      exact ⟨_, q, hd⟩
    · exact ⟨o, keep c o (I.cne x c e) hc nch ho (I.freeC x c e), hd⟩
  refine ⟨I.ok, I.os, hg, ⟨fun b o e n hb hx => ?_, fun b o e n hb hx => ?_, fun b o e n hx => ?_, fun b o e hx => ?_, fun b xs e => tups b xs (I.base.tups b xs e), fun b o xs e => frzs b o xs (I.base.frzs b o xs e), fun b ps e => ?_⟩, ?_, fun x c e => ?_, ?_, fun x c e => ?_, fun p hp => ?_, hok, I.len⟩
  · exact keep b o (neL b o e) hb (neC b o e hx) (I.base.keep b o e n hb hx) (I.base.free b o e n hx)
  · obtain ⟨sl, e1⟩ := I.base.slot b o e n hb hx
    obtain ⟨sl', e2⟩ := slot b _ (neL b o e) hb (neC b o e hx) e1 (I.base.free b o e n hx)
    exact ⟨sl', e2⟩
  · obtain ⟨o', e1⟩ := I.base.there b o e hx
    exact free b o' (neC b o e hx) e1 (I.base.free b o e n hx)
  · obtain ⟨o', e1⟩ := I.base.there b o e hx
    exact there b o' (neC b o e hx) e1
  · obtain ⟨m1, e1⟩ := I.base.tbls b ps e
    obtain ⟨m2, e2⟩ := tbls b _ e1
    exact ⟨m1 ++ m2, by rw [e2, Array.append_assoc]⟩
  · obtain ⟨m, hn, hl⟩ := I.loc
    refine ⟨m, ns m hn, fun i x v e1 e2 e3 => ?_⟩
    obtain ⟨u, r, l⟩ := hl i x v e1 e2 e3
    refine ⟨u, r, ?_⟩
    rcases l with l | ⟨k, c, e, z⟩
    · exact .inl l
    · exact .inr ⟨k, c, e, cellK x c e _ z⟩
  · obtain ⟨v, z⟩ := I.cell x c e
    exact ⟨v, cellK x c e v z⟩
  · obtain ⟨m, ⟨o, _, _, ho, _⟩, _⟩ := I.loc
    exact free _ o (fun z => (hch _ z).2.1 rfl) ho I.free
  · obtain ⟨v, o, ho, hd⟩ := I.cell x c e
    exact free c o (fun z => (hch c z).2.2.1 x c e rfl) ho (I.freeC x c e)
  · obtain ⟨e, n, ne, nf, d⟩ := I.pin p hp
    have nch : p.1 ∉ ch := fun z => (hch p.1 z).2.2.2 p hp rfl
    exact ⟨keep p.1 p.2 ne nf nch e n, free p.1 p.2 nch e n, ne, nf, d⟩
/-- .. where the frame's own object is kept too -/
theorem Inv.un {t' : Nat} (I : Inv X pins σ H s) (u : Un X.fs [] H H' s.heap h') (hok : HOk X.prog X.w H' h') : Inv X pins σ H' { s with heap := h', toks := t' } := by
  obtain ⟨m, ⟨o, es, ep, ho, r⟩, _⟩ := id I.loc
  obtain ⟨sl, hL⟩ := u.any ho I.free (by simp)
  exact I.step (g' := s.gens) (d' := s.drawn) (ch := []) (fun _ z => nomatch z) (fun b o _ hb _ e n => u.keep b o e n hb (by simp)) (fun b o _ hb _ e n => u.slot b o e n hb (by simp)) (fun b o _ e n => u.free b o e n (by simp)) (fun b o _ e => u.there b o e (by simp)) u.tups u.frzs u.tbls (fun m' hm => by
    obtain ⟨o', es', ep', ho', r'⟩ := hm
    rw [ho] at ho'; cases ho'
    exact ⟨_, es', ep', hL, r'⟩) hok I.bare
/-- behind a call (or a comprehension's block): the slots of this frame may have changed too, the records at ch may have turned -/
theorem Inv.call {g' : Array GenState} {t' : Nat} {d' : Drawn} {ch : List Addr} (I : Inv X pins σ H s) (u : Un (frs X.stack) ch H H' s.heap h') (hok : HOk X.prog X.w H' h') (hg : AllBare g')
    (hch : ∀ b ∈ ch, (b ∈ X.ex ∨ X.s₀.heap.objs.size ≤ b) ∧ b ≠ X.env.locals ∧ (∀ x c, X.env.cells.lookup x = some c → c ≠ b) ∧ ∀ p ∈ X.pn ++ pins, p.1 ≠ b) :
    Inv X pins σ H' { s with heap := h', gens := g', drawn := d', toks := t' } := by
  obtain ⟨m, ⟨o, es, ep, ho, r⟩, _⟩ := id I.loc
  obtain ⟨sl, hL⟩ := u.any ho I.free fun z => (hch _ z).2.1 rfl
  exact I.step (ch := ch) hch (fun b o hL hb hc e n => u.keep b o e n (fun z => (List.mem_cons.mp (I.stkSub b z)).elim hL hb) hc) (fun b o _ _ hc e n => u.any e n hc) (fun b o hc e n => u.free b o e n hc) (fun b o hc e => u.there b o e hc) u.tups u.frzs u.tbls (fun m' hm => by
    obtain ⟨o', es', ep', ho', r'⟩ := hm
    rw [ho] at ho'; cases ho'
    exact ⟨_, es', ep', hL, r'⟩) hok hg
/-- an untracked record of ours (an iterator) has turned -/
theorem Inv.turned {t' : Nat} {it : Addr} (I : Inv X pins σ H s) (k : ∀ b o, b ≠ it → s.heap.get? b = some o → h'.get? b = some o) (hn : H it = none) (hL : it ≠ X.env.locals)
    (h1 : it ∈ X.ex ∨ X.s₀.heap.objs.size ≤ it) (h2 : ∀ x c, X.env.cells.lookup x = some c → c ≠ it) (h3 : ∀ p ∈ X.pn ++ pins, p.1 ≠ it) : Inv X pins σ H { s with heap := h', toks := t' } := by
  have nit : ∀ b u, H b = some u → b ≠ it := fun b u e z => by rw [z, hn] at e; cases e
  refine I.step (g' := s.gens) (d' := s.drawn) (ch := [it]) (fun b hb => ?_) (fun b o _ _ hc e _ => k b o (fun z => hc (by simp [z])) e) (fun b o _ _ hc e _ => ⟨o.slots, k b o (fun z => hc (by simp [z])) e⟩) (fun _ _ _ _ n => n)
    (fun b o hc e => ⟨o, k b o (fun z => hc (by simp [z])) e⟩) (fun _ _ e => e) (fun _ _ _ e => e) (fun b ps e => ⟨#[], by rw [e]; simp⟩) (fun m hm => ?_) (fun b u e => ?_) I.bare
  · have e : b = it := by simpa using hb
    subst e
    exact ⟨h1, hL, h2, h3⟩
  · obtain ⟨o, es, ep, ho, r⟩ := hm
    exact ⟨o, es, ep, k _ o (Ne.symm hL) ho, r⟩
  · refine (I.hok b u e).stay (fun c v hc q => k c v ?_ q) (fun _ q => q) fun _ _ q => q
    rcases hc with z | z
    · rw [z]; exact nit b u e
    · exact nit c _ z
theorem Inv.tok (I : Inv X pins σ H s) (t : Nat) : Inv X pins σ H { s with toks := t } := I.un (h' := s.heap) (t' := t) Un.refl I.hok
/-- all objects kept -/
theorem Inv.kept {t' : Nat} (I : Inv X pins σ H s) (k : ∀ b u, s.heap.get? b = some u → h'.get? b = some u) : Inv X pins σ H { s with heap := h', toks := t' } := I.un (Un.kept k) (I.hok.kept k)
/-- a new object laid and tracked -/
theorem Inv.laid {a : Addr} {o : HO} {t' : Nat} (I : Inv X pins σ H s) (k : ∀ b u, s.heap.get? b = some u → h'.get? b = some u) (hp : s.heap.objs.size ≤ a) (new : ObjOk X.prog X.w (upd H a o) h' a o) :
    Inv X pins σ (upd H a o) { s with heap := h', toks := t' } := I.un (Un.laid k hp (I.hok.fresh hp)) (I.hok.laid k hp new)
/-- an object written -/
theorem Inv.write {x e : Addr} {o : HO} {t' : Nat} (I : Inv X pins σ H s) (mu : Mut (H x)) (he : e = x ∨ H e = some (.own x)) (k : ∀ b u, b ≠ e → s.heap.get? b = some u → h'.get? b = some u) (heo : ∃ u, h'.get? e = some u)
    (new : ObjOk X.prog X.w (upd H x o) h' x o) : Inv X pins σ (upd H x o) { s with heap := h', toks := t' } := I.un (Un.write mu he k heo) (I.hok.write mu he k heo new)
/-- forgetting slots, pins -/
theorem Inv.weak {σ' : List (Option V)} (I : Inv X pins σ H s) (hl : σ'.length = σ.length) (w : ∀ (i : Nat) v, σ'[i]? = some (some v) → σ[i]? = some (some v)) : Inv X pins σ' H s :=
  ⟨I.ok, I.os, I.bare, I.base, let ⟨m, hn, hl'⟩ := I.loc; ⟨m, hn, fun i x v e1 e2 e3 => hl' i x v e1 (w i v e2) e3⟩, I.cell, I.free, I.freeC, I.pin, I.hok, hl.trans I.len⟩
theorem Inv.pins_of {pins' : List (Addr × Obj)} (I : Inv X pins σ H s) (h : ∀ p ∈ pins', s.heap.get? p.1 = some p.2 ∧ H p.1 = none ∧ p.1 ≠ X.env.locals ∧ p.1 ∉ X.fs ∧ ∀ v, p.2.data ≠ .cell v) : Inv X pins' σ H s :=
  ⟨I.ok, I.os, I.bare, I.base, I.loc, I.cell, I.free, I.freeC, fun p hp => (List.mem_append.mp hp).elim (fun z => I.pin p (List.mem_append_left _ z)) (h p), I.hok, I.len⟩

theorem nodup_ix {N : List Str} (hN : N.Nodup) {i j : Nat} {x : Str} (a : N[i]? = some x) (b : N[j]? = some x) : i = j := by
  obtain ⟨h1, e1⟩ := List.getElem?_eq_some_iff.mp a
  obtain ⟨h2, e2⟩ := List.getElem?_eq_some_iff.mp b
  exact (List.getElem_inj hN).mp (e1.trans e2.symm)

/-- a name is stored; what changed -/
theorem store_ok2 {M : Model} {A : Around} {E : Value → Shared → Prop} {i : Nat} {x : Str} {v : V} {u : Value} {Q : Unit → Shared → Prop} (I : Inv X pins σ H s) (hN : X.N.Nodup) (hi : X.N[i]? = some x) (hx : Loc X.env.scope x) (r : RelV v u)
    (h : ∀ s', Inv X pins (σ.set i (some v)) H s' → (∃ a, Heap.SameBut a s.heap s'.heap ∧ (a = X.env.locals ∨ X.env.cells.lookup x = some a)) → Q () s') (hf : X.fn x = true ∨ X.env.scope.names.lookup x = some .local := by first | exact .inl rfl | exact .inr rfl | assumption) : wpAny M A (storeName X.env x u) Q E s := by
  obtain ⟨m, hn, hl⟩ := id I.loc
  have hcls : (X.env.scope.kind == .class || (X.env.scope.kind == .module && X.env.locals != X.env.globals)) = false := by rw [I.ok.kind]; rfl
  have hiσ : i < σ.length := by rw [I.len]; exact (List.getElem?_eq_some_iff.mp hi).1
  have cne := I.cne
  have tracked : ∀ {a : Addr} {h' : Heap}, (∃ o, s.heap.get? a = some o ∧ H a = none) → Heap.SameBut a s.heap h' → HOk X.prog X.w H h' := fun {a h'} ha hs b ob e => by
    obtain ⟨_, _, hfree⟩ := ha
    refine (I.hok b ob e).stay (fun c w' hc q => (hs.2 c ?_).trans q) (fun _ q => q) fun _ _ q => q
    rintro rfl
    rcases hc with rfl | hc
    · rw [hfree] at e; cases e
    · rw [hfree] at hc; cases hc
  rcases hx with hk | hk
  · refine wpAny_storeName_local hk hn (fun h' hn' hs => ?_) hcls
    obtain ⟨oL, _, _, hoL, _⟩ := id hn
    refine h _ ⟨I.ok, I.os, I.bare, ⟨fun b o e n hb hx => ?_, fun b o e n hb hx => ?_, I.base.free, fun b o e hx => ?_, I.base.tups, I.base.frzs, I.base.tbls⟩, ⟨_, hn', fun j y v' e1 e2 e3 => ?_⟩, fun y c e => ?_, I.free, I.freeC, fun p hp => ?_, tracked ⟨oL, hoL, I.free⟩ hs, by simpa using I.len⟩ ⟨_, hs, .inl rfl⟩
    · exact (hs.2 b (Nat.ne_of_lt (Nat.lt_of_lt_of_le (Heap.lt_size e) I.ok.above))).trans (I.base.keep b o e n hb hx)
    · obtain ⟨sl, e1⟩ := I.base.slot b o e n hb hx
      exact ⟨sl, (hs.2 b (Nat.ne_of_lt (Nat.lt_of_lt_of_le (Heap.lt_size e) I.ok.above))).trans e1⟩
    · obtain ⟨o', e1⟩ := I.base.there b o e hx
      exact ⟨o', (hs.2 b (Nat.ne_of_lt (Nat.lt_of_lt_of_le (Heap.lt_size e) I.ok.above))).trans e1⟩
    · by_cases hj : j = i
      · subst hj
        rw [hi] at e1; cases e1
        rw [List.getElem?_set_self hiσ] at e2
        cases e2
        exact ⟨u, r, .inl ⟨hk, by simp⟩⟩
      · rw [List.getElem?_set_ne (Ne.symm hj)] at e2
        obtain ⟨u', r', q⟩ := hl j y v' e1 e2 e3
        refine ⟨u', r', ?_⟩
        rcases q with ⟨k, e⟩ | ⟨k, c, e, z⟩
        · refine .inl ⟨k, ?_⟩
          have : y ≠ x := fun e => hj (nodup_ix hN e1 (e ▸ hi))
          simp [this, e]
        · exact .inr ⟨k, c, e, z.sameBut hs (cne y c e)⟩
    · obtain ⟨w', z⟩ := I.cell y c e
      exact ⟨w', z.sameBut hs (cne y c e)⟩
    · obtain ⟨e, n, ne, nf, d⟩ := I.pin p hp
      exact ⟨(hs.2 p.1 ne).trans e, n, ne, nf, d⟩
  · have hfn : X.fn x = true := by
      rcases hf with z | z
      · exact z
      · rw [z] at hk; cases hk
    obtain ⟨c, hc⟩ := I.ok.has x (.inl hk)
    obtain ⟨w', z⟩ := I.cell x c hc
    refine wpAny_storeName_cell I.ok.kind hk hc z (fun h' hc' hs => ?_)
    obtain ⟨oc, hoc, hocd⟩ := id z
    refine h { s with heap := h' } ⟨I.ok, I.os, I.bare, ⟨fun b o e n hb hx => ?_, fun b o e n hb hx => ?_, I.base.free, fun b o e hx => ?_, I.base.tups, I.base.frzs, I.base.tbls⟩, ⟨m, hn.sameBut hs (Ne.symm (cne x c hc)), fun j y v' e1 e2 e3 => ?_⟩, fun y c' e => ?_, I.free, I.freeC, fun p hp => ?_, tracked ⟨oc, hoc, I.freeC x c hc⟩ hs, by simpa using I.len⟩ ⟨c, hs, .inr hc⟩
    · exact (hs.2 b (Nat.ne_of_lt (Nat.lt_of_lt_of_le (Heap.lt_size e) (I.ok.cab x c hfn hc)))).trans (I.base.keep b o e n hb hx)
    · obtain ⟨sl, e1⟩ := I.base.slot b o e n hb hx
      exact ⟨sl, (hs.2 b (Nat.ne_of_lt (Nat.lt_of_lt_of_le (Heap.lt_size e) (I.ok.cab x c hfn hc)))).trans e1⟩
    · obtain ⟨o', e1⟩ := I.base.there b o e hx
      exact ⟨o', (hs.2 b (Nat.ne_of_lt (Nat.lt_of_lt_of_le (Heap.lt_size e) (I.ok.cab x c hfn hc)))).trans e1⟩
    · by_cases hj : j = i
      · subst hj
        rw [hi] at e1; cases e1
        rw [List.getElem?_set_self hiσ] at e2
        cases e2
        exact ⟨u, r, .inr ⟨.inl hk, c, hc, hc'⟩⟩
      · rw [List.getElem?_set_ne (Ne.symm hj)] at e2
        obtain ⟨u', r', q⟩ := hl j y v' e1 e2 e3
        refine ⟨u', r', ?_⟩
        rcases q with q | ⟨k, c', e, z'⟩
        · exact .inl q
        · refine .inr ⟨k, c', e, z'.sameBut hs ?_⟩
          rintro rfl
          exact hj (nodup_ix hN e1 (I.ok.inj _ _ _ e hc ▸ hi))
    · by_cases hcc : c' = c
      · subst hcc; exact ⟨_, hc'⟩
      · obtain ⟨w2, z2⟩ := I.cell y c' e
        exact ⟨w2, z2.sameBut hs hcc⟩
    · obtain ⟨e, n, ne, nf, d⟩ := I.pin p hp
      refine ⟨(hs.2 p.1 ?_).trans e, n, ne, nf, d⟩
      intro q
      rw [q, hoc] at e
      have q' : oc = p.2 := Option.some.inj e
      exact d w' (by rw [← q']; exact hocd)
theorem store_ok {M : Model} {A : Around} {E : Value → Shared → Prop} {i : Nat} {x : Str} {v : V} {u : Value} {Q : Unit → Shared → Prop} (I : Inv X pins σ H s) (hN : X.N.Nodup) (hi : X.N[i]? = some x) (hx : Loc X.env.scope x) (r : RelV v u)
    (h : ∀ s', Inv X pins (σ.set i (some v)) H s' → Q () s') (hf : X.fn x = true ∨ X.env.scope.names.lookup x = some .local := by first | exact .inl rfl | exact .inr rfl | assumption) : wpAny M A (storeName X.env x u) Q E s :=
  store_ok2 I hN hi hx r (fun s' I' _ => h s' I') hf
/-- behind a call or a block, the state as it is -/
theorem Inv.call' {s' : Shared} {ch : List Addr} (I : Inv X pins σ H s) (ho : s'.os = s.os) (u : Un (frs X.stack) ch H H' s.heap s'.heap) (hok : HOk X.prog X.w H' s'.heap) (hg : AllBare s'.gens)
    (hch : ∀ b ∈ ch, (b ∈ X.ex ∨ X.s₀.heap.objs.size ≤ b) ∧ b ≠ X.env.locals ∧ (∀ x c, X.env.cells.lookup x = some c → c ≠ b) ∧ ∀ p ∈ X.pn ++ pins, p.1 ≠ b) : Inv X pins σ H' s' := by
  obtain ⟨h', g', d', t', o'⟩ := s'
  have e : o' = s.os := ho
  subst e
  exact I.call (g' := g') (t' := t') (d' := d') u hok hg hch
end

/-! ### the judgements -/
/-- an exception: its class, its own dict's address (where it has one), the abstract heap behind it -/
abbrev XK := Value → Option Addr → Hp → Prop
abbrev St := List (Option V)
abbrev VK := V → Hp → Prop
/-- an expression's reading; a test's; an argument list's -/
abbrev TE := St → Hp → VK → Prop
abbrev TT := St → Hp → (Bool → Hp → Prop) → Prop
abbrev TA := St → Hp → (List V → Hp → Prop) → Prop
/-- what is wanted behind a statement -/
structure Ends where
  nx : St → Hp → Prop
  rt : VK
  bk : St → Hp → Prop := fun _ _ => False
  ct : St → Hp → Prop := fun _ _ => False
abbrev TS := Ends → St → Hp → Prop

def EP (X : Cx) (pins : List (Addr × Obj)) (σ : St) (Q : VK) (u : Value) (s' : Shared) : Prop := ∃ v H', Inv X pins σ H' s' ∧ RelV v u ∧ Q v H'
def TP (X : Cx) (pins : List (Addr × Obj)) (σ : St) (Q : Bool → Hp → Prop) (b : Bool) (s' : Shared) : Prop := ∃ H', Inv X pins σ H' s' ∧ Q b H'
def AP (X : Cx) (pins : List (Addr × Obj)) (σ : St) (Q : List V → Hp → Prop) (us : List Value) (s' : Shared) : Prop := ∃ vs H', Inv X pins σ H' s' ∧ Vals vs us ∧ Q vs H'
def SP (X : Cx) (pins : List (Addr × Obj)) (D : Ends) (f : Flow) (s' : Shared) : Prop :=
  match f with
  | .next => ∃ σ' H', Inv X pins σ' H' s' ∧ D.nx σ' H'
  | .brk => ∃ σ' H', Inv X pins σ' H' s' ∧ D.bk σ' H'
  | .cont => ∃ σ' H', Inv X pins σ' H' s' ∧ D.ct σ' H'
  | .ret u => ∃ v σ' H', Inv X pins σ' H' s' ∧ RelV v u ∧ D.rt v H'

def PE (X : Cx) (e : Expr) (t : TE) : Prop :=
  ∀ (pins : List (Addr × Obj)) (s : Shared) (σ : St) (H : Hp) (Q : VK), Inv X pins σ H s → t σ H Q → wpAny (model X.prog X.w) X.A (eval e X.env) (EP X pins σ Q) X.xe s
def PT (X : Cx) (e : Expr) (t : TT) : Prop :=
  ∀ (pins : List (Addr × Obj)) (s : Shared) (σ : St) (H : Hp) (Q : Bool → Hp → Prop), Inv X pins σ H s → t σ H Q → wpAny (model X.prog X.w) X.A (isTrue e X.env (eval e X.env)) (TP X pins σ Q) X.xe s
/-- a test whatever its 'whole' is (and, or) -/
def PW (X : Cx) (e : Expr) (t : TT) : Prop :=
  ∀ (whole : Sem Value) (pins : List (Addr × Obj)) (s : Shared) (σ : St) (H : Hp) (Q : Bool → Hp → Prop), Inv X pins σ H s → t σ H Q → wpAny (model X.prog X.w) X.A (isTrue e X.env whole) (TP X pins σ Q) X.xe s
theorem PW.pt {X : Cx} {e : Expr} {t : TT} (h : PW X e t) : PT X e t := h _
/-- an argument list (no star), from the left -/
def PA (X : Cx) (es : List Expr) (t : TA) : Prop :=
  ∀ (pos : Pos) (pins : List (Addr × Obj)) (s : Shared) (σ : St) (H : Hp) (Q : List V → Hp → Prop), Inv X pins σ H s → t σ H Q → wpAny (model X.prog X.w) X.A (spliced (backTo pos (starEach es X.env))) (AP X pins σ Q) X.xe s
def PS (X : Cx) (st : Stmt) (t : TS) : Prop :=
  ∀ (pins : List (Addr × Obj)) (s : Shared) (σ : St) (H : Hp) (D : Ends), Inv X pins σ H s → t D σ H → wpAny (model X.prog X.w) X.A (exec st X.env) (SP X pins D) X.xe s
def PSs (X : Cx) (st : List Stmt) (t : TS) : Prop :=
  ∀ (pins : List (Addr × Obj)) (s : Shared) (σ : St) (H : Hp) (D : Ends), Inv X pins σ H s → t D σ H → wpAny (model X.prog X.w) X.A (execs st X.env) (SP X pins D) X.xe s
/-- weaken the end -/
theorem thn {α : Type} {t : Sem α} {Q Q' : α → Shared → Prop} {M : Model} {A : Around} {E : Value → Shared → Prop} {s : Shared} (h : wpAny M A t Q E s) (hQ : ∀ a s, Q a s → Q' a s) : wpAny M A t Q' E s := wpAny_mono h hQ fun _ _ x => x
end L2

namespace L2
open PySem PySem.Spec PyProof.Rows
section
variable {X : Cx}

/-- two expressions in a row -/
theorem bin {a b : Expr} {ta tb : TE} (ha : PE X a ta) (hb : PE X b tb) {pins : List (Addr × Obj)} {s : Shared} {σ : St} {H : Hp} {R : V → V → Hp → Prop} (I : Inv X pins σ H s) (h : ta σ H fun x H1 => tb σ H1 fun y H2 => R x y H2)
    {α : Type} {Q : α → Shared → Prop} {f : Value → Value → Sem α}
    (hf : ∀ v u s2 x y H2, Inv X pins σ H2 s2 → RelV x v → RelV y u → R x y H2 → wpAny (model X.prog X.w) X.A (f v u) Q X.xe s2) :
    wpAny (model X.prog X.w) X.A (eval a X.env) (fun v s₁ => wpAny (model X.prog X.w) X.A (eval b X.env) (fun u s₂ => wpAny (model X.prog X.w) X.A (f v u) Q X.xe s₂) X.xe s₁) X.xe s := by
  refine thn (ha pins s σ H _ I h) fun v s1 ⟨x, H1, I1, r1, q1⟩ => ?_
  refine thn (hb pins s1 σ H1 _ I1 q1) fun u s2 ⟨y, H2, I2, r2, q2⟩ => ?_
  exact hf v u s2 x y H2 I2 r1 r2 q2

/-! ### names and constants -/
def tVar (i : Nat) : TE := fun σ H Q => ∃ v, σ[i]? = some (some v) ∧ Q v H
def tC (v : V) : TE := fun _ H Q => Q v H
theorem pe_var {i : Nat} {x : Str} {pos : Pos} (hN : X.N[i]? = some x) (hv : Vis X.env.scope x) (hd : (x == ("__debug__" : Str)) = false := by decide) (hcd : (x == ("__classdict__" : Str)) = false := by decide) : PE X (.Name x pos) (tVar i) := by
  intro pins s σ H Q I h
  obtain ⟨v, e, h⟩ := h
  obtain ⟨m, hn, hl⟩ := I.loc
  obtain ⟨u, r, l⟩ := hl i x v hN e hv
  have fin : EP X pins σ Q u s := ⟨v, H, I, r, h⟩
  rcases l with ⟨hk, hm⟩ | ⟨hk, c, hc, hcell⟩
  · exact wpAny_Name (wpAny_loadName_local I.ok.kind hk hn hm fin) hd
  · rcases hk with hk | hk
    · exact wpAny_Name (wpAny_loadName_cell I.ok.kind hk hc hcell fin) hd
    · exact wpAny_Name (wpAny_loadName_free I.ok.kind hk hc hcell fin hcd) hd
theorem pe_int {i j pos} : PE X (.Constant (.int i) j pos) (tC (.int i)) := fun _ _ _ H _ I h => wpAny_Constant_int ⟨.int i, H, I.tok _, ⟨_, rfl⟩, h⟩
theorem pe_bl {b j pos} : PE X (.Constant (.bool b) j pos) (tC (.bl b)) := fun _ _ _ H _ I h => Constant_bool ⟨.bl b, H, I, rfl, h⟩
theorem pe_non {j pos} : PE X (.Constant .none j pos) (tC .non) := fun _ _ _ H _ I h => Constant_none ⟨.non, H, I, rfl, h⟩
theorem pe_str {x j pos} : PE X (.Constant (.str x) j pos) (tC (.str x)) := fun _ _ _ H _ I h => Calls.Constant_str ⟨.str x, H, I.tok _, ⟨_, rfl⟩, h⟩

/-- a global name of the def -/
def Gl (X : Cx) (x : Str) : Prop := X.env.kindOf x = some .globalImplicit
theorem ld_glob {E : Value → Shared → Prop} {pins : List (Addr × Obj)} {s : Shared} {σ : St} {H : Hp} {x : Str} {u : Value} {pos : Pos} {Q : Value → Shared → Prop} (I : Inv X pins σ H s) (hg : Gl X x) (hm : X.mg x = some u) (h : Q u s)
    (hd : (x == ("__debug__" : Str)) = false := by decide) : wpAny (model X.prog X.w) X.A (eval (.Name x pos) X.env) Q E s :=
  Calls.Name_function_global I.ok.kind hg (Calls.loadGlobal_global (by rw [I.ok.glob]; exact I.mod.glob.keeps I.bk) hm h) hd
theorem ld_blt {E : Value → Shared → Prop} {pins : List (Addr × Obj)} {s : Shared} {σ : St} {H : Hp} {x : Str} {u : Value} {pos : Pos} {Q : Value → Shared → Prop} (I : Inv X pins σ H s) (hg : Gl X x) (hm : X.mg x = none) (hv : bootBuiltins x = some u) (h : Q u s)
    (hn : x ≠ "__name__" := by decide) (hd : (x == ("__debug__" : Str)) = false := by decide) : wpAny (model X.prog X.w) X.A (eval (.Name x pos) X.env) Q E s := by
  obtain ⟨mb, h1, h2⟩ := I.mod.blt
  exact Calls.Name_function_global I.ok.kind hg (Calls.loadGlobal_builtin (by rw [I.ok.glob]; exact I.mod.glob.keeps I.bk) hm (by rw [I.ok.blt]; exact h1.keeps I.bk) ((h2 x hn).trans hv) h) hd
/-- a module's constant, a class, a function, as a value -/
theorem pe_glob {x : Str} {v : V} {u : Value} {pos : Pos} (hg : Gl X x) (hm : X.mg x = some u) (r : RelV v u) (hd : (x == ("__debug__" : Str)) = false := by decide) : PE X (.Name x pos) (tC v) :=
  fun _ _ _ H _ I h => ld_glob I hg hm ⟨v, H, I, r, h⟩ hd
theorem pe_bltn {x : Str} {v : V} {u : Value} {pos : Pos} (hg : Gl X x) (hm : X.mg x = none) (hv : bootBuiltins x = some u) (r : RelV v u) (hn : x ≠ "__name__" := by decide) (hd : (x == ("__debug__" : Str)) = false := by decide) : PE X (.Name x pos) (tC v) :=
  fun _ _ _ H _ I h => ld_blt I hg hm hv ⟨v, H, I, r, h⟩ hn hd

/-! ### arithmetic -/
/-- two ints -/
def t2I (ta tb : TE) (k : Int → Int → Hp → Prop) : St → Hp → Prop := fun σ H => ta σ H fun x H1 => tb σ H1 fun y H2 => ∃ i j, x = .int i ∧ y = .int j ∧ k i j H2
def tAdd (ta tb : TE) : TE := fun σ H Q => t2I ta tb (fun i j H2 => Q (.int (i + j)) H2) σ H
def tSub (ta tb : TE) : TE := fun σ H Q => t2I ta tb (fun i j H2 => Q (.int (i - j)) H2) σ H
/-- the left factor below 2^64 -/
def tMul (ta tb : TE) : TE := fun σ H Q => t2I ta tb (fun i j H2 => (-(2 ^ 64) < i ∧ i < 2 ^ 64) ∧ Q (.int (i * j)) H2) σ H
variable {a b : Expr} {ta tb : TE} {pos : Pos}
theorem pe_add (ha : PE X a ta) (hb : PE X b tb) : PE X (.BinOp a .Add b pos) (tAdd ta tb) := by
  intro pins s σ H Q I h
  refine wpAny_BinOp (bin ha hb I h fun v u s2 x y H2 I2 rx ry q => ?_)
  obtain ⟨i, j, rfl, rfl, q⟩ := q
  obtain ⟨t, rfl⟩ := rx
  obtain ⟨t', rfl⟩ := ry
  exact add_int ⟨.int _, H2, I2.tok _, ⟨_, rfl⟩, q⟩
theorem pe_sub (ha : PE X a ta) (hb : PE X b tb) : PE X (.BinOp a .Sub b pos) (tSub ta tb) := by
  intro pins s σ H Q I h
  refine wpAny_BinOp (bin ha hb I h fun v u s2 x y H2 I2 rx ry q => ?_)
  obtain ⟨i, j, rfl, rfl, q⟩ := q
  obtain ⟨t, rfl⟩ := rx
  obtain ⟨t', rfl⟩ := ry
  exact sub_int ⟨.int _, H2, I2.tok _, ⟨_, rfl⟩, q⟩
theorem pe_mul (ha : PE X a ta) (hb : PE X b tb) : PE X (.BinOp a .Mult b pos) (tMul ta tb) := by
  intro pins s σ H Q I h
  refine wpAny_BinOp (bin ha hb I h fun v u s2 x y H2 I2 rx ry q => ?_)
  obtain ⟨i, j, rfl, rfl, ⟨q1, q2⟩, q⟩ := q
  obtain ⟨t, rfl⟩ := rx
  obtain ⟨t', rfl⟩ := ry
  exact mul_int ⟨.int _, H2, I2.tok _, ⟨_, rfl⟩, q⟩ (.of_left (intBits_le_64 q1 q2))

/-! ### comparisons -/
def PC (X : Cx) (op : CmpOp) (a b : Expr) (t : TE) : Prop :=
  ∀ (pins : List (Addr × Obj)) (s : Shared) (σ : St) (H : Hp) (Q : VK), Inv X pins σ H s → t σ H Q →
    wpAny (model X.prog X.w) X.A (eval a X.env) (fun v s₁ => wpAny (model X.prog X.w) X.A (eval b X.env) (fun u s₂ => wpAny (model X.prog X.w) X.A (compareOp op v u) (EP X pins σ Q) X.xe s₂) X.xe s₁) X.xe s
theorem nobehind (b : Expr) {op : CmpOp} (h : op ≠ .In) (h2 : op ≠ .NotIn) : behindInMarks op b = false := by
  have e1 : (op == CmpOp.In) = false := by cases op <;> first | rfl | exact absurd rfl h
  have e2 : (op == CmpOp.NotIn) = false := by cases op <;> first | rfl | exact absurd rfl h2
  cases b <;> simp [behindInMarks, e1, e2]
def tCmp (p : Int → Int → Bool) (ta tb : TE) : TE := fun σ H Q => t2I ta tb (fun i j H2 => Q (.bl (p i j)) H2) σ H
abbrev tLt : TE → TE → TE := tCmp fun i j => decide (i < j)
abbrev tLe : TE → TE → TE := tCmp fun i j => decide (i ≤ j)
abbrev tGt : TE → TE → TE := tCmp fun i j => decide (j < i)
abbrev tGe : TE → TE → TE := tCmp fun i j => decide (j ≤ i)
abbrev tEqI : TE → TE → TE := tCmp fun i j => decide (i = j)
abbrev tNeI : TE → TE → TE := tCmp fun i j => !decide (i = j)
/-- a comparison of two ints, by its rule -/
theorem pc_int {op : CmpOp} {p : Int → Int → Bool} (ha : PE X a ta) (hb : PE X b tb)
    (rule : ∀ (i j : Int) (t u : Tok) (Q : Value → Shared → Prop) (s : Shared), Q (.bool (p i j)) s → wpAny (model X.prog X.w) X.A (compareOp op (.int i t) (.int j u)) Q X.xe s) : PC X op a b (tCmp p ta tb) := by
  intro pins s σ H Q I h
  refine bin ha hb I h fun v u s2 x y H2 I2 rx ry q => ?_
  obtain ⟨i, j, rfl, rfl, q⟩ := q
  obtain ⟨t, rfl⟩ := rx
  obtain ⟨t', rfl⟩ := ry
  exact rule i j t t' _ s2 ⟨.bl _, H2, I2, rfl, q⟩
theorem pc_lt (ha : PE X a ta) (hb : PE X b tb) : PC X .Lt a b (tLt ta tb) := pc_int ha hb fun _ _ _ _ _ _ h => lt_int h
theorem pc_le (ha : PE X a ta) (hb : PE X b tb) : PC X .LtE a b (tLe ta tb) := pc_int ha hb fun _ _ _ _ _ _ h => le_int h
theorem pc_gt (ha : PE X a ta) (hb : PE X b tb) : PC X .Gt a b (tGt ta tb) := pc_int ha hb fun _ _ _ _ _ _ h => gt_int h
theorem pc_ge (ha : PE X a ta) (hb : PE X b tb) : PC X .GtE a b (tGe ta tb) := pc_int ha hb fun _ _ _ _ _ _ h => ge_int h
theorem pc_eqI (ha : PE X a ta) (hb : PE X b tb) : PC X .Eq a b (tEqI ta tb) := pc_int ha hb fun _ _ _ _ _ _ h => eq_int (by rw [Bool.beq_eq_decide_eq]; exact h)
theorem pc_neI (ha : PE X a ta) (hb : PE X b tb) : PC X .NotEq a b (tNeI ta tb) := pc_int ha hb fun _ _ _ _ _ _ h => ne_int (by rw [bne, Bool.beq_eq_decide_eq]; exact h)
/-- is None -/
def tIsN (ta : TE) : TE := fun σ H Q => ta σ H fun x H1 => Q (.bl (decide (x = .non))) H1
def tNotN (ta : TE) : TE := fun σ H Q => ta σ H fun x H1 => Q (.bl (!decide (x = .non))) H1
theorem RelV.none_iff {x : V} {v : Value} (r : RelV x v) : (v == Value.none) = decide (x = .non) := by
  cases x with
  | non => cases r; rfl
  | bl _ => cases r; rfl
  | int _ => obtain ⟨t, rfl⟩ := r; rfl
  | str _ => obtain ⟨t, rfl⟩ := r; rfl
  | byt _ => obtain ⟨t, rfl⟩ := r; rfl
  | flt _ => obtain ⟨t, rfl⟩ := r; rfl
  | ref _ => cases r; rfl
  | ty _ => cases r; rfl
theorem pc_isN {j pos'} (ha : PE X a ta) : PC X .Is a (.Constant .none j pos') (tIsN ta) := by
  intro pins s σ H Q I h
  refine thn (ha pins s σ H _ I h) fun v s1 ⟨x, H1, I1, r1, q1⟩ => ?_
  exact Constant_none (is_none_gen ⟨.bl _, H1, I1, by rw [r1.none_iff]; rfl, q1⟩)
theorem pc_notN {j pos'} (ha : PE X a ta) : PC X .IsNot a (.Constant .none j pos') (tNotN ta) := by
  intro pins s σ H Q I h
  refine thn (ha pins s σ H _ I h) fun v s1 ⟨x, H1, I1, r1, q1⟩ => ?_
  exact Constant_none (isnot_none_gen ⟨.bl _, H1, I1, by rw [r1.none_iff]; rfl, q1⟩)
/-- a comparison as a value, as a test -/
def tB (t : TE) : TT := fun σ H Q => t σ H fun x H1 => ∃ c, x = .bl c ∧ Q c H1
theorem pe_cmp {op : CmpOp} {t : TE} (h : PC X op a b t) (h1 : behindInMarks op b = false := by first | exact nobehind _ (by decide) (by decide) | rfl) : PE X (.Compare a [op] [b] pos) t := fun pins s σ H Q I hw => wpAny_Compare1 (h pins s σ H Q I hw) h1
theorem pt_cmp {op : CmpOp} {t : TE} (h : PC X op a b t) (h1 : behindInMarks op b = false := by first | exact nobehind _ (by decide) (by decide) | rfl) : PT X (.Compare a [op] [b] pos) (tB t) := by
  intro pins s σ H Q I hw
  refine wpAny_isTrue_Compare1 (thn (h pins s σ H _ I hw) fun v s1 h1 => thn h1 fun u s2 h2 => thn h2 fun c s3 ⟨x, H1, I1, r1, q1⟩ => ?_) h1
  obtain ⟨d, rfl, q⟩ := q1
  cases r1
  exact wpAny_truthy_bool ⟨H1, I1, q⟩
/-- an expression whose value is a bool, as a test -/
theorem pt_val {e : Expr} {t : TE} (h : PE X e t) (he : ∀ whole, isTrue e X.env whole = (do let v ← whole; standAt e.pos; holding [v] (truthy v)) := by intro _; rfl) : PT X e (tB t) := by
  intro pins s σ H Q I hw
  refine isTrue_plain (thn (h pins s σ H _ I hw) fun v s1 ⟨x, H1, I1, r1, q1⟩ => ?_) (he _)
  obtain ⟨d, rfl, q⟩ := q1
  cases r1
  exact wpAny_truthy_bool ⟨H1, I1, q⟩

/-! ### and, or, not -/
variable {tA tB' : TT} {rest : List Expr}
def tAnd (t u : TT) : TT := fun σ H Q => t σ H fun c H1 => if c = true then u σ H1 Q else Q false H1
def tOr (t u : TT) : TT := fun σ H Q => t σ H fun c H1 => if c = true then Q true H1 else u σ H1 Q
def tNot (t : TT) : TT := fun σ H Q => t σ H fun c H1 => Q (!c) H1
theorem pw_and1 (ha : PT X a tA) : PW X (.BoolOp .And [a] pos) tA := by
  intro wh pins s σ H Q I h
  refine isTrue_and (thn (ha pins s σ H Q I h) fun c s1 e => ?_)
  cases c with
  | true => exact isTrue_and_nil e
  | false => exact e
theorem pw_or1 (ha : PT X a tA) : PW X (.BoolOp .Or [a] pos) tA := by
  intro wh pins s σ H Q I h
  refine isTrue_or (thn (ha pins s σ H Q I h) fun c s1 e => ?_)
  cases c with
  | false => exact isTrue_or_nil e
  | true => exact e
theorem pw_and (ha : PT X a tA) (hb : PW X (.BoolOp .And (b :: rest) pos) tB') : PW X (.BoolOp .And (a :: b :: rest) pos) (tAnd tA tB') := by
  intro wh pins s σ H Q I h
  refine isTrue_and (thn (ha pins s σ H _ I h) fun c s1 ⟨H1, I1, q1⟩ => ?_)
  cases c with
  | true => exact hb wh pins s1 σ H1 Q I1 q1
  | false => exact ⟨H1, I1, q1⟩
theorem pw_or (ha : PT X a tA) (hb : PW X (.BoolOp .Or (b :: rest) pos) tB') : PW X (.BoolOp .Or (a :: b :: rest) pos) (tOr tA tB') := by
  intro wh pins s σ H Q I h
  refine isTrue_or (thn (ha pins s σ H _ I h) fun c s1 ⟨H1, I1, q1⟩ => ?_)
  cases c with
  | true => exact ⟨H1, I1, q1⟩
  | false => exact hb wh pins s1 σ H1 Q I1 q1
theorem pt_not (ha : PT X a tA) : PT X (.UnaryOp .Not a pos) (tNot tA) := by
  intro pins s σ H Q I h
  exact isTrue_not (ha pins s σ H (fun c H1 => Q (!c) H1) I h)
/-- .. as values (bools) -/
def tAndV (ta tb : TE) : TE := fun σ H Q => ta σ H fun x H1 => ∃ c, x = .bl c ∧ if c = true then tb σ H1 Q else Q (.bl false) H1
def tOrV (ta tb : TE) : TE := fun σ H Q => ta σ H fun x H1 => ∃ c, x = .bl c ∧ if c = true then Q (.bl true) H1 else tb σ H1 Q
def tNotV (ta : TE) : TE := fun σ H Q => ta σ H fun x H1 => ∃ c, x = .bl c ∧ Q (.bl (!c)) H1
theorem pe_one {op} {t : TE} (h : PE X a t) : PE X (.BoolOp op [a] pos) t := fun pins s σ H Q I hw => BoolOp_one (h pins s σ H Q I hw)
theorem pe_and (ha : PE X a ta) (hb : PE X (.BoolOp .And (b :: rest) pos) tb) : PE X (.BoolOp .And (a :: b :: rest) pos) (tAndV ta tb) := by
  intro pins s σ H Q I h
  refine BoolOp_and (thn (ha pins s σ H _ I h) fun v s1 ⟨x, H1, I1, r1, q1⟩ => ?_)
  obtain ⟨c, rfl, q1⟩ := q1
  cases r1
  refine wpAny_truthy_bool ?_
  cases c with
  | true => exact hb pins s1 σ H1 Q I1 q1
  | false => exact ⟨.bl false, H1, I1, rfl, q1⟩
theorem pe_or (ha : PE X a ta) (hb : PE X (.BoolOp .Or (b :: rest) pos) tb) : PE X (.BoolOp .Or (a :: b :: rest) pos) (tOrV ta tb) := by
  intro pins s σ H Q I h
  refine BoolOp_or (thn (ha pins s σ H _ I h) fun v s1 ⟨x, H1, I1, r1, q1⟩ => ?_)
  obtain ⟨c, rfl, q1⟩ := q1
  cases r1
  refine wpAny_truthy_bool ?_
  cases c with
  | false => exact hb pins s1 σ H1 Q I1 q1
  | true => exact ⟨.bl true, H1, I1, rfl, q1⟩
theorem pe_not (ha : PE X a ta) : PE X (.UnaryOp .Not a pos) (tNotV ta) := by
  intro pins s σ H Q I h
  refine UnaryOp_ (thn (ha pins s σ H _ I h) fun v s1 ⟨x, H1, I1, r1, q1⟩ => ?_)
  obtain ⟨c, rfl, q1⟩ := q1
  cases r1
  exact not_of (wpAny_truthy_bool ⟨.bl (!c), H1, I1, rfl, q1⟩)
/-- a if t else b -/
def tIf (t : TT) (ta tb : TE) : TE := fun σ H Q => t σ H fun c H1 => if c = true then ta σ H1 Q else tb σ H1 Q
theorem pe_ifExp {c : Expr} (hc : PT X c tA) (ha : PE X a ta) (hb : PE X b tb) : PE X (.IfExp c a b pos) (tIf tA ta tb) := by
  intro pins s σ H Q I h
  refine wpAny_IfExp (thn (hc pins s σ H _ I h) fun d s1 ⟨H1, I1, q1⟩ => ?_)
  cases d with
  | true => exact ha pins s1 σ H1 Q I1 q1
  | false => exact hb pins s1 σ H1 Q I1 q1
end
end L2

namespace L2
open PySem PySem.Spec PyProof.Rows

/-! ### a list, a tuple that is read: tracked, frozen, or an object of the module -/
def SqL (K : PySem.W.Frag) (H : Hp) (a : Addr) (xs : List V) : Prop :=
  Rd H a (.lst xs) ∨
    ∃ (o : Obj) (its : Array Value) (n : Nat), K.lookup a = some o ∧ o.cls = .type "list" ∧ o.dict = none ∧ o.data = .seq its n ∧ its.size ≤ sizeLine ∧ Vals xs its.toList
def SqT (K : PySem.W.Frag) (H : Hp) (a : Addr) (xs : List V) : Prop :=
  Rd H a (.tup xs) ∨
    ∃ (o : Obj) (its : Array Value) (n : Nat), K.lookup a = some o ∧ o.cls = .type "tuple" ∧ o.data = .seq its n ∧ its.size ≤ sizeLine ∧ Vals xs its.toList
def absV : Value → Option V
  | .none => some .non
  | .bool b => some (.bl b)
  | .int i _ => some (.int i)
  | .str x _ => some (.str x)
  | .bytes b _ => some (.byt b)
  | .float b _ => some (.flt b)
  | .ref a => some (.ref a)
  | .type n => some (.ty n)
  | _ => none
theorem RelV.abs {x : V} {u : Value} (r : RelV x u) : absV u = some x := by
  cases x with
  | non => cases r; rfl
  | bl _ => cases r; rfl
  | int _ => obtain ⟨t, rfl⟩ := r; rfl
  | str _ => obtain ⟨t, rfl⟩ := r; rfl
  | byt _ => obtain ⟨t, rfl⟩ := r; rfl
  | flt _ => obtain ⟨t, rfl⟩ := r; rfl
  | ref _ => cases r; rfl
  | ty _ => cases r; rfl
theorem RelV.inj {x y : V} {u : Value} (r : RelV x u) (q : RelV y u) : x = y := Option.some.inj (r.abs.symm.trans q.abs)
theorem Vals.inj : ∀ {xs ys : List V} {us : List Value}, Vals xs us → Vals ys us → xs = ys
  | _, _, _, .nil, .nil => rfl
  | _, _, _, .cons r t, .cons r' t' => by rw [r.inj r', Vals.inj t t']
section
variable {X : Cx} {pins : List (Addr × Obj)} {σ : St} {H : Hp} {s : Shared} {a : Addr} {xs ys : List V}
theorem SqL.of {K : PySem.W.Frag} (h : H a = some (.lst xs)) : SqL K H a xs := .inl (.inl h)
theorem SqT.of {K : PySem.W.Frag} (h : H a = some (.tup xs)) : SqT K H a xs := .inl (.inl h)
theorem Inv.list (I : Inv X pins σ H s) (h : SqL X.K H a xs) : ∃ its : List Value, Vals xs its ∧ PlainL s.heap a its.toArray ∧ xs.length ≤ sizeLine := by
  rcases h with h | ⟨o, its, n, hk, hc, hd, hs, hz, r⟩
  · obtain ⟨z, its, n, r, e⟩ := h.ok I.hok
    exact ⟨its, r, ⟨_, n, e, rfl, rfl, rfl⟩, z⟩
  · refine ⟨its.toList, r, ⟨o, n, I.kIn a o hk, hc, hd, by simpa using hs⟩, ?_⟩
    have e := r.length
    simp only [Array.length_toList] at e
    omega
theorem Inv.tuple (I : Inv X pins σ H s) (h : SqT X.K H a xs) : ∃ its : List Value, Vals xs its ∧ IsTup s.heap a its.toArray ∧ xs.length ≤ sizeLine := by
  rcases h with h | ⟨o, its, n, hk, hc, hs, hz, r⟩
  · obtain ⟨z, its, r, p⟩ := h.ok I.hok
    exact ⟨its, r, p, z⟩
  · refine ⟨its.toList, r, ⟨o, I.kIn a o hk, hc, n, by simpa using hs⟩, ?_⟩
    have e := r.length
    simp only [Array.length_toList] at e
    omega
theorem Inv.list_inj (I : Inv X pins σ H s) (h : SqL X.K H a xs) (h' : SqL X.K H a ys) : xs = ys := by
  obtain ⟨its, r, ⟨o, n, e, _, _, d⟩, _⟩ := I.list h
  obtain ⟨its', r', ⟨o', n', e', _, _, d'⟩, _⟩ := I.list h'
  rw [e] at e'; cases e'
  rw [d] at d'
  injection d' with d1 _
  have : its = its' := by simpa using congrArg Array.toList d1
  subst this
  exact r.inj r'
theorem Inv.tuple_inj (I : Inv X pins σ H s) (h : SqT X.K H a xs) (h' : SqT X.K H a ys) : xs = ys := by
  obtain ⟨its, r, ⟨o, e, _, n, d⟩, _⟩ := I.tuple h
  obtain ⟨its', r', ⟨o', e', _, n', d'⟩, _⟩ := I.tuple h'
  rw [e] at e'; cases e'
  rw [d] at d'
  injection d' with d1 _
  have : its = its' := by simpa using congrArg Array.toList d1
  subst this
  exact r.inj r'
end

/-! ### another wish about exceptions -/
abbrev Cx.wish (X : Cx) (E : Value → Shared → Prop) : Cx := { X with xe := E }
/-- no exception leaves -/
abbrev Cx.nox (X : Cx) : Cx := X.wish fun _ _ => False
theorem Cx.Ok.wish {X : Cx} (ok : X.Ok) (E : Value → Shared → Prop) : (X.wish E).Ok :=
  ⟨ok.mod, ok.kind, ok.glob, ok.blt, ok.above, ok.inj, ok.has, ok.cab, ok.hd, ok.frames, ok.stk, ok.exf, ok.bs, ok.bsz, ok.noex, ok.exfs, ok.funs, ok.frf⟩
theorem Cx.Ok.unwish {X : Cx} {E : Value → Shared → Prop} (ok : (X.wish E).Ok) : X.Ok :=
  ⟨ok.mod, ok.kind, ok.glob, ok.blt, ok.above, ok.inj, ok.has, ok.cab, ok.hd, ok.frames, ok.stk, ok.exf, ok.bs, ok.bsz, ok.noex, ok.exfs, ok.funs, ok.frf⟩
section
variable {X : Cx} {pins : List (Addr × Obj)} {σ : St} {H : Hp} {s : Shared} {E : Value → Shared → Prop}
theorem Inv.wish (I : Inv X pins σ H s) (E : Value → Shared → Prop) : Inv (X.wish E) pins σ H s := ⟨I.ok.wish E, I.os, I.bare, I.base, I.loc, I.cell, I.free, I.freeC, I.pin, I.hok, I.len⟩
theorem Inv.unwish (I : Inv (X.wish E) pins σ H s) : Inv X pins σ H s := ⟨I.ok.unwish, I.os, I.bare, I.base, I.loc, I.cell, I.free, I.freeC, I.pin, I.hok, I.len⟩
theorem SP.unwish {D : Ends} {f : Flow} {s' : Shared} (h : SP (X.wish E) pins D f s') : SP X pins D f s' := by
  cases f with
  | next => obtain ⟨σ', H', I, q⟩ := h; exact ⟨σ', H', I.unwish, q⟩
  | brk => obtain ⟨σ', H', I, q⟩ := h; exact ⟨σ', H', I.unwish, q⟩
  | cont => obtain ⟨σ', H', I, q⟩ := h; exact ⟨σ', H', I.unwish, q⟩
  | ret u => obtain ⟨v, σ', H', I, r, q⟩ := h; exact ⟨v, σ', H', I.unwish, r, q⟩
theorem PE.nox {e : Expr} {t : TE} (h : PE X.nox e t) : PE X e t := fun pins s σ H Q I hw =>
  wpAny_mono (h pins s σ H Q (I.wish _) hw) (fun _ _ ⟨v, H', I', r, q⟩ => ⟨v, H', I'.unwish, r, q⟩) fun _ _ z => False.elim z
theorem PT.nox {e : Expr} {t : TT} (h : PT X.nox e t) : PT X e t := fun pins s σ H Q I hw =>
  wpAny_mono (h pins s σ H Q (I.wish _) hw) (fun _ _ ⟨H', I', q⟩ => ⟨H', I'.unwish, q⟩) fun _ _ z => False.elim z
theorem PSs.nox {st : List Stmt} {t : TS} (h : PSs X.nox st t) : PSs X st t := fun pins s σ H D I hw =>
  wpAny_mono (h pins s σ H D (I.wish _) hw) (fun _ _ q => q.unwish) fun _ _ z => False.elim z
end

/-! ### blocks and small statements -/
section
variable {X : Cx} {st : Stmt} {rest : List Stmt} {t u : TS} {e : Expr} {te : TE} {pos : Pos}
def tNext : TS := fun D σ H => D.nx σ H
def tSeq (t u : TS) : TS := fun D σ H => t { D with nx := u D } σ H
theorem pss_nil : PSs X [] tNext := fun _ _ σ H _ I h => wpAny_execs_nil ⟨σ, H, I, h⟩
theorem pss_cons (h1 : PS X st t) (h2 : PSs X rest u) : PSs X (st :: rest) (tSeq t u) := by
  intro pins s σ H D I h
  refine wpAny_execs_cons (thn (h1 pins s σ H { D with nx := u D } I h) fun f s1 q => ?_)
  cases f with
  | next =>
    obtain ⟨σ', H', I', q⟩ := q
    exact h2 pins s1 σ' H' D I' q
  | ret v => exact q
  | brk => exact q
  | cont => exact q
theorem pss_one (h1 : PS X st t) : PSs X [st] t := by
  intro pins s σ H D I h
  refine wpAny_execs_cons (thn (h1 pins s σ H D I h) fun f s1 q => ?_)
  cases f with
  | next => exact wpAny_execs_nil q
  | ret v => exact q
  | brk => exact q
  | cont => exact q
def tBreak : TS := fun D σ H => D.bk σ H
def tCont : TS := fun D σ H => D.ct σ H
theorem ps_pass : PS X (.Pass pos) tNext := fun _ _ σ H _ I h => wpAny_Pass ⟨σ, H, I, h⟩
theorem ps_break : PS X (.Break pos) tBreak := fun _ _ σ H _ I h => wpAny_Break ⟨σ, H, I, h⟩
theorem ps_continue : PS X (.Continue pos) tCont := fun _ _ σ H _ I h => wpAny_Continue ⟨σ, H, I, h⟩
/-- in a def's body nothing is shown -/
theorem Inv.quiet {pins : List (Addr × Obj)} {σ : St} {H : Hp} {s : Shared} (I : Inv X pins σ H s) : interactive X.env = false := by simp [interactive, I.ok.kind]
/-- a docstring -/
theorem ps_doc {x j pos pos'} : PS X (.Expr (.Constant (.str x) j pos) pos') tNext := fun _ s σ H _ I h => wpAny_Expr (Calls.Constant_str (show SP X _ _ .next { s with toks := s.toks + 1 } from ⟨σ, H, I.tok _, h⟩)) I.quiet
/-- an expression whose value is dropped -/
def tDrop (te : TE) : TS := fun D σ H => te σ H fun _ H1 => D.nx σ H1
theorem ps_expr (he : PE X e te) (hs : swapsWith e none pos.line X.env = pure false := by rfl) : PS X (.Expr e pos) (tDrop te) := by
  intro pins s σ H D I h
  exact wpAny_Expr_any (thn (he pins s σ H _ I h) fun v s1 ⟨x, H1, I1, r1, q1⟩ => ⟨σ, H1, I1, q1⟩) I.quiet hs
def tRet (te : TE) : TS := fun D σ H => te σ H D.rt
theorem ps_ret (he : PE X e te) : PS X (.Return (some e) pos) (tRet te) := by
  intro pins s σ H D I h
  exact wpAny_Return_some (thn (he pins s σ H _ I h) fun v s1 ⟨x, H1, I1, r1, q1⟩ => ⟨x, σ, H1, I1, r1, q1⟩)
def tRetN : TS := fun D _ H => D.rt .non H
theorem ps_retN : PS X (.Return none pos) tRetN := fun _ _ σ H _ I h => wpAny_Return_none ⟨.non, σ, H, I, rfl, h⟩
def tIfS (c : TT) (t u : TS) : TS := fun D σ H => c σ H fun b H1 => if b = true then t D σ H1 else u D σ H1
theorem ps_if {c : Expr} {a b : List Stmt} {tc : TT} (hc : PT X c tc) (ha : PSs X a t) (hb : PSs X b u) : PS X (.If c a b pos) (tIfS tc t u) := by
  intro pins s σ H D I h
  refine wpAny_If (thn (hc pins s σ H _ I h) fun d s1 ⟨H1, I1, q1⟩ => ?_)
  cases d with
  | true => exact ha pins s1 σ H1 D I1 q1
  | false => exact hb pins s1 σ H1 D I1 q1
/-- code that the proof never comes to -/
def tNever : TS := fun _ _ _ => False
theorem ps_never : PS X st tNever := fun _ _ _ _ _ _ h => h.elim
theorem pss_never {sts : List Stmt} : PSs X sts tNever := fun _ _ _ _ _ _ h => h.elim
end

/-! ### targets -/
abbrev TG := V → St → Hp → (St → Hp → Prop) → Prop
abbrev TGs := List V → St → Hp → (St → Hp → Prop) → Prop
def PG (X : Cx) (target : Expr) (t : TG) : Prop :=
  ∀ (pins : List (Addr × Obj)) (s : Shared) (σ : St) (H : Hp) (v : V) (u : Value) (Q : St → Hp → Prop), Inv X pins σ H s → RelV v u → t v σ H Q →
    wpAny (model X.prog X.w) X.A (assign target X.env u) (fun _ s' => ∃ σ' H', Inv X pins σ' H' s' ∧ Q σ' H') X.xe s
/-- several targets, one after another -/
def PGs (X : Cx) (ts : List Expr) (t : TGs) : Prop :=
  ∀ (pins : List (Addr × Obj)) (s : Shared) (σ : St) (H : Hp) (vs : List V) (us : List Value) (Q : St → Hp → Prop), Inv X pins σ H s → Vals vs us → t vs σ H Q →
    wpAny (model X.prog X.w) X.A (assignInOrder ((assignEach ts X.env).map (·.2)) us) (fun _ s' => ∃ σ' H', Inv X pins σ' H' s' ∧ Q σ' H') X.xe s
/-- o[i] = v, by values -/
abbrev TSet := V → V → V → Hp → (Hp → Prop) → Prop
def PSet (X : Cx) (t : TSet) : Prop :=
  ∀ (pins : List (Addr × Obj)) (s : Shared) (σ : St) (H : Hp) (o i v : V) (ov iv u : Value) (Q : Hp → Prop), Inv X pins σ H s → RelV o ov → RelV i iv → RelV v u → t o i v H Q →
    wpAny (model X.prog X.w) X.A (setItem ov iv u) (fun _ s' => ∃ H', Inv X pins σ H' s' ∧ Q H') X.xe s
/-- a op= b, by values -/
abbrev TIp := V → V → Hp → VK → Prop
def PIp (X : Cx) (op : Operator) (t : TIp) : Prop :=
  ∀ (pins : List (Addr × Obj)) (s : Shared) (σ : St) (H : Hp) (x y : V) (v u : Value) (Q : VK), Inv X pins σ H s → RelV x v → RelV y u → t x y H Q →
    wpAny (model X.prog X.w) X.A (inplaceOp op v u) (EP X pins σ Q) X.xe s
section
variable {X : Cx} {pos : Pos}
def gName (i : Nat) : TG := fun v σ H Q => Q (σ.set i (some v)) H
theorem pg_name {i : Nat} {x : Str} (hN : X.N.Nodup) (hi : X.N[i]? = some x) (hx : Loc X.env.scope x) (hf : X.fn x = true ∨ X.env.scope.names.lookup x = some .local := by first | exact .inl rfl | exact .inr rfl | assumption) : PG X (.Name x pos) (gName i) := by
  intro pins s σ H v u Q I r h
  exact wpAny_assign_Name (store_ok I hN hi hx r (fun s' I' => ⟨_, H, I', h⟩) hf)
def gNil : TGs := fun vs σ H Q => vs = [] ∧ Q σ H
def gCons (t : TG) (u : TGs) : TGs := fun vs σ H Q => ∃ v r, vs = v :: r ∧ t v σ H fun σ' H' => u r σ' H' Q
theorem pgs_nil : PGs X [] gNil := by
  intro pins s σ H vs us Q I r h
  obtain ⟨e, h⟩ := h
  subst e
  cases r
  exact assignInOrder_nil ⟨σ, H, I, h⟩
theorem pgs_cons {e : Expr} {es : List Expr} {t : TG} {u : TGs} (h1 : PG X e t) (h2 : PGs X es u)
    (hs : (assignEach (e :: es) X.env).map (·.2) = assign e X.env :: (assignEach es X.env).map (·.2) := by rfl) : PGs X (e :: es) (gCons t u) := by
  intro pins s σ H vs us Q I r h
  obtain ⟨v, vr, e1, h⟩ := h
  subst e1
  cases r with
  | cons r rr =>
    rw [hs]
    refine assignInOrder_cons (thn (h1 pins s σ H _ _ _ I r h) fun _ s1 ⟨σ1, H1, I1, q1⟩ => ?_)
    exact h2 pins s1 σ1 H1 _ _ Q I1 rr q1
/-- (a, b, ..) = a tuple of that length -/
def gTup (K : PySem.W.Frag) (n : Nat) (t : TGs) : TG := fun v σ H Q => ∃ a xs, v = .ref a ∧ SqT K H a xs ∧ xs.length = n ∧ t xs σ H Q
theorem pg_tup {es : List Expr} {k : Nat} {t : TGs} {n : Nat} (hc : X.calm = true) (h : PGs X es t)
    (hn : (assignEach es X.env).length = n := by rfl) (hst : (assignEach es X.env).findIdx? (·.1) = none := by rfl) : PG X (.Tuple es k pos) (gTup X.K n t) := by
  intro pins s σ H v u Q I r hw
  obtain ⟨a, xs, e1, hq, hl, hw⟩ := hw
  subst e1
  cases r
  obtain ⟨its, rv, ht, hz⟩ := I.tuple hq
  refine assign_Tuple_tuple (I.ok.hd hc) ht (by simp [hn, ← hl, rv.length]) hst fun h' hx => ?_
  have I1 : Inv X pins σ H { s with heap := h' } := I.kept (t' := s.toks) fun b o e => hx b o (Nat.ne_of_lt (Heap.lt_size e)) e
  exact h pins _ σ H xs _ Q I1 (by simpa using rv) hw
/-- o[i] = .. -/
def gSub (to ti : TE) (t : TSet) : TG := fun v σ H Q => to σ H fun o H1 => ti σ H1 fun i H2 => t o i v H2 fun H3 => Q σ H3
theorem pg_sub {o i : Expr} {to ti : TE} {t : TSet} (ho : PE X o to) (hi : PE X i ti) (hs : PSet X t)
    (ha : ∀ v, assign (.Subscript o i pos) X.env v = (do
      let ov ← holding [v] (eval o X.env)
      let iv ← holding [v, ov] (eval i X.env)
      standAt pos
      holding [v, ov, iv] (setItem ov iv v)
      release [v, ov, iv] []) := by intro _; rfl) : PG X (.Subscript o i pos) (gSub to ti t) := by
  intro pins s σ H v u Q I r h
  rw [ha]
  refine wpAny_bind (wpAny_holding (thn (ho pins s σ H _ I h) fun ov s1 ⟨x, H1, I1, r1, q1⟩ => ?_))
  refine wpAny_bind (wpAny_holding (thn (hi pins s1 σ H1 _ I1 q1) fun iv s2 ⟨y, H2, I2, r2, q2⟩ => ?_))
  refine wpAny_bind (wpAny_standAt (wpAny_bind (wpAny_holding (thn (hs pins s2 σ H2 x y v ov iv u _ I2 r1 r2 r q2) fun _ s3 ⟨H3, I3, q3⟩ => ?_))))
  exact wpAny_release ⟨σ, H3, I3, q3⟩
/-- target = value -/
def tAsg (te : TE) (g : TG) : TS := fun D σ H => te σ H fun x H1 => g x σ H1 D.nx
theorem ps_asg {tg e : Expr} {te : TE} {g : TG} (he : PE X e te) (hg : PG X tg g) (hs : swapsWithSole [tg] e pos.line X.env = pure false := by rfl) (hw : swappedStores [tg] e X.env = pure none := by rfl)
    (h1 : (assignEach [tg] X.env).map (·.2) = [assign tg X.env] := by rfl) : PS X (.Assign [tg] e pos) (tAsg te g) := by
  intro pins s σ H D I h
  refine wpAny_Assign_stores (thn (he pins s σ H _ I h) fun v s1 ⟨x, H1, I1, r1, q1⟩ => ?_) hs hw
  rw [h1]
  exact thn (hg pins s1 σ H1 x v _ I1 r1 q1) fun _ s2 q => q
/-- name = value -/
theorem ps_set {i : Nat} {x : Str} {e : Expr} {te : TE} {pos' : Pos} (hN : X.N.Nodup) (hi : X.N[i]? = some x) (hx : Loc X.env.scope x) (he : PE X e te) (hs : swapsWith e (some (.Name x pos')) pos.line X.env = pure false := by rfl) (hf : X.fn x = true ∨ X.env.scope.names.lookup x = some .local := by first | exact .inl rfl | exact .inr rfl | assumption) :
    PS X (.Assign [.Name x pos'] e pos) (tAsg te (gName i)) := by
  intro pins s σ H D I h
  refine wpAny_Assign_Name (thn (he pins s σ H _ I h) fun v s1 ⟨y, H1, I1, r1, q1⟩ => ?_) hs
  exact store_ok I1 hN hi hx r1 (fun s2 I2 => ⟨_, H1, I2, q1⟩) hf
/-- a, b = x, y with plain local names: stored from the right; the pair itself is not tracked (the opening rows as in PyProof/Rows/TupAssign.lean:23) -/
def tPar (i j : Nat) (ta : TA) : TS := fun D σ H => ta σ H fun vs H1 => ∃ v w, vs = [v, w] ∧ D.nx ((σ.set i (some v)).set j (some w)) H1
theorem ps_par {i j : Nat} {x y : Str} {a b : Expr} {ta : TA} {px py pt : Pos} {kt k2 pt2} (hc : X.calm = true) (hN : X.N.Nodup) (hi : X.N[i]? = some x) (hj : X.N[j]? = some y) (hij : i ≠ j)
    (hx : X.env.scope.names.lookup x = some .local) (hy : X.env.scope.names.lookup y = some .local) (ha : PA X [a, b] ta)
    (hw : swappedStores [.Tuple [.Name x px, .Name y py] kt pt] (.Tuple [a, b] k2 pt2) X.env = pure (some [x, y]))
    (hs : swapsWithSole [.Tuple [.Name x px, .Name y py] kt pt] (.Tuple [a, b] k2 pt2) pos.line X.env = pure false := by rfl) :
    PS X (.Assign [.Tuple [.Name x px, .Name y py] kt pt] (.Tuple [a, b] k2 pt2) pos) (tPar i j ta) := by
  intro pins s σ H D I h
  rw [exec_Assign_arm]
  refine wpAny_bind (wpAny_standAt ?_)
  rw [hs]
  refine wpAny_bind (wpAny_pure ?_)
  rw [if_neg (by decide)]
  refine wpAny_bind (Tuple_ (thn (ha _ pins s σ H _ I h) fun us s1 ⟨vs, H1, I1, r1, q1⟩ => ?_))
  obtain ⟨v, w, e1, q1⟩ := q1
  subst e1
  obtain ⟨u1, u2, rfl, rv, rw'⟩ : ∃ u1 u2, us = [u1, u2] ∧ RelV v u1 ∧ RelV w u2 := by
    cases r1 with
    | cons p q =>
      cases q with
      | cons p' q' =>
        cases q'
        exact ⟨_, _, rfl, p, p'⟩
  refine wpAny_newObj_type ?_ (by show 2 ≤ sizeLine; decide)
  have I2 : Inv X pins σ H1 { s1 with heap := s1.heap.push { cls := .type "tuple", data := .seq [u1, u2].toArray } } := I1.kept (t' := s1.toks) fun b o e => Heap.get?_push_of_some _ e
  rw [hw]
  refine wpAny_bind (wpAny_pure ?_)
  show wpAny (model X.prog X.w) X.A (do rule "assign.swapped-stores"; let items ← unpackItems (.ref s1.heap.objs.size) 2 none; assignInOrder [fun v => bindName X.env y v, fun v => bindName X.env x v] items.reverse; pure Flow.next) _ _ _
  refine wpAny_bind (wpAny_rule (wpAny_bind (unpackItems_tuple (items := #[u1, u2]) (I.ok.hd hc) (IsTup.new s1.heap _) fun h' hx' => ?_)))
  have I3 := I2.kept (h' := h') (t' := s1.toks) fun b o e => hx' b o (Nat.ne_of_lt (Heap.lt_size e)) e
  show wpAny _ _ (assignInOrder [fun v => bindName X.env y v, fun v => bindName X.env x v] [u2, u1] >>= fun _ => pure Flow.next) _ _ _
  refine wpAny_bind (assignInOrder_cons (wpAny_bindName (store_ok I3 hN hj (.inl hy) rw' (fun s2 I4 => ?_) (.inr hy))))
  refine assignInOrder_cons (wpAny_bindName (store_ok I4 hN hi (.inl hx) rv (fun s3 I5 => assignInOrder_nil (wpAny_pure ?_)) (.inr hx)))
  rw [List.set_comm _ _ (Ne.symm hij)] at I5
  exact ⟨_, H1, I5, q1⟩
/-- name op= e -/
def tAug (i : Nat) (te : TE) (ti : TIp) : TS := fun D σ H => ∃ x, σ[i]? = some (some x) ∧ te σ H fun y H1 => ti x y H1 fun z H2 => D.nx (σ.set i (some z)) H2
theorem ps_aug {i : Nat} {x : Str} {e : Expr} {te : TE} {op : Operator} {ti : TIp} {pos' : Pos} (hN : X.N.Nodup) (hi : X.N[i]? = some x) (hx : Loc X.env.scope x) (he : PE X e te) (ho : PIp X op ti) (hf : X.fn x = true ∨ X.env.scope.names.lookup x = some .local := by first | exact .inl rfl | exact .inr rfl | assumption) :
    PS X (.AugAssign (.Name x pos') op e pos) (tAug i te ti) := by
  intro pins s σ H D I h
  obtain ⟨v, e1, h⟩ := h
  obtain ⟨m, hn, hl⟩ := I.loc
  have vis : Vis X.env.scope x := by rcases hx with k | k; exact .inl k; exact .inr (.inl k)
  obtain ⟨u, r, l⟩ := hl i x v hi e1 vis
  refine wpAny_AugAssign_Name ?_
  have go : wpAny (model X.prog X.w) X.A (eval e X.env) (fun w s₂ => wpAny (model X.prog X.w) X.A (inplaceOp op u w) (fun r s₃ => wpAny (model X.prog X.w) X.A (storeName X.env x r) (fun _ => SP X pins D .next) X.xe s₃) X.xe s₂) X.xe s := by
    refine thn (he pins s σ H _ I h) fun w s1 ⟨y, H1, I1, r1, q1⟩ => ?_
    refine thn (ho pins s1 σ H1 v y u w _ I1 r r1 q1) fun z s2 ⟨zv, H2, I2, r2, q2⟩ => ?_
    exact store_ok I2 hN hi hx r2 (fun s3 I3 => ⟨_, H2, I3, q2⟩) hf
  rcases l with ⟨hk, hm⟩ | ⟨hk, c, hc, hcell⟩
  · exact wpAny_loadName_local I.ok.kind hk hn hm go
  · rcases hk with hk | hk
    · exact wpAny_loadName_cell I.ok.kind hk hc hcell go
    · rcases hx with k | k
      · have : X.env.scope.names.lookup x = some .free := hk
        rw [k] at this; cases this
      · have : X.env.scope.names.lookup x = some .free := hk
        rw [k] at this; cases this
/-- o[i] op= e -/
def tAugS (to ti te : TE) (tget : V → V → Hp → VK → Prop) (tip : TIp) (tset : TSet) : TS := fun D σ H => to σ H fun o H1 => ti σ H1 fun i H2 => tget o i H2 fun x H3 => te σ H3 fun y H4 => tip x y H4 fun z H5 => tset o i z H5 fun H6 => D.nx σ H6
/-- o[i], by values -/
def PGet (X : Cx) (t : V → V → Hp → VK → Prop) : Prop :=
  ∀ (pins : List (Addr × Obj)) (s : Shared) (σ : St) (H : Hp) (o i : V) (ov iv : Value) (Q : VK), Inv X pins σ H s → RelV o ov → RelV i iv → t o i H Q →
    wpAny (model X.prog X.w) X.A (getItem ov iv) (EP X pins σ Q) X.xe s
theorem ps_augS {o i e : Expr} {to ti te : TE} {tget : V → V → Hp → VK → Prop} {tip : TIp} {tset : TSet} {op : Operator} {tpos : Pos} (ho : PE X o to) (hi : PE X i ti) (hg : PGet X tget) (he : PE X e te) (hp : PIp X op tip) (hs : PSet X tset)
    (ha : ∀ ov iv new, augStore i ov iv new = (do holding [new, ov, iv] (setItem ov iv new); release [new, ov, iv] []; pure .next) := by intros; rfl) : PS X (.AugAssign (.Subscript o i tpos) op e pos) (tAugS to ti te tget tip tset) := by
  intro pins s σ H D I h
  refine wpAny_AugAssign_SubscriptAny (thn (ho pins s σ H _ I h) fun ov s1 ⟨x1, H1, I1, r1, q1⟩ => ?_) ha
  refine thn (hi pins s1 σ H1 _ I1 q1) fun iv s2 ⟨x2, H2, I2, r2, q2⟩ => ?_
  refine thn (hg pins s2 σ H2 x1 x2 ov iv _ I2 r1 r2 q2) fun old s3 ⟨x3, H3, I3, r3, q3⟩ => ?_
  refine thn (he pins s3 σ H3 _ I3 q3) fun v s4 ⟨x4, H4, I4, r4, q4⟩ => ?_
  refine thn (hp pins s4 σ H4 x3 x4 old v _ I4 r3 r4 q4) fun new s5 ⟨x5, H5, I5, r5, q5⟩ => ?_
  exact thn (hs pins s5 σ H5 x1 x2 x5 ov iv new _ I5 r1 r2 r5 q5) fun _ s6 ⟨H6, I6, q6⟩ => ⟨σ, H6, I6, q6⟩
/-- ints -/
def ipI (f : Int → Int → Int) : TIp := fun x y H Q => ∃ i j, x = .int i ∧ y = .int j ∧ Q (.int (f i j)) H
theorem ip_add : PIp X .Add (ipI fun i j => i + j) := by
  intro pins s σ H x y v u Q I r1 r2 h
  obtain ⟨i, j, e1, e2, q⟩ := h
  subst e1; subst e2
  obtain ⟨t, rfl⟩ := r1
  obtain ⟨t', rfl⟩ := r2
  exact iadd_int ⟨.int _, H, I.tok _, ⟨_, rfl⟩, q⟩
theorem ip_sub : PIp X .Sub (ipI fun i j => i - j) := by
  intro pins s σ H x y v u Q I r1 r2 h
  obtain ⟨i, j, e1, e2, q⟩ := h
  subst e1; subst e2
  obtain ⟨t, rfl⟩ := r1
  obtain ⟨t', rfl⟩ := r2
  exact isub_int ⟨.int _, H, I.tok _, ⟨_, rfl⟩, q⟩
end

/-! ### while -/
section
variable {X : Cx} {pos : Pos}
/-- the invariant W with its measure -/
def tWhile (c : TT) (tb : TS) : TS := fun D σ H => ∃ W : Nat → St → Hp → Prop, (∃ m, W m σ H) ∧ ∀ m σ H, W m σ H →
  c σ H fun b H1 => if b = true then ∃ N : St → Hp → Prop, (∀ σ' H', N σ' H' → ∃ m', m' < m ∧ W m' σ' H') ∧ tb { D with nx := N, ct := N, bk := D.nx } σ H1 else D.nx σ H1
theorem ps_while {c : Expr} {body : List Stmt} {tc : TT} {tb : TS} (hp : PassesOwn (model X.prog X.w) X.A X.env X.xe) (hc : PT X c tc) (hb : PSs X body tb) : PS X (.While c body [] pos) (tWhile tc tb) := by
  intro pins s σ H D I h
  obtain ⟨W, ⟨m0, w0⟩, turn⟩ := h
  refine wpAny_While (codeAny_whileLoop (fun n s' => ∃ σ' H', Inv X pins σ' H' s' ∧ W n σ' H') ?_ m0 ⟨σ, H, I, w0⟩)
  rintro n s1 ⟨σ1, H1, I1, w1⟩
  refine wpAny_passesOwn hp (thn (hc pins s1 σ1 H1 _ I1 (turn n σ1 H1 w1)) fun b s2 ⟨H2, I2, q2⟩ => ?_)
  cases b with
  | true =>
    obtain ⟨N, hN, q2⟩ := q2
    rw [if_pos rfl]
    refine wpAny_passesOwn hp (thn (hb pins s2 σ1 H2 _ I2 q2) fun f s3 q3 => ?_)
    cases f with
    | next =>
      obtain ⟨σ3, H3, I3, n3⟩ := q3
      obtain ⟨m', hm, w3⟩ := hN σ3 H3 n3
      exact ⟨m', hm, σ3, H3, I3, w3⟩
    | cont =>
      obtain ⟨σ3, H3, I3, n3⟩ := q3
      obtain ⟨m', hm, w3⟩ := hN σ3 H3 n3
      exact ⟨m', hm, σ3, H3, I3, w3⟩
    | brk => exact q3
    | ret v => exact q3
  | false =>
    rw [if_neg Bool.false_ne_true]
    exact wpAny_execs_nil ⟨σ1, H2, I2, q2⟩
end

/-! ### what a loop or a comprehension walks -/
/-- at turn i: it yields x (the heap may grow), or it stops -/
structure It where
  go : Nat → Hp → Prop
  yld : Nat → Hp → V → Hp → Prop
  stop : Nat → Hp → Prop
/-- the iterator's own objects may turn: they are not the frame's, not pinned, younger than the entry (or a comprehension's own) -/
def FpOk (X : Cx) (pins : List (Addr × Obj)) (H : Hp) (b : Addr) : Prop :=
  H b = none ∧ b ≠ X.env.locals ∧ b ∉ X.fs ∧ (b ∈ X.ex ∨ X.s₀.heap.objs.size ≤ b) ∧ (∀ x c, X.env.cells.lookup x = some c → c ≠ b) ∧ ∀ p ∈ X.pn ++ pins, p.1 ≠ b
theorem Inv.fpOk {X : Cx} {pins : List (Addr × Obj)} {σ : St} {H H' : Hp} {s : Shared} {b : Addr} (I : Inv X pins σ H s) (hb : s.heap.objs.size ≤ b) (hn : H' b = none) : FpOk X pins H' b := by
  refine ⟨hn, Nat.ne_of_gt (Nat.lt_of_lt_of_le I.lt hb), I.nofs hb, .inr (Nat.le_trans I.sz hb), fun x c e z => ?_, fun p hp z => ?_⟩
  · obtain ⟨v, q⟩ := I.cell x c e
    exact absurd (Nat.lt_of_lt_of_le q.lt (by rw [z]; exact hb)) (Nat.lt_irrefl _)
  · exact absurd (Nat.lt_of_lt_of_le (Heap.lt_size (I.pin p hp).1) (by rw [z]; exact hb)) (Nat.lt_irrefl _)
structure Turn (P : Program) (w : World) (K : PySem.W.Frag) (tg : Expr) (J : It) (fp : List Addr) (it : Addr) (tn : Nat → Heap → Prop) : Prop where
  mem : it ∈ fp
  obj : ∀ i h, tn i h → ∀ b ∈ fp, ∃ o, h.get? b = some o ∧ ∀ v, o.data ≠ .cell v
  keep : ∀ i h h', tn i h → (∀ b ∈ fp, ∀ o, h.get? b = some o → h'.get? b = some o) → tn i h'
  item : ∀ (X : Cx), X.prog = P → X.w = w → X.K = K → X.calm = true → ∀ (i : Nat) (pins : List (Addr × Obj)) (s : Shared) (σ : St) (H : Hp) (E : Value → Shared → Prop), Inv X pins σ H s → (∀ b ∈ fp, FpOk X pins H b) → tn i s.heap → J.go i H →
    wpAny (model P w) X.A (pyNext (.ref it)) (fun r s1 => ∃ u, r = some u ∧
      wpAny (model P w) X.A (letOwnedTupleGo tg (.ref it) u) (fun _ s2 => ∃ x H', Inv X pins σ H' s2 ∧ RelV x u ∧ J.yld i H x H' ∧ tn (i + 1) s2.heap ∧ ∀ b ∈ fp, H' b = none) E s1) E s
  done : ∀ (X : Cx), X.prog = P → X.w = w → X.K = K → X.calm = true → ∀ (i : Nat) (pins : List (Addr × Obj)) (s : Shared) (σ : St) (H : Hp) (E : Value → Shared → Prop), Inv X pins σ H s → (∀ b ∈ fp, FpOk X pins H b) → tn i s.heap → J.stop i H →
    wpAny (model P w) X.A (pyNext (.ref it)) (fun r s1 => r = none ∧ Inv X pins σ H s1) E s
  self : ∀ (A : Around) (i : Nat) (s : Shared) (Q : Value → Shared → Prop) (E : Value → Shared → Prop), tn i s.heap → Q (.ref it) s → wpAny (model P w) A (pyIter (.ref it)) Q E s
abbrev TI := St → Hp → (It → Hp → Prop) → Prop
/-- an iterator has come -/
def PIE (X : Cx) (pins : List (Addr × Obj)) (σ : St) (tg : Expr) (R : It → Hp → Prop) (itv : Value) (s2 : Shared) : Prop :=
  ∃ (it : Addr) (fp : List Addr) (tn : Nat → Heap → Prop) (J : It) (H' : Hp), itv = .ref it ∧ Inv X pins σ H' s2 ∧ Turn X.prog X.w X.K tg J fp it tn ∧ tn 0 s2.heap ∧ (∀ b ∈ fp, FpOk X pins H' b) ∧ R J H'
def PI (X : Cx) (tg iter : Expr) (wi : TI) : Prop :=
  ∀ (pins : List (Addr × Obj)) (s : Shared) (σ : St) (H : Hp) (R : It → Hp → Prop), Inv X pins σ H s → wi σ H R →
    wpAny (model X.prog X.w) X.A (eval iter X.env) (fun v s1 => wpAny (model X.prog X.w) X.A (pyIter v) (PIE X pins σ tg R) X.xe s1) X.xe s

/-- the step ahead of the store is nothing for an iterator that keeps no tuple -/
theorem go_of {M : Model} {A : Around} {E : Value → Shared → Prop} {s : Shared} {tg : Expr} {it : Addr} {u : Value} {o : Obj} {n : String} {vs : Array Value} {Q : Unit → Shared → Prop} (ho : s.heap.get? it = some o) (hc : o.cls = .type n) (hd : o.data = .fields vs)
    (hn : ["enumerate", "zip", "dict_itemiterator", "dict_reverseitemiterator", "odict_iterator", "itertools.zip_longest", "itertools.pairwise"].contains n = false) (hQ : Q () s) : wpAny M A (letOwnedTupleGo tg (.ref it) u) Q E s := by
  unfold letOwnedTupleGo
  cases tg <;> first
    | exact wpAny_pure hQ
    | (cases u <;> first
        | exact wpAny_pure hQ
        | (refine wpAny_bind (wpAny_load ho ?_)
           rw [hc, hd]
           show wpAny M A (if (["enumerate", "zip", "dict_itemiterator", "dict_reverseitemiterator", "odict_iterator", "itertools.zip_longest", "itertools.pairwise"].contains n && vs[0]? == some (rawInt _)) = true then _ else _) Q E s
           rw [if_neg (by intro h; rw [hn, Bool.false_and] at h; cases h)]
           exact wpAny_pure hQ))

/-- the list at a, as it stands at each turn (a loop may append to it) -/
def Itl (K : PySem.W.Frag) (a : Addr) : It :=
  ⟨fun i H => ∃ xs x, SqL K H a xs ∧ xs[i]? = some x, fun i H x H' => H' = H ∧ ∀ xs, SqL K H a xs → xs[i]? = some x, fun i H => ∃ xs, SqL K H a xs ∧ xs.length ≤ i⟩
def Itt (K : PySem.W.Frag) (a : Addr) : It :=
  ⟨fun i H => ∃ xs x, SqT K H a xs ∧ xs[i]? = some x, fun i H x H' => H' = H ∧ ∀ xs, SqT K H a xs → xs[i]? = some x, fun i H => ∃ xs, SqT K H a xs ∧ xs.length ≤ i⟩
/-- lo, lo + 1, .. (n of them) -/
def Itr (lo : Int) (n : Nat) : It := ⟨fun i _ => i < n, fun i H x H' => H' = H ∧ x = .int (lo + i), fun i _ => n ≤ i⟩
theorem turn_list {P : Program} {w : World} {K : PySem.W.Frag} {tg : Expr} (a it : Addr) : Turn P w K tg (Itl K a) [it] it (fun i h => h.IsListIter it a i) where
  mem := by simp
  obj := fun i h st b hb => by
    have e : b = it := by simpa using hb
    subst e
    obtain ⟨o, e, c, d⟩ := st
    exact ⟨o, e, fun v z => by rw [d] at z; cases z⟩
  keep := fun i h h' st k => st.at fun o e => k it (by simp) o e
  item := by
    intro X hP hw hK hc i pins s σ H E I hf st hg
    subst hP hw hK
    obtain ⟨xs, x, hq, hx⟩ := hg
    obtain ⟨its, rv, p, hz⟩ := I.list hq
    obtain ⟨u, hu, ru⟩ := rv.get hx
    obtain ⟨f0, f1, f2, f3, f4, f5⟩ := hf it (by simp)
    refine wpAny_pyNext_list_item st p.isList (x := u) (by simpa using hu) fun h' st' sb => ?_
    have I1 : Inv X pins σ H { s with heap := h' } := I.turned (t' := s.toks) (fun b o hb e => (sb.2 b hb).trans e) f0 f1 f3 f4 f5
    obtain ⟨o, e, c, d⟩ := id st'
    exact ⟨u, rfl, go_of (s := { s with heap := h' }) e c d (by decide) ⟨x, H, I1, ru, ⟨rfl, fun ys hy => by rw [I.list_inj hy hq]; exact hx⟩, st', fun b hb => (hf b hb).1⟩⟩
  done := by
    intro X hP hw hK hc i pins s σ H E I hf st hg
    subst hP hw hK
    obtain ⟨xs, hq, hx⟩ := hg
    obtain ⟨its, rv, p, hz⟩ := I.list hq
    obtain ⟨f0, f1, f2, f3, f4, f5⟩ := hf it (by simp)
    have hl := rv.length
    exact wpAny_pyNext_list_end (I.ok.hd hc) st p.isList (by simp; omega) fun h' eb => ⟨rfl, I.turned (t' := s.toks) (fun b o hb e => eb b o hb e) f0 f1 f3 f4 f5⟩
  self := fun _ _ _ _ _ st h => wpAny_pyIter_listiter st h
theorem turn_tuple {P : Program} {w : World} {K : PySem.W.Frag} {tg : Expr} (a it : Addr) : Turn P w K tg (Itt K a) [it] it (fun i h => h.IsTupleIter it a i) where
  mem := by simp
  obj := fun i h st b hb => by
    have e : b = it := by simpa using hb
    subst e
    obtain ⟨o, e, c, d⟩ := st
    exact ⟨o, e, fun v z => by rw [d] at z; cases z⟩
  keep := fun i h h' st k => st.at fun o e => k it (by simp) o e
  item := by
    intro X hP hw hK hc i pins s σ H E I hf st hg
    subst hP hw hK
    obtain ⟨xs, x, hq, hx⟩ := hg
    obtain ⟨its, rv, p, hz⟩ := I.tuple hq
    obtain ⟨u, hu, ru⟩ := rv.get hx
    obtain ⟨f0, f1, f2, f3, f4, f5⟩ := hf it (by simp)
    refine wpAny_pyNext_tuple_item st (show s.heap.IsTuple a its.toArray from p) (x := u) (by simpa using hu) fun h' st' sb => ?_
    have I1 : Inv X pins σ H { s with heap := h' } := I.turned (t' := s.toks) (fun b o hb e => (sb.2 b hb).trans e) f0 f1 f3 f4 f5
    obtain ⟨o, e, c, d⟩ := id st'
    exact ⟨u, rfl, go_of (s := { s with heap := h' }) e c d (by decide) ⟨x, H, I1, ru, ⟨rfl, fun ys hy => by rw [I.tuple_inj hy hq]; exact hx⟩, st', fun b hb => (hf b hb).1⟩⟩
  done := by
    intro X hP hw hK hc i pins s σ H E I hf st hg
    subst hP hw hK
    obtain ⟨xs, hq, hx⟩ := hg
    obtain ⟨its, rv, p, hz⟩ := I.tuple hq
    obtain ⟨f0, f1, f2, f3, f4, f5⟩ := hf it (by simp)
    have hl := rv.length
    exact wpAny_pyNext_tuple_end (I.ok.hd hc) st (show s.heap.IsTuple a its.toArray from p) (by simp; omega) fun h' eb => ⟨rfl, I.turned (t' := s.toks) (fun b o hb e => eb b o hb e) f0 f1 f3 f4 f5⟩
  self := fun _ _ _ _ _ st h => wpAny_pyIter_tupleiter st h
theorem turn_range {P : Program} {w : World} {K : PySem.W.Frag} {tg : Expr} (it : Addr) (lo : Int) (n : Nat) : Turn P w K tg (Itr lo n) [it] it (fun i h => IsRangeIter h it (lo + (i : Nat) * 1) ((n : Int) - (i : Nat)) 1) where
  mem := by simp
  obj := fun i h st b hb => by
    have e : b = it := by simpa using hb
    subst e
    exact ⟨_, st, fun v z => by
      have z' : Data.fields _ = Data.cell v := z
      cases z'⟩
  keep := fun i h h' st k => k it (by simp) _ st
  item := by
    intro X hP hw hK hc i pins s σ H E I hf st hg
    subst hP hw hK
    obtain ⟨f0, f1, f2, f3, f4, f5⟩ := hf it (by simp)
    have W := Walks.range (prog := X.prog) (w := X.w) (I.ok.hd hc) it lo 1 n
    refine W.item i s _ _ hg st fun v h' tk hv st' kk => ?_
    obtain ⟨t, rfl⟩ := hv
    have I1 : Inv X pins σ H { s with heap := h', toks := tk } := I.turned (fun b o hb e => kk b o (by simpa using hb) e) f0 f1 f3 f4 f5
    refine ⟨_, rfl, go_of (s := { s with heap := h', toks := tk }) (n := "range_iterator") st' rfl rfl (by decide) ⟨.int (lo + i), H, I1, ⟨t, ?_⟩, ⟨rfl, rfl⟩, st', fun b hb => (hf b hb).1⟩⟩
    rw [Int.mul_one]
  done := by
    intro X hP hw hK hc i pins s σ H E I hf st hg
    subst hP hw hK
    obtain ⟨f0, f1, f2, f3, f4, f5⟩ := hf it (by simp)
    exact wpAny_pyNext_range_end (I.ok.hd hc) st (by have : n ≤ i := hg; omega) fun h' eb => ⟨rfl, I.turned (t' := s.toks) (fun b o hb e => eb b o hb e) f0 f1 f3 f4 f5⟩
  self := fun _ _ _ _ _ st h => wpAny_pyIter_rangeiter st h
end L2

namespace L2
open PySem PySem.Spec PyProof.Rows
section
variable {X : Cx} {tg : Expr}
def iList (K : PySem.W.Frag) (tl : TE) : TI := fun σ H R => tl σ H fun x H1 => ∃ a, x = .ref a ∧ (∃ xs, SqL K H1 a xs) ∧ R (Itl K a) H1
def iTup (K : PySem.W.Frag) (tl : TE) : TI := fun σ H R => tl σ H fun x H1 => ∃ a, x = .ref a ∧ (∃ xs, SqT K H1 a xs) ∧ R (Itt K a) H1
theorem pi_list {l : Expr} {tl : TE} (hl : PE X l tl) : PI X tg l (iList X.K tl) := by
  intro pins s σ H R I h
  refine thn (hl pins s σ H _ I h) fun v s1 ⟨x, H1, I1, r1, q1⟩ => ?_
  obtain ⟨a, e, ⟨xs, hq⟩, q⟩ := q1
  subst e
  cases r1
  obtain ⟨its, rv, p, hz⟩ := I1.list hq
  refine wpAny_pyIter_list p.isList ?_
  refine ⟨s1.heap.objs.size, [s1.heap.objs.size], _, _, H1, rfl, I1.kept (t' := s1.toks) fun b o e => Heap.get?_push_of_some _ e, turn_list a _, ⟨_, Heap.get?_push_size _ rfl, rfl, rfl⟩, fun b hb => ?_, q⟩
  have e : b = s1.heap.objs.size := by simpa using hb
  subst e
  exact I1.fpOk (Nat.le_refl _) (I1.hok.fresh (Nat.le_refl _))
theorem pi_tup {l : Expr} {tl : TE} (hl : PE X l tl) : PI X tg l (iTup X.K tl) := by
  intro pins s σ H R I h
  refine thn (hl pins s σ H _ I h) fun v s1 ⟨x, H1, I1, r1, q1⟩ => ?_
  obtain ⟨a, e, ⟨xs, hq⟩, q⟩ := q1
  subst e
  cases r1
  obtain ⟨its, rv, p, hz⟩ := I1.tuple hq
  refine wpAny_pyIter_tuple (show s1.heap.IsTuple a its.toArray from p) ?_
  refine ⟨s1.heap.objs.size, [s1.heap.objs.size], _, _, H1, rfl, I1.kept (t' := s1.toks) fun b o e => Heap.get?_push_of_some _ e, turn_tuple a _, ⟨_, Heap.get?_push_size _ rfl, rfl, rfl⟩, fun b hb => ?_, q⟩
  have e : b = s1.heap.objs.size := by simpa using hb
  subst e
  exact I1.fpOk (Nat.le_refl _) (I1.hok.fresh (Nat.le_refl _))
/-- a range object just made, walked -/
theorem range_it {pins : List (Addr × Obj)} {σ : St} {H : Hp} {s : Shared} {R : It → Hp → Prop} {E : Value → Shared → Prop} {lo hi : Int} {t u v : Tok} {tk : Nat} (I : Inv X pins σ H s) (h1 : -(2 ^ 62) ≤ lo) (h2 : lo < 2 ^ 62) (h3 : -(2 ^ 62) ≤ hi) (h4 : hi < 2 ^ 62)
    (q : R (Itr lo (hi - lo).toNat) H) : wpAny (model X.prog X.w) X.A (pyIter (.ref s.heap.objs.size)) (PIE X pins σ tg R) E { s with heap := s.heap.push { cls := .type "range", data := .fields #[.int lo t, .int hi u, .int 1 v] }, toks := tk } := by
  refine wpAny_pyIter_range (IsRange.new ..) (small_one h1 h2 h3 h4) ?_
  have I1 : Inv X pins σ H { s with heap := s.heap.push { cls := .type "range", data := .fields #[.int lo t, .int hi u, .int 1 v] }, toks := tk } := I.kept fun b o e => Heap.get?_push_of_some _ e
  refine ⟨(s.heap.push { cls := .type "range", data := .fields #[.int lo t, .int hi u, .int 1 v] }).objs.size, [(s.heap.push { cls := .type "range", data := .fields #[.int lo t, .int hi u, .int 1 v] }).objs.size], _, _, H, rfl,
    I1.kept (t' := tk) fun b o e => Heap.get?_push_of_some _ e, turn_range _ lo (hi - lo).toNat, ?_, fun b hb => ?_, q⟩
  · have e1 : lo + ((0 : Nat) : Int) * 1 = lo := by simp
    have e2 : (((hi - lo).toNat : Nat) : Int) - ((0 : Nat) : Int) = Builtin.Range.rangeSize lo hi 1 := by rw [rangeSize_one]; split <;> omega
    show IsRangeIter _ _ (lo + ((0 : Nat) : Int) * 1) ((((hi - lo).toNat : Nat) : Int) - ((0 : Nat) : Int)) 1
    rw [e1, e2]
    exact Heap.get?_push_size _ rfl
  · have e : b = (s.heap.push { cls := .type "range", data := .fields #[.int lo t, .int hi u, .int 1 v] }).objs.size := by simpa using hb
    subst e
    exact I1.fpOk (Nat.le_refl _) (I1.hok.fresh (Nat.le_refl _))
def iRng1 (ta : TA) : TI := fun σ H R => ta σ H fun vs H1 => ∃ j : Int, vs = [.int j] ∧ -(2 ^ 62) ≤ j ∧ j < 2 ^ 62 ∧ R (Itr 0 j.toNat) H1
def iRng2 (ta : TA) : TI := fun σ H R => ta σ H fun vs H1 => ∃ i j : Int, vs = [.int i, .int j] ∧ (-(2 ^ 62) ≤ i ∧ i < 2 ^ 62 ∧ -(2 ^ 62) ≤ j ∧ j < 2 ^ 62) ∧ R (Itr i (j - i).toNat) H1
theorem pi_range1 {a : Expr} {ta : TA} {p pos : Pos} (hg : Gl X "range") (hm : X.mg "range" = none) (ha : PA X [a] ta) (hs : starEach [a] X.env = [(false, eval a X.env)] := by rfl) : PI X tg (.Call (.Name "range" p) [a] [] pos) (iRng1 ta) := by
  intro pins s σ H R I h
  refine Call_ (ld_blt I hg hm boot_range (PyProof.Rows.callWith_type1 (thn (ha pos pins s σ H _ I h) fun us s1 ⟨vs, H1, I1, r1, q1⟩ => ?_) hs rfl))
  obtain ⟨j, e, q1, q2, q⟩ := q1
  subst e
  cases r1 with
  | cons r rr =>
    cases rr
    obtain ⟨t, rfl⟩ := r
    exact call_range_1 (range_it I1 (by omega) (by omega) q1 q2 (by simpa using q))
theorem pi_range2 {a b : Expr} {ta : TA} {p pos : Pos} (hg : Gl X "range") (hm : X.mg "range" = none) (ha : PA X [a, b] ta) (hs : starEach [a, b] X.env = [(false, eval a X.env), (false, eval b X.env)] := by rfl) (hs2 : starEach [b] X.env = [(false, eval b X.env)] := by rfl) :
    PI X tg (.Call (.Name "range" p) [a, b] [] pos) (iRng2 ta) := by
  intro pins s σ H R I h
  refine Call_ (ld_blt I hg hm boot_range (PyProof.Rows.callWith_type1 (thn (ha pos pins s σ H _ I h) fun us s1 ⟨vs, H1, I1, r1, q1⟩ => ?_) (by rw [hs, hs2]) (by rw [hs2]; rfl)))
  obtain ⟨i, j, e, ⟨q1, q2, q3, q4⟩, q⟩ := q1
  subst e
  cases r1 with
  | cons r rr =>
    cases rr with
    | cons r' rr =>
      cases rr
      obtain ⟨t, rfl⟩ := r
      obtain ⟨t', rfl⟩ := r'
      exact call_range_2 (range_it I1 q1 q2 q3 q4 q)

/-! ### for -/
/-- W: the invariant by the turn and a measure; N: what the body is to reach -/
def tFor (wi : TI) (g : TG) (tb : TS) : TS := fun D σ H => wi σ H fun J H1 => ∃ W : Nat → Nat → St → Hp → Prop, (∃ m, W 0 m σ H1) ∧ ∀ i m σ H, W i m σ H →
  (J.stop i H ∧ D.nx σ H) ∨ (J.go i H ∧ ∃ N : St → Hp → Prop, (∀ σ' H', N σ' H' → ∃ m', m' < m ∧ W (i + 1) m' σ' H') ∧ ∀ x H', J.yld i H x H' → g x σ H' fun σ2 H2 => tb { D with nx := N, ct := N, bk := D.nx } σ2 H2)
/-- the records at fp as they stand -/
def pinsAt (fp : List Addr) (h : Heap) : List (Addr × Obj) := fp.filterMap fun b => (h.get? b).map fun o => (b, o)
theorem mem_pinsAt {fp : List Addr} {h : Heap} {b : Addr} {o : Obj} (hb : b ∈ fp) (e : h.get? b = some o) : (b, o) ∈ pinsAt fp h := List.mem_filterMap.mpr ⟨b, hb, by rw [e]; rfl⟩
theorem of_pinsAt {fp : List Addr} {h : Heap} {p : Addr × Obj} (hp : p ∈ pinsAt fp h) : p.1 ∈ fp ∧ h.get? p.1 = some p.2 := by
  obtain ⟨b, hb, e⟩ := List.mem_filterMap.mp hp
  cases q : h.get? b with
  | none => rw [q] at e; cases e
  | some o =>
    rw [q] at e
    have e' : (b, o) = p := Option.some.inj e
    subst e'
    exact ⟨hb, q⟩
theorem Inv.pinned {pins : List (Addr × Obj)} {σ : St} {H : Hp} {s : Shared} {fp : List Addr} (I : Inv X pins σ H s) (hf : ∀ b ∈ fp, FpOk X pins H b) (ho : ∀ b ∈ fp, ∃ o, s.heap.get? b = some o ∧ ∀ v, o.data ≠ .cell v) : Inv X (pins ++ pinsAt fp s.heap) σ H s :=
  I.pins_of fun p hp => (List.mem_append.mp hp).elim (fun z => I.pin p (List.mem_append_right _ z)) fun z => by
    obtain ⟨hb, e⟩ := of_pinsAt z
    obtain ⟨f0, f1, f2, _⟩ := hf p.1 hb
    obtain ⟨o, e', d⟩ := ho p.1 hb
    rw [e] at e'; cases e'
    exact ⟨e, f0, f1, f2, d⟩
theorem Inv.unpinned {pins pl : List (Addr × Obj)} {σ : St} {H : Hp} {s : Shared} (I : Inv X (pins ++ pl) σ H s) : Inv X pins σ H s := I.pins_of fun p hp => I.pin p (List.mem_append_right _ (List.mem_append_left _ hp))
theorem ps_for {iter : Expr} {body : List Stmt} {wi : TI} {g : TG} {tb : TS} {pos : Pos} (hp : PassesOwn (model X.prog X.w) X.A X.env X.xe) (hc : X.calm = true) (hi : PI X tg iter wi) (hg : PG X tg g) (hb : PSs X body tb)
    (hs : ∀ x, foldedSetIterable iter X.env x = pure x := by intro _; rfl) : PS X (.For tg iter body [] pos) (tFor wi g tb) := by
  intro pins s σ H D I h
  refine wpAny_For (thn (hi pins s σ H _ I h) fun v s1 h1 => thn h1 fun itv s2 h2 => ?_) hs
  obtain ⟨it, fp, tn, J, H2, e, I2, T, st2, f2, W, ⟨m0, w0⟩, turn⟩ := h2
  subst e
  -- what stays true of the iterator's objects through the loop
  have stat : ∀ {H' : Hp}, (∀ b ∈ fp, H' b = none) → ∀ b ∈ fp, FpOk X pins H' b := fun hn b hb => ⟨hn b hb, (f2 b hb).2⟩
  refine codeAny_forLoop_any (fun n s' => ∃ i σ' H', Inv X pins σ' H' s' ∧ tn i s'.heap ∧ (∀ b ∈ fp, H' b = none) ∧ W i n σ' H') ?_ m0 ⟨0, σ, H2, I2, st2, fun b hb => (f2 b hb).1, w0⟩
  rintro n s3 ⟨i, σ3, H3, I3, st3, fr3, w3⟩
  rcases turn i n σ3 H3 w3 with ⟨stop, qn⟩ | ⟨go, N, hN, step⟩
  · refine wpAny_passesOwn hp (thn (T.done X rfl rfl rfl hc i pins s3 σ3 H3 X.xe I3 (stat fr3) st3 stop) fun r s4 ⟨hr, I4⟩ => ?_)
    subst hr
    exact wpAny_execs_nil ⟨σ3, H3, I4, qn⟩
  · refine wpAny_passesOwn hp (thn (T.item X rfl rfl rfl hc i pins s3 σ3 H3 X.xe I3 (stat fr3) st3 go) fun r s4 ⟨u, hr, h4⟩ => ?_)
    subst hr
    refine wpAny_passesOwn hp (thn h4 fun _ s5 ⟨x, H5, I5, r5, y5, st5, fr5⟩ => ?_)
    have I5' := I5.pinned (stat fr5) (T.obj _ _ st5)
    refine wpAny_passesOwn hp (thn (hg _ s5 σ3 H5 x u _ I5' r5 (step x H5 y5)) fun _ s6 ⟨σ6, H6, I6, q6⟩ => ?_)
    refine wpAny_passesOwn hp (thn (hb _ s6 σ6 H6 _ I6 q6) fun f s7 q7 => ?_)
    have again : ∀ {σ7 : St} {H7 : Hp}, Inv X (pins ++ pinsAt fp s5.heap) σ7 H7 s7 → N σ7 H7 → ∃ m, m < n ∧ ∃ i σ' H', Inv X pins σ' H' s7 ∧ tn i s7.heap ∧ (∀ b ∈ fp, H' b = none) ∧ W i m σ' H' := fun {σ7 H7} I7 n7 => by
      obtain ⟨m', hm, w7⟩ := hN σ7 H7 n7
      refine ⟨m', hm, i + 1, σ7, H7, I7.unpinned, T.keep _ _ _ st5 fun b hb o e => (I7.pin (b, o) (List.mem_append_right _ (List.mem_append_right _ (mem_pinsAt hb e)))).1, fun b hb => ?_, w7⟩
      obtain ⟨o, e, d⟩ := T.obj _ _ st5 b hb
      exact (I7.pin (b, o) (List.mem_append_right _ (List.mem_append_right _ (mem_pinsAt hb e)))).2.1
    cases f with
    | next => obtain ⟨σ7, H7, I7, n7⟩ := q7; exact again I7 n7
    | cont => obtain ⟨σ7, H7, I7, n7⟩ := q7; exact again I7 n7
    | brk => obtain ⟨σ7, H7, I7, q7⟩ := q7; exact ⟨σ7, H7, I7.unpinned, q7⟩
    | ret v => obtain ⟨x7, σ7, H7, I7, r7, q7⟩ := q7; exact ⟨x7, σ7, H7, I7.unpinned, r7, q7⟩
end

/-! ### the forms one uses -/
/-- over a list that the body leaves as it is -/
theorem for_list {K : PySem.W.Frag} {a : Addr} {xs : List V} {g : TG} {tb : TS} {D : Ends} {σ : St} {H : Hp} (Pv : Nat → St → Hp → Prop) (h0 : Pv 0 σ H) (hl : ∀ i σ H, i ≤ xs.length → Pv i σ H → SqL K H a xs)
    (hs : ∀ i x σ H, xs[i]? = some x → Pv i σ H → g x σ H fun σ2 H2 => tb { D with nx := Pv (i + 1), ct := Pv (i + 1), bk := D.nx } σ2 H2) (hd : ∀ σ H, Pv xs.length σ H → D.nx σ H) :
    ∃ W : Nat → Nat → St → Hp → Prop, (∃ m, W 0 m σ H) ∧ ∀ i m σ H, W i m σ H →
      ((Itl K a).stop i H ∧ D.nx σ H) ∨ ((Itl K a).go i H ∧ ∃ N : St → Hp → Prop, (∀ σ' H', N σ' H' → ∃ m', m' < m ∧ W (i + 1) m' σ' H') ∧ ∀ x H', (Itl K a).yld i H x H' → g x σ H' fun σ2 H2 => tb { D with nx := N, ct := N, bk := D.nx } σ2 H2) := by
  refine ⟨fun i m σ H => m = xs.length - i ∧ i ≤ xs.length ∧ Pv i σ H, ⟨xs.length, by simp, Nat.zero_le _, h0⟩, ?_⟩
  rintro i m σ H ⟨rfl, hi, p⟩
  have q := hl i σ H hi p
  by_cases hlt : i < xs.length
  · refine .inr ⟨⟨xs, xs[i], q, by simp [hlt]⟩, Pv (i + 1), fun σ' H' p' => ⟨xs.length - (i + 1), by omega, rfl, hlt, p'⟩, fun x H' y => ?_⟩
    obtain ⟨e, y⟩ := y
    subst e
    exact hs i x σ _ (y xs q) p
  · have e : i = xs.length := by omega
    subst e
    exact .inl ⟨⟨xs, q, Nat.le_refl _⟩, hd σ H p⟩
theorem for_tup {K : PySem.W.Frag} {a : Addr} {xs : List V} {g : TG} {tb : TS} {D : Ends} {σ : St} {H : Hp} (Pv : Nat → St → Hp → Prop) (h0 : Pv 0 σ H) (hl : ∀ i σ H, i ≤ xs.length → Pv i σ H → SqT K H a xs)
    (hs : ∀ i x σ H, xs[i]? = some x → Pv i σ H → g x σ H fun σ2 H2 => tb { D with nx := Pv (i + 1), ct := Pv (i + 1), bk := D.nx } σ2 H2) (hd : ∀ σ H, Pv xs.length σ H → D.nx σ H) :
    ∃ W : Nat → Nat → St → Hp → Prop, (∃ m, W 0 m σ H) ∧ ∀ i m σ H, W i m σ H →
      ((Itt K a).stop i H ∧ D.nx σ H) ∨ ((Itt K a).go i H ∧ ∃ N : St → Hp → Prop, (∀ σ' H', N σ' H' → ∃ m', m' < m ∧ W (i + 1) m' σ' H') ∧ ∀ x H', (Itt K a).yld i H x H' → g x σ H' fun σ2 H2 => tb { D with nx := N, ct := N, bk := D.nx } σ2 H2) := by
  refine ⟨fun i m σ H => m = xs.length - i ∧ i ≤ xs.length ∧ Pv i σ H, ⟨xs.length, by simp, Nat.zero_le _, h0⟩, ?_⟩
  rintro i m σ H ⟨rfl, hi, p⟩
  have q := hl i σ H hi p
  by_cases hlt : i < xs.length
  · refine .inr ⟨⟨xs, xs[i], q, by simp [hlt]⟩, Pv (i + 1), fun σ' H' p' => ⟨xs.length - (i + 1), by omega, rfl, hlt, p'⟩, fun x H' y => ?_⟩
    obtain ⟨e, y⟩ := y
    subst e
    exact hs i x σ _ (y xs q) p
  · have e : i = xs.length := by omega
    subst e
    exact .inl ⟨⟨xs, q, Nat.le_refl _⟩, hd σ H p⟩
theorem for_range {lo : Int} {n : Nat} {g : TG} {tb : TS} {D : Ends} {σ : St} {H : Hp} (Pv : Nat → St → Hp → Prop) (h0 : Pv 0 σ H)
    (hs : ∀ i σ H, i < n → Pv i σ H → g (.int (lo + i)) σ H fun σ2 H2 => tb { D with nx := Pv (i + 1), ct := Pv (i + 1), bk := D.nx } σ2 H2) (hd : ∀ σ H, Pv n σ H → D.nx σ H) :
    ∃ W : Nat → Nat → St → Hp → Prop, (∃ m, W 0 m σ H) ∧ ∀ i m σ H, W i m σ H →
      ((Itr lo n).stop i H ∧ D.nx σ H) ∨ ((Itr lo n).go i H ∧ ∃ N : St → Hp → Prop, (∀ σ' H', N σ' H' → ∃ m', m' < m ∧ W (i + 1) m' σ' H') ∧ ∀ x H', (Itr lo n).yld i H x H' → g x σ H' fun σ2 H2 => tb { D with nx := N, ct := N, bk := D.nx } σ2 H2) := by
  refine ⟨fun i m σ H => m = n - i ∧ i ≤ n ∧ Pv i σ H, ⟨n, by simp, Nat.zero_le _, h0⟩, ?_⟩
  rintro i m σ H ⟨rfl, hi, p⟩
  by_cases hlt : i < n
  · refine .inr ⟨hlt, Pv (i + 1), fun σ' H' p' => ⟨n - (i + 1), by omega, rfl, hlt, p'⟩, fun x H' y => ?_⟩
    obtain ⟨e, y⟩ := y
    subst e y
    exact hs i σ _ hlt p
  · have e : i = n := by omega
    subst e
    exact .inl ⟨Nat.le_refl _, hd σ H p⟩
/-- while, by a word and a measure of the state -/
theorem while_by {c : TT} {tb : TS} {D : Ends} {σ : St} {H : Hp} (Pv : St → Hp → Prop) (μ : St → Hp → Nat) (h0 : Pv σ H)
    (hs : ∀ σ H, Pv σ H → c σ H fun b H1 => if b = true then tb { D with nx := fun σ' H' => Pv σ' H' ∧ μ σ' H' < μ σ H, ct := fun σ' H' => Pv σ' H' ∧ μ σ' H' < μ σ H, bk := D.nx } σ H1 else D.nx σ H1)
    (mono : ∀ σ H Q Q', (∀ b H1, Q b H1 → Q' b H1) → c σ H Q → c σ H Q') : tWhile c tb D σ H := by
  refine ⟨fun m σ H => m = μ σ H ∧ Pv σ H, ⟨_, rfl, h0⟩, ?_⟩
  rintro m σ H ⟨rfl, p⟩
  refine mono σ H _ _ (fun b H1 q => ?_) (hs σ H p)
  cases b with
  | true => exact ⟨_, fun σ' H' ⟨p', l⟩ => ⟨_, l, rfl, p'⟩, q⟩
  | false => exact q
end L2

namespace L2
open PySem PySem.Spec PyProof.Rows

abbrev R2 := V → V → Hp → VK → Prop
/-- a two-place operation on values: f is binaryOp op, inplaceOp op or compareOp op -/
def OpR (X : Cx) (f : Value → Value → Sem Value) (r : R2) : Prop :=
  ∀ (pins : List (Addr × Obj)) (s : Shared) (σ : St) (H : Hp) (x y : V) (v u : Value) (Q : VK), Inv X pins σ H s → RelV x v → RelV y u → r x y H Q →
    wpAny (model X.prog X.w) X.A (f v u) (EP X pins σ Q) X.xe s
/-- a one-place operation -/
def UnR (X : Cx) (f : Value → Sem Value) (r : V → Hp → VK → Prop) : Prop :=
  ∀ (pins : List (Addr × Obj)) (s : Shared) (σ : St) (H : Hp) (x : V) (v : Value) (Q : VK), Inv X pins σ H s → RelV x v → r x H Q →
    wpAny (model X.prog X.w) X.A (f v) (EP X pins σ Q) X.xe s
/-- a call of a value that is known (a builtin, a type) with values -/
def CallR (X : Cx) (f : Value) (r : List V → Hp → VK → Prop) : Prop :=
  ∀ (pins : List (Addr × Obj)) (s : Shared) (σ : St) (H : Hp) (xs : List V) (us : List Value) (Q : VK), Inv X pins σ H s → Vals xs us → r xs H Q →
    wpAny (model X.prog X.w) X.A (call f us) (EP X pins σ Q) X.xe s
/-- a value's truth -/
def TruR (X : Cx) (r : V → Hp → (Bool → Hp → Prop) → Prop) : Prop :=
  ∀ (pins : List (Addr × Obj)) (s : Shared) (σ : St) (H : Hp) (x : V) (v : Value) (Q : Bool → Hp → Prop), Inv X pins σ H s → RelV x v → r x H Q →
    wpAny (model X.prog X.w) X.A (truthy v) (TP X pins σ Q) X.xe s

def tOp (r : R2) (ta tb : TE) : TE := fun σ H Q => ta σ H fun x H1 => tb σ H1 fun y H2 => r x y H2 Q
def tUn (r : V → Hp → VK → Prop) (ta : TE) : TE := fun σ H Q => ta σ H fun x H1 => r x H1 Q
/-- ints in, under C, and a value out -/
def rI (C : Int → Int → Prop) (g : Int → Int → V) : R2 := fun x y H Q => ∃ i j, x = .int i ∧ y = .int j ∧ C i j ∧ Q (g i j) H
def rI0 (g : Int → Int → V) : R2 := fun x y H Q => ∃ i j, x = .int i ∧ y = .int j ∧ Q (g i j) H
def rU (g : Int → V) : V → Hp → VK → Prop := fun x H Q => ∃ i, x = .int i ∧ Q (g i) H

section
variable {X : Cx} {a b c : Expr} {ta tb tc : TE} {pos : Pos}

theorem binT (ha : PE X a ta) (hb : PE X b tb) {pins : List (Addr × Obj)} {s : Shared} {σ : St} {H : Hp} {R : V → V → Hp → Prop} (I : Inv X pins σ H s)
    (h : ta σ H fun x H1 => tb σ H1 fun y H2 => R x y H2) {Q : Value → Shared → Prop} {f : Value → Value → Sem Value}
    (hf : ∀ v u s2 x y H2, Inv X pins σ H2 s2 → RelV x v → RelV y u → R x y H2 → wpAny (model X.prog X.w) X.A (f v u) Q X.xe s2) :
    wpAny (model X.prog X.w) X.A (eval a X.env) (fun v s₁ => wpAny (model X.prog X.w) X.A (eval b X.env) (fun u s₂ => wpAny (model X.prog X.w) X.A (f v u) Q X.xe s₂) X.xe s₁) X.xe s := by
  refine thn (ha pins s σ H _ I h) fun v s1 ⟨x, H1, I1, r1, q1⟩ => ?_
  refine thn (hb pins s1 σ H1 _ I1 q1) fun u s2 ⟨y, H2, I2, r2, q2⟩ => ?_
  exact hf v u s2 x y H2 I2 r1 r2 q2

theorem pe_op {op : Operator} {r : R2} (ho : OpR X (binaryOp op) r) (ha : PE X a ta) (hb : PE X b tb) : PE X (.BinOp a op b pos) (tOp r ta tb) := by
  intro pins s σ H Q I h
  exact wpAny_BinOp (binT ha hb I h fun v u s2 x y H2 I2 rx ry q => ho pins s2 σ H2 x y v u Q I2 rx ry q)
theorem pe_un {op : UnaryOp} {r : V → Hp → VK → Prop} (ho : UnR X (unaryOp op) r) (ha : PE X a ta) : PE X (.UnaryOp op a pos) (tUn r ta) := by
  intro pins s σ H Q I h
  exact UnaryOp_ (thn (ha pins s σ H _ I h) fun v s1 ⟨x, H1, I1, r1, q1⟩ => ho pins s1 σ H1 x v Q I1 r1 q1)
/-- a op= e at a name: the name's slot i -/
theorem augR {op : Operator} {r : R2} (ho : OpR X (inplaceOp op) r) {pins : List (Addr × Obj)} {s : Shared} {σ : St} {H : Hp} {x y : V} {v u : Value} {Q : VK} (I : Inv X pins σ H s)
    (rx : RelV x v) (ry : RelV y u) (q : r x y H Q) : wpAny (model X.prog X.w) X.A (inplaceOp op v u) (EP X pins σ Q) X.xe s := ho pins s σ H x y v u Q I rx ry q

/-! ### ints -/
theorem opI {f : Value → Value → Sem Value} {C : Int → Int → Prop} {g : Int → Int → Int}
    (rule : ∀ (i j : Int) (t u : Tok) (s : Shared) (Q : Value → Shared → Prop) (E : Value → Shared → Prop), C i j → Q (.int (g i j) s.toks) { s with toks := s.toks + 1 } → wpAny (model X.prog X.w) X.A (f (.int i t) (.int j u)) Q E s) :
    OpR X f (rI C fun i j => .int (g i j)) := by
  intro pins s σ H x y v u Q I rx ry h
  obtain ⟨i, j, rfl, rfl, hc, q⟩ := h
  obtain ⟨t, rfl⟩ := rx
  obtain ⟨t', rfl⟩ := ry
  exact rule i j t t' s _ _ hc ⟨.int (g i j), H, I.tok _, ⟨_, rfl⟩, q⟩
theorem opI0 {f : Value → Value → Sem Value} {g : Int → Int → Int}
    (rule : ∀ (i j : Int) (t u : Tok) (s : Shared) (Q : Value → Shared → Prop) (E : Value → Shared → Prop), Q (.int (g i j) s.toks) { s with toks := s.toks + 1 } → wpAny (model X.prog X.w) X.A (f (.int i t) (.int j u)) Q E s) :
    OpR X f (rI0 fun i j => .int (g i j)) := by
  intro pins s σ H x y v u Q I rx ry h
  obtain ⟨i, j, rfl, rfl, q⟩ := h
  obtain ⟨t, rfl⟩ := rx
  obtain ⟨t', rfl⟩ := ry
  exact rule i j t t' s _ _ ⟨.int (g i j), H, I.tok _, ⟨_, rfl⟩, q⟩
theorem opB0 {f : Value → Value → Sem Value} {g : Int → Int → Bool}
    (rule : ∀ (i j : Int) (t u : Tok) (s : Shared) (Q : Value → Shared → Prop) (E : Value → Shared → Prop), Q (.bool (g i j)) s → wpAny (model X.prog X.w) X.A (f (.int i t) (.int j u)) Q E s) :
    OpR X f (rI0 fun i j => .bl (g i j)) := by
  intro pins s σ H x y v u Q I rx ry h
  obtain ⟨i, j, rfl, rfl, q⟩ := h
  obtain ⟨t, rfl⟩ := rx
  obtain ⟨t', rfl⟩ := ry
  exact rule i j t t' s _ _ ⟨.bl (g i j), H, I, rfl, q⟩

def CDiv (i j : Int) : Prop := 0 < j ∧ j < 1073741824
def CDivN (i j : Int) : Prop := j ≠ 0 ∧ j.natAbs < 1073741824
def CPow (i j : Int) : Prop := 0 ≤ j ∧ j ≤ 1000000 ∧ i.natAbs < 2 ^ 64
def CMul (i j : Int) : Prop := (-(2 ^ 64) < i ∧ i < 2 ^ 64) ∨ (-(2 ^ 64) < j ∧ j < 2 ^ 64)
theorem CMul.ok {i j : Int} (h : CMul i j) : IntMulOk i j := by
  rcases h with ⟨h1, h2⟩ | ⟨h1, h2⟩
  · exact .of_left (intBits_le_64 h1 h2)
  · exact .of_right (intBits_le_64 h1 h2)
theorem two_pow_nn (k : Nat) : (0 : Int) ≤ 2 ^ k := by
  rw [two_pow_cast]
  exact Int.natCast_nonneg _

theorem op_add : OpR X (binaryOp .Add) (rI0 fun i j => .int (i + j)) := opI0 fun _ _ _ _ _ _ _ q => add_int q
theorem op_sub : OpR X (binaryOp .Sub) (rI0 fun i j => .int (i - j)) := opI0 fun _ _ _ _ _ _ _ q => sub_int q
theorem op_mul : OpR X (binaryOp .Mult) (rI CMul fun i j => .int (i * j)) := opI fun _ _ _ _ _ _ _ hc q => mul_int q hc.ok
/-- // by a positive divisor -/
theorem op_fdiv : OpR X (binaryOp .FloorDiv) (rI CDiv fun i j => .int (i / j)) := opI fun i j _ _ _ _ _ hc q => by
  have h1 : (0 : Int) < j := hc.1
  have h2 : j < 1073741824 := hc.2
  exact floordiv_int (by omega) (by rw [Int.fdiv_eq_ediv_of_nonneg i (by omega)]; exact q) (.inl (PyProof.noPylong_small (by omega)))
theorem op_fdivN : OpR X (binaryOp .FloorDiv) (rI CDivN fun i j => .int (i.fdiv j)) := opI fun _ _ _ _ _ _ _ hc q => floordiv_int hc.1 q (.inl (PyProof.noPylong_small hc.2))
/-- % by a positive divisor of any size -/
theorem op_mod : OpR X (binaryOp .Mod) (rI (fun _ j => 0 < j) fun i j => .int (i % j)) := opI fun i j _ _ _ _ _ hc q => by
  have h1 : (0 : Int) < j := hc
  exact mod_int' (by omega) (by rw [Int.fmod_eq_emod_of_nonneg i (by omega)]; exact q)
theorem op_modN : OpR X (binaryOp .Mod) (rI (fun _ j => j ≠ 0) fun i j => .int (i.fmod j)) := opI fun _ _ _ _ _ _ _ hc q => mod_int' hc q
theorem op_pow : OpR X (binaryOp .Pow) (rI CPow fun i j => .int (i ^ j.toNat)) := opI fun _ _ _ _ _ _ _ hc q => pow_int_small hc.1 hc.2.1 hc.2.2 q
theorem op_shl : OpR X (binaryOp .LShift) (rI CPow fun i j => .int (i * 2 ^ j.toNat)) := opI fun _ _ _ _ _ _ _ hc q => lshift_int_small hc.1 hc.2.1 hc.2.2 q
theorem op_shr : OpR X (binaryOp .RShift) (rI (fun _ j => 0 ≤ j) fun i j => .int (i / 2 ^ j.toNat)) := opI fun i j _ _ _ _ _ hc q =>
  rshift_int hc (by rw [Int.fdiv_eq_ediv_of_nonneg i (two_pow_nn _)]; exact q)
theorem op_and : OpR X (binaryOp .BitAnd) (rI0 fun i j => .int (Builtin.bitAnd i j)) := opI0 fun _ _ _ _ _ _ _ q => and_int q
theorem op_or : OpR X (binaryOp .BitOr) (rI0 fun i j => .int (Builtin.bitOr i j)) := opI0 fun _ _ _ _ _ _ _ q => or_int q
theorem op_xor : OpR X (binaryOp .BitXor) (rI0 fun i j => .int (Builtin.bitXor i j)) := opI0 fun _ _ _ _ _ _ _ q => xor_int q

theorem iop_add : OpR X (inplaceOp .Add) (rI0 fun i j => .int (i + j)) := opI0 fun _ _ _ _ _ _ _ q => iadd_int q
theorem iop_sub : OpR X (inplaceOp .Sub) (rI0 fun i j => .int (i - j)) := opI0 fun _ _ _ _ _ _ _ q => isub_int q
theorem iop_mul : OpR X (inplaceOp .Mult) (rI CMul fun i j => .int (i * j)) := opI fun _ _ _ _ _ _ _ hc q => imul_int q hc.ok
theorem iop_fdiv : OpR X (inplaceOp .FloorDiv) (rI CDiv fun i j => .int (i / j)) := opI fun i j _ _ _ _ _ hc q => by
  have h1 : (0 : Int) < j := hc.1
  have h2 : j < 1073741824 := hc.2
  exact ifloordiv_int (by omega) (by rw [Int.fdiv_eq_ediv_of_nonneg i (by omega)]; exact q) (.inl (PyProof.noPylong_small (by omega)))
theorem iop_mod : OpR X (inplaceOp .Mod) (rI (fun _ j => 0 < j) fun i j => .int (i % j)) := opI fun i j _ _ _ _ _ hc q => by
  have h1 : (0 : Int) < j := hc
  exact imod_int (by omega) (by rw [Int.fmod_eq_emod_of_nonneg i (by omega)]; exact q)
theorem iop_shl : OpR X (inplaceOp .LShift) (rI CPow fun i j => .int (i * 2 ^ j.toNat)) := opI fun _ _ _ _ _ _ _ hc q => ilshift_int_small hc.1 hc.2.1 hc.2.2 q
theorem iop_shr : OpR X (inplaceOp .RShift) (rI (fun _ j => 0 ≤ j) fun i j => .int (i / 2 ^ j.toNat)) := opI fun i j _ _ _ _ _ hc q =>
  irshift_int hc (by rw [Int.fdiv_eq_ediv_of_nonneg i (two_pow_nn _)]; exact q)
theorem iop_and : OpR X (inplaceOp .BitAnd) (rI0 fun i j => .int (Builtin.bitAnd i j)) := opI0 fun _ _ _ _ _ _ _ q => iand_int q
theorem iop_or : OpR X (inplaceOp .BitOr) (rI0 fun i j => .int (Builtin.bitOr i j)) := opI0 fun _ _ _ _ _ _ _ q => ior_int q
theorem iop_xor : OpR X (inplaceOp .BitXor) (rI0 fun i j => .int (Builtin.bitXor i j)) := opI0 fun _ _ _ _ _ _ _ q => ixor_int q

theorem unI {f : Value → Sem Value} {g : Int → Int}
    (rule : ∀ (i : Int) (t : Tok) (s : Shared) (Q : Value → Shared → Prop) (E : Value → Shared → Prop), Q (.int (g i) s.toks) { s with toks := s.toks + 1 } → wpAny (model X.prog X.w) X.A (f (.int i t)) Q E s) :
    UnR X f (rU fun i => .int (g i)) := by
  intro pins s σ H x v Q I rx h
  obtain ⟨i, rfl, q⟩ := h
  obtain ⟨t, rfl⟩ := rx
  exact rule i t s _ _ ⟨.int (g i), H, I.tok _, ⟨_, rfl⟩, q⟩
theorem un_neg : UnR X (unaryOp .USub) (rU fun i => .int (-i)) := unI fun _ _ _ _ _ q => neg_int q
theorem un_inv : UnR X (unaryOp .Invert) (rU fun i => .int (Builtin.bitNot i)) := unI fun _ _ _ _ _ q => invert_int q

/-! ### bools among ints: n += (a < b) -/
theorem op_add_ib : OpR X (binaryOp .Add) (fun x y H Q => ∃ i k, x = .int i ∧ y = .bl k ∧ Q (.int (i + b2i k)) H) := by
  intro pins s σ H x y v u Q I rx ry h
  obtain ⟨i, k, rfl, rfl, q⟩ := h
  obtain ⟨t, rfl⟩ := rx
  cases ry
  exact add_int_bool ⟨.int (i + b2i k), H, I.tok _, ⟨_, rfl⟩, q⟩
end

/-! ### comparisons -/
/-- the scalars that == tells apart as data does -/
def scal : V → V → Bool
  | .non, .non => true | .non, .int _ => true | .int _, .non => true | .non, .bl _ => true | .bl _, .non => true | .non, .str _ => true | .str _, .non => true
  | .int _, .int _ => true | .bl _, .bl _ => true | .str _, .str _ => true | .byt _, .byt _ => true
  | .int _, .str _ => true | .str _, .int _ => true | .bl _, .str _ => true | .str _, .bl _ => true
  | _, _ => false
def rEq : R2 := fun x y H Q => scal x y = true ∧ Q (.bl (decide (x = y))) H
def rNe : R2 := fun x y H Q => scal x y = true ∧ Q (.bl (!decide (x = y))) H

theorem dec_int {i j : Int} : decide (V.int i = V.int j) = (i == j) := by
  rw [Bool.eq_iff_iff]
  simp
theorem dec_bl {i j : Bool} : decide (V.bl i = V.bl j) = (i == j) := by
  rw [Bool.eq_iff_iff]
  simp
theorem dec_str {i j : Str} : decide (V.str i = V.str j) = (i == j) := by
  rw [Bool.eq_iff_iff]
  simp
theorem dec_byt {i j : Array UInt8} : decide (V.byt i = V.byt j) = (i.toList == j.toList) := by
  rw [Bool.eq_iff_iff]
  cases i
  cases j
  simp

section
variable {X : Cx} {a b c : Expr} {ta tb tc : TE} {pos : Pos}
theorem fin_bl {pins : List (Addr × Obj)} {σ : St} {H : Hp} {s : Shared} {Q : VK} {k k' : Bool} (I : Inv X pins σ H s) (q : Q (.bl k) H) (e : k = k') : EP X pins σ Q (.bool k') s := by
  subst e
  exact ⟨.bl k, H, I, rfl, q⟩
theorem op_eq : OpR X (compareOp .Eq) rEq := by
  intro pins s σ H x y v u Q I rx ry h
  obtain ⟨hs, q⟩ := h
  cases x with
  | non =>
    cases rx
    cases y with
    | non => cases ry; exact PySem.EqNone.eq_none_none (fin_bl I q (by simp))
    | bl j => cases ry; exact PySem.EqNone.eq_none_bool (fin_bl I q (by simp))
    | int j => obtain ⟨t', rfl⟩ := ry; exact PySem.EqNone.eq_none_int (fin_bl I q (by simp))
    | str j => obtain ⟨t', rfl⟩ := ry; exact PySem.EqNone.eq_none_str (fin_bl I q (by simp))
    | _ => exact absurd (show false = true from hs) Bool.false_ne_true
  | bl i =>
    cases rx
    cases y with
    | non => cases ry; exact PySem.EqNone.eq_bool_none (fin_bl I q (by simp))
    | bl j => cases ry; exact eq_bool (fin_bl I q dec_bl)
    | str j => obtain ⟨t', rfl⟩ := ry; exact PySem.EqMixed.eq_bool_str (fin_bl I q (by simp))
    | _ => exact absurd (show false = true from hs) Bool.false_ne_true
  | int i =>
    obtain ⟨t, rfl⟩ := rx
    cases y with
    | non => cases ry; exact PySem.EqNone.eq_int_none (fin_bl I q (by simp))
    | int j => obtain ⟨t', rfl⟩ := ry; exact eq_int (fin_bl I q dec_int)
    | str j => obtain ⟨t', rfl⟩ := ry; exact PySem.EqMixed.eq_int_str (fin_bl I q (by simp))
    | _ => exact absurd (show false = true from hs) Bool.false_ne_true
  | str i =>
    obtain ⟨t, rfl⟩ := rx
    cases y with
    | non => cases ry; exact PySem.EqNone.eq_str_none (fin_bl I q (by simp))
    | bl j => cases ry; exact PySem.EqMixed.eq_str_bool (fin_bl I q (by simp))
    | int j => obtain ⟨t', rfl⟩ := ry; exact PySem.EqMixed.eq_str_int (fin_bl I q (by simp))
    | str j => obtain ⟨t', rfl⟩ := ry; exact eq_str (fin_bl I q dec_str)
    | _ => exact absurd (show false = true from hs) Bool.false_ne_true
  | byt i =>
    obtain ⟨t, rfl⟩ := rx
    cases y with
    | byt j => obtain ⟨t', rfl⟩ := ry; exact PySem.W.eq_bytes (fin_bl I q dec_byt)
    | _ => exact absurd (show false = true from hs) Bool.false_ne_true
  | _ => cases y <;> exact absurd (show false = true from hs) Bool.false_ne_true
theorem op_ne : OpR X (compareOp .NotEq) rNe := by
  intro pins s σ H x y v u Q I rx ry h
  obtain ⟨hs, q⟩ := h
  cases x with
  | non =>
    cases rx
    cases y with
    | non => cases ry; exact PySem.EqNone.ne_none_none (fin_bl I q (by simp))
    | bl j => cases ry; exact PySem.EqNone.ne_none_bool (fin_bl I q (by simp))
    | int j => obtain ⟨t', rfl⟩ := ry; exact PySem.EqNone.ne_none_int (fin_bl I q (by simp))
    | str j => obtain ⟨t', rfl⟩ := ry; exact PySem.EqNone.ne_none_str (fin_bl I q (by simp))
    | _ => exact absurd (show false = true from hs) Bool.false_ne_true
  | bl i =>
    cases rx
    cases y with
    | non => cases ry; exact PySem.EqNone.ne_bool_none (fin_bl I q (by simp))
    | bl j => cases ry; exact ne_bool (fin_bl I q (congrArg not dec_bl))
    | str j => obtain ⟨t', rfl⟩ := ry; exact PySem.EqMixed.ne_bool_str (fin_bl I q (by simp))
    | _ => exact absurd (show false = true from hs) Bool.false_ne_true
  | int i =>
    obtain ⟨t, rfl⟩ := rx
    cases y with
    | non => cases ry; exact PySem.EqNone.ne_int_none (fin_bl I q (by simp))
    | int j => obtain ⟨t', rfl⟩ := ry; exact ne_int (fin_bl I q (congrArg not dec_int))
    | str j => obtain ⟨t', rfl⟩ := ry; exact PySem.EqMixed.ne_int_str (fin_bl I q (by simp))
    | _ => exact absurd (show false = true from hs) Bool.false_ne_true
  | str i =>
    obtain ⟨t, rfl⟩ := rx
    cases y with
    | non => cases ry; exact PySem.EqNone.ne_str_none (fin_bl I q (by simp))
    | bl j => cases ry; exact PySem.EqMixed.ne_str_bool (fin_bl I q (by simp))
    | int j => obtain ⟨t', rfl⟩ := ry; exact PySem.EqMixed.ne_str_int (fin_bl I q (by simp))
    | str j => obtain ⟨t', rfl⟩ := ry; exact ne_str (fin_bl I q (congrArg not dec_str))
    | _ => exact absurd (show false = true from hs) Bool.false_ne_true
  | byt i =>
    obtain ⟨t, rfl⟩ := rx
    cases y with
    | byt j => obtain ⟨t', rfl⟩ := ry; exact PySem.W.ne_bytes (fin_bl I q (congrArg not dec_byt))
    | _ => exact absurd (show false = true from hs) Bool.false_ne_true
  | _ => cases y <;> exact absurd (show false = true from hs) Bool.false_ne_true

theorem op_lt : OpR X (compareOp .Lt) (rI0 fun i j => .bl (decide (i < j))) := opB0 fun _ _ _ _ _ _ _ q => lt_int q
theorem op_le : OpR X (compareOp .LtE) (rI0 fun i j => .bl (decide (i ≤ j))) := opB0 fun _ _ _ _ _ _ _ q => le_int q
theorem op_gt : OpR X (compareOp .Gt) (rI0 fun i j => .bl (decide (j < i))) := opB0 fun _ _ _ _ _ _ _ q => gt_int q
theorem op_ge : OpR X (compareOp .GtE) (rI0 fun i j => .bl (decide (j ≤ i))) := opB0 fun _ _ _ _ _ _ _ q => ge_int q
theorem op_lt_str : OpR X (compareOp .Lt) (fun x y H Q => ∃ i j, x = .str i ∧ y = .str j ∧ Q (.bl (decide (i.cps.toList < j.cps.toList))) H) := by
  intro pins s σ H x y v u Q I rx ry h
  obtain ⟨i, j, rfl, rfl, q⟩ := h
  obtain ⟨t, rfl⟩ := rx
  obtain ⟨t', rfl⟩ := ry
  exact lt_str (fin_bl I q rfl)
/-- the one string within the other -/
theorem op_in_str : OpR X (compareOp .In) (fun x y H Q => ∃ i j, x = .str i ∧ y = .str j ∧ Q (.bl (!(Builtin.Str.occurrences j i 0 j.length 1).isEmpty)) H) := by
  intro pins s σ H x y v u Q I rx ry h
  obtain ⟨i, j, rfl, rfl, q⟩ := h
  obtain ⟨t, rfl⟩ := rx
  obtain ⟨t', rfl⟩ := ry
  exact in_str (fin_bl I q rfl)

/-- is None, is not None: the right side a value none -/
theorem op_isN : OpR X (compareOp .Is) (fun x y H Q => y = .non ∧ Q (.bl (decide (x = .non))) H) := by
  intro pins s σ H x y v u Q I rx ry h
  obtain ⟨rfl, q⟩ := h
  cases ry
  refine is_none_gen (fin_bl I q ?_)
  cases x <;> first
    | (cases rx; rfl)
    | (obtain ⟨t, rfl⟩ := rx; rfl)
theorem op_notN : OpR X (compareOp .IsNot) (fun x y H Q => y = .non ∧ Q (.bl (!decide (x = .non))) H) := by
  intro pins s σ H x y v u Q I rx ry h
  obtain ⟨rfl, q⟩ := h
  cases ry
  refine isnot_none_gen (fin_bl I q ?_)
  cases x <;> first
    | (cases rx; rfl)
    | (obtain ⟨t, rfl⟩ := rx; rfl)

theorem op_notin_str : OpR X (compareOp .NotIn) (fun x y H Q => ∃ i j, x = .str i ∧ y = .str j ∧ Q (.bl (!(!(Builtin.Str.occurrences j i 0 j.length 1).isEmpty))) H) := by
  intro pins s σ H x y v u Q I rx ry h
  obtain ⟨i, j, rfl, rfl, q⟩ := h
  obtain ⟨t, rfl⟩ := rx
  obtain ⟨t', rfl⟩ := ry
  exact notIn_str (fin_bl I q rfl)
/-- is, is not of two objects that are tracked lists or instances -/
def isObj : HO → Bool
  | .lst _ => true
  | .ins _ _ _ => true
  | _ => false
theorem obj_there {pins : List (Addr × Obj)} {s : Shared} {σ : St} {H : Hp} {a : Addr} {o : HO} (I : Inv X pins σ H s) (h : H a = some o) (p : isObj o = true) : ∃ ob, s.heap.get? a = some ob ∧ ob.cls ≠ .type "tuple" := by
  cases o with
  | lst xs =>
    obtain ⟨_, its, n, _, e⟩ : xs.length ≤ sizeLine ∧ ∃ (its : List Value) (n : Nat), Vals xs its ∧ s.heap.get? a = some { cls := .type "list", data := .seq its.toArray n } := I.hok a _ h
    exact ⟨_, e, (by show Value.type "list" ≠ .type "tuple"; decide +kernel)⟩
  | ins C dx fs =>
    have x := I.hok a _ h
    obtain ⟨_, _, _, e, _⟩ := x
    exact ⟨_, e, (by show Value.ref C ≠ .type "tuple"; exact fun z => by cases z)⟩
  | _ => exact absurd (show false = true from p) Bool.false_ne_true
theorem op_is_ref : OpR X (compareOp .Is) (fun x y H Q => ∃ a b oa ob, x = .ref a ∧ y = .ref b ∧ H a = some oa ∧ isObj oa = true ∧ H b = some ob ∧ isObj ob = true ∧ Q (.bl (decide (a = b))) H) := by
  intro pins s σ H x y v u Q I rx ry h
  obtain ⟨a, b, oa, ob, rfl, rfl, ha, pa, hb, pb, q⟩ := h
  cases rx
  cases ry
  obtain ⟨o1, e1, n1⟩ := obj_there I ha pa
  obtain ⟨o2, e2, _⟩ := obj_there I hb pb
  by_cases z : a = b
  · subst z
    exact wpAny_is_ref_self (fin_bl I q (by simp))
  · exact wpAny_is_ref_other z e1 e2 n1 (fin_bl I q (by simp [z]))
theorem op_isnot_ref : OpR X (compareOp .IsNot) (fun x y H Q => ∃ a b oa ob, x = .ref a ∧ y = .ref b ∧ H a = some oa ∧ isObj oa = true ∧ H b = some ob ∧ isObj ob = true ∧ Q (.bl (!decide (a = b))) H) := by
  intro pins s σ H x y v u Q I rx ry h
  obtain ⟨a, b, oa, ob, rfl, rfl, ha, pa, hb, pb, q⟩ := h
  cases rx
  cases ry
  obtain ⟨o1, e1, n1⟩ := obj_there I ha pa
  obtain ⟨o2, e2, _⟩ := obj_there I hb pb
  by_cases z : a = b
  · subst z
    exact wpAny_isNot_ref_self (fin_bl I q (by simp))
  · exact wpAny_isNot_ref_other z e1 e2 n1 (fin_bl I q (by simp [z]))

/-- two rules for one operation: by cases -/
theorem OpR.or {f : Value → Value → Sem Value} {r r' : R2} (h : OpR X f r) (h' : OpR X f r') : OpR X f (fun x y H Q => r x y H Q ∨ r' x y H Q) := by
  intro pins s σ H x y v u Q I rx ry q
  rcases q with q | q
  · exact h pins s σ H x y v u Q I rx ry q
  · exact h' pins s σ H x y v u Q I rx ry q

theorem nomark (b : Expr) {op : CmpOp} (h : op ≠ .In := by decide) (h2 : op ≠ .NotIn := by decide) : behindInMarks op b = false := by
  have e1 : (op == CmpOp.In) = false := by cases op <;> first | rfl | exact absurd rfl h
  have e2 : (op == CmpOp.NotIn) = false := by cases op <;> first | rfl | exact absurd rfl h2
  cases b <;> simp [behindInMarks, e1, e2]
/-- a comparison as a value; hm: nomark b, or (for in, not in) by with_unfolding_all rfl -/
theorem pe_cmpR {op : CmpOp} {r : R2} (ho : OpR X (compareOp op) r) (ha : PE X a ta) (hb : PE X b tb) (hm : behindInMarks op b = false) : PE X (.Compare a [op] [b] pos) (tOp r ta tb) := by
  intro pins s σ H Q I h
  exact wpAny_Compare1 (binT ha hb I h fun v u s2 x y H2 I2 rx ry q => ho pins s2 σ H2 x y v u Q I2 rx ry q) hm
/-- a reading of a value as a test -/
def tTest (t : TE) : TT := fun σ H Q => t σ H fun x H' => ∃ k, x = .bl k ∧ Q k H'
theorem pt_cmpR {op : CmpOp} {r : R2} (ho : OpR X (compareOp op) r) (ha : PE X a ta) (hb : PE X b tb) (hm : behindInMarks op b = false) : PT X (.Compare a [op] [b] pos) (tTest (tOp r ta tb)) := by
  intro pins s σ H Q I h
  refine wpAny_isTrue_Compare1 (thn (ha pins s σ H _ I h) fun v s1 ⟨x, H1, I1, r1, q1⟩ => thn (hb pins s1 σ H1 _ I1 q1) fun u s2 ⟨y, H2, I2, r2, q2⟩ =>
    thn (ho pins s2 σ H2 x y v u _ I2 r1 r2 q2) fun c s3 ⟨z, H3, I3, r3, k, e, q3⟩ => ?_) hm
  subst e
  cases r3
  exact wpAny_truthy_bool ⟨H3, I3, q3⟩
/-- a op1 b op2 c -/
def tChain (r r' : R2) (ta tb tc : TE) : TE := fun σ H Q => ta σ H fun x H1 => tb σ H1 fun y H2 => r x y H2 fun z H3 => ∃ k, z = .bl k ∧
  (if k = true then tc σ H3 fun w' H4 => r' y w' H4 Q else Q (.bl false) H3)
theorem pe_chain {op op' : CmpOp} {r r' : R2} (ho : OpR X (compareOp op) r) (ho' : OpR X (compareOp op') r') (ha : PE X a ta) (hb : PE X b tb) (hc : PE X c tc)
    (hm : lastMarks [op, op'] [b, c] = false := by with_unfolding_all rfl) : PE X (.Compare a [op, op'] [b, c] pos) (tChain r r' ta tb tc) := by
  intro pins s σ H Q I h
  refine Compare_chain (thn (ha pins s σ H _ I h) fun v s1 ⟨x, H1, I1, r1, q1⟩ => chain_link (thn (hb pins s1 σ H1 _ I1 q1) fun u s2 ⟨y, H2, I2, r2, q2⟩ =>
    thn (ho pins s2 σ H2 x y v u _ I2 r1 r2 q2) fun d s3 ⟨z, H3, I3, r3, k, e, q3⟩ => ?_)) hm
  subst e
  cases r3
  refine wpAny_truthy_bool ?_
  cases k with
  | false => exact ite_ff ⟨.bl false, H3, I3, rfl, q3⟩
  | true => exact ite_tt (chain_last (thn (hc pins s3 σ H3 _ I3 q3) fun w' s4 ⟨z', H4, I4, r4, q4⟩ => ho' pins s4 σ H4 y z' u w' Q I4 r2 r4 q4))
theorem pt_chain {op op' : CmpOp} {r r' : R2} (ho : OpR X (compareOp op) r) (ho' : OpR X (compareOp op') r') (ha : PE X a ta) (hb : PE X b tb) (hc : PE X c tc)
    (hm : lastMarks [op, op'] [b, c] = false := by with_unfolding_all rfl) : PT X (.Compare a [op, op'] [b, c] pos) (tTest (tChain r r' ta tb tc)) := by
  intro pins s σ H Q I h
  refine isTrue_chain (thn (ha pins s σ H _ I h) fun v s1 ⟨x, H1, I1, r1, q1⟩ => test_link (thn (hb pins s1 σ H1 _ I1 q1) fun u s2 ⟨y, H2, I2, r2, q2⟩ =>
    thn (ho pins s2 σ H2 x y v u _ I2 r1 r2 q2) fun d s3 ⟨z, H3, I3, r3, k, e, q3⟩ => ?_)) hm
  subst e
  cases r3
  refine wpAny_truthy_bool ?_
  cases k with
  | false =>
    obtain ⟨k', e', q'⟩ := q3
    cases e'
    exact ite_ff ⟨H3, I3, q'⟩
  | true =>
    refine ite_tt (test_last (thn (hc pins s3 σ H3 _ I3 q3) fun w' s4 ⟨z', H4, I4, r4, q4⟩ => thn (ho' pins s4 σ H4 y z' u w' _ I4 r2 r4 q4) fun d' s5 ⟨z2, H5, I5, r5, k2, e2, q5⟩ => ?_))
    subst e2
    cases r5
    exact wpAny_truthy_bool ⟨H5, I5, q5⟩

/-! ### truth -/
/-- a value's truth by the abstract heap -/
def TruV (K : PySem.W.Frag) (x : V) (H : Hp) (k : Bool) : Prop :=
  match x with
  | .non => k = false
  | .bl b => k = b
  | .int i => k = (i != 0)
  | .str y => y.length ≤ sizeLine ∧ k = ((y.length : Int) != 0)
  | .byt y => y.size ≤ sizeLine ∧ k = ((y.size : Int) != 0)
  | .ref p => (∃ xs, SqL K H p xs ∧ k = !xs.isEmpty) ∨ (∃ xs, SqT K H p xs ∧ k = !xs.isEmpty) ∨ ∃ kvs, H p = some (.dK kvs) ∧ k = !kvs.isEmpty
  | _ => False
theorem isEmpty_kv {κ : Type} {kvs : List (κ × V)} {vs : List (κ × Value)} (r : KV kvs vs) : (!vs.isEmpty) = !kvs.isEmpty := by
  cases r <;> rfl
theorem isEmpty_of {xs : List V} {its : List Value} (r : Vals xs its) : (!its.toArray.isEmpty) = !xs.isEmpty := by
  cases r <;> simp
theorem line63 : (sizeLine : Nat) < 2 ^ 63 := by rw [sizeLine_eq]; decide
theorem tru_ok : TruR X (fun x H Q => ∃ k, TruV X.K x H k ∧ Q k H) := by
  intro pins s σ H x v Q I rx h
  obtain ⟨k, e, q⟩ := h
  have hl := line63
  have hs : sizeLine = 16777216 := sizeLine_eq
  cases x with
  | non =>
    cases rx
    have e' : k = false := e
    subst e'
    exact truthy_none ⟨H, I, q⟩
  | bl b =>
    cases rx
    have e' : k = b := e
    subst e'
    exact wpAny_truthy_bool ⟨H, I, q⟩
  | int i =>
    obtain ⟨t, rfl⟩ := rx
    have e' : k = (i != 0) := e
    subst e'
    exact PySem.P.truthy_int ⟨H, I, q⟩
  | str y =>
    obtain ⟨t, rfl⟩ := rx
    obtain ⟨hy, e'⟩ : y.length ≤ sizeLine ∧ k = ((y.length : Int) != 0) := e
    subst e'
    exact PySem.P.truthy_str (by omega) ⟨H, I.tok _, q⟩
  | byt y =>
    obtain ⟨t, rfl⟩ := rx
    obtain ⟨hy, e'⟩ : y.size ≤ sizeLine ∧ k = ((y.size : Int) != 0) := e
    subst e'
    exact PySem.W.truthy_bytes (by omega) ⟨H, I.tok _, q⟩
  | ref p =>
    cases rx
    have e' : (∃ xs, SqL X.K H p xs ∧ k = !xs.isEmpty) ∨ (∃ xs, SqT X.K H p xs ∧ k = !xs.isEmpty) ∨ ∃ kvs, H p = some (.dK kvs) ∧ k = !kvs.isEmpty := e
    rcases e' with ⟨xs, hx, e'⟩ | ⟨xs, hx, e'⟩ | ⟨kvs, hx, e'⟩
    · subst e'
      obtain ⟨its, r, pl, hz⟩ := I.list hx
      have hlen := r.length
      exact wpAny_truthy_list pl.isList (by simp only [List.size_toArray]; omega) ⟨H, I.tok _, by rw [isEmpty_of r]; exact q⟩
    · subst e'
      obtain ⟨its, r, pl, hz⟩ := I.tuple hx
      have hlen := r.length
      exact truthy_tuple pl (by simp only [List.size_toArray]; omega) ⟨H, I.tok _, by rw [isEmpty_of r]; exact q⟩
    · subst e'
      obtain ⟨hz, hS, vs, r, m⟩ : kvs.length ≤ sizeLine ∧ (p == sysModules) = false ∧ ∃ vs, KV kvs vs ∧ s.heap.DictOf (mixKind X.prog X.w) p vs := I.hok p _ hx
      have hlen : kvs.length = vs.length := Paired.length r
      exact wpAny_truthy_dict hS m (by omega) ⟨H, I.tok _, by rw [isEmpty_kv r]; exact q⟩
  | _ => exact (show False from e).elim
/-- any expression whose test is its value's truth (a name, a call, a subscript, a field ..: he by fun _ => rfl) -/
theorem pt_truth (ha : PE X a ta) (he : ∀ whole, isTrue a X.env whole = (do let v ← whole; standAt a.pos; holding [v] (truthy v))) :
    PT X a (fun σ H Q => ta σ H fun x H' => ∃ k, TruV X.K x H' k ∧ Q k H') := by
  intro pins s σ H Q I h
  exact isTrue_plain (thn (ha pins s σ H _ I h) fun v s1 ⟨x, H1, I1, r1, q1⟩ => tru_ok pins s1 σ H1 x v Q I1 r1 q1) (he _)

/-! ### strs and bytes -/
theorem pe_byt {x : List UInt8} {k : Nat} : PE X (.Constant (.bytes x) k pos) (fun _ H Q => Q (.byt x.toArray) H) := fun _ _ _ H _ I h => PySem.W.Constant_bytes ⟨.byt x.toArray, H, I.tok _, ⟨_, rfl⟩, h⟩
theorem op_add_str : OpR X (binaryOp .Add) (fun x y H Q => ∃ i j, x = .str i ∧ y = .str j ∧ i.length + j.length ≤ sizeLine ∧ Q (.str (i ++ j)) H) := by
  intro pins s σ H x y v u Q I rx ry h
  obtain ⟨i, j, rfl, rfl, hz, q⟩ := h
  obtain ⟨t, rfl⟩ := rx
  obtain ⟨t', rfl⟩ := ry
  exact add_str (fun t' tk => ⟨.str (i ++ j), H, I.tok _, ⟨_, rfl⟩, q⟩) hz
theorem iop_add_str : OpR X (inplaceOp .Add) (fun x y H Q => ∃ i j, x = .str i ∧ y = .str j ∧ i.length + j.length ≤ sizeLine ∧ Q (.str (i ++ j)) H) := by
  intro pins s σ H x y v u Q I rx ry h
  obtain ⟨i, j, rfl, rfl, hz, q⟩ := h
  obtain ⟨t, rfl⟩ := rx
  obtain ⟨t', rfl⟩ := ry
  exact iadd_str (fun t' tk => ⟨.str (i ++ j), H, I.tok _, ⟨_, rfl⟩, q⟩) hz
theorem op_add_byt : OpR X (binaryOp .Add) (fun x y H Q => ∃ i j, x = .byt i ∧ y = .byt j ∧ i.size + j.size ≤ 16777216 ∧ Q (.byt (i ++ j)) H) := by
  intro pins s σ H x y v u Q I rx ry h
  obtain ⟨i, j, rfl, rfl, hz, q⟩ := h
  obtain ⟨t, rfl⟩ := rx
  obtain ⟨t', rfl⟩ := ry
  exact PySem.W.KBy.add_bytes hz (fun t' tk => ⟨.byt (i ++ j), H, I.tok _, ⟨_, rfl⟩, q⟩)

def PlainIxT (b : Expr) : Prop := ∀ o i, subscripted b false o i = operate [o, i] (getItem o i)
/-- s[i], 0 ≤ i < len -/
theorem pe_item_str (ha : PE X a ta) (hb : PE X b tb) (hs : PlainIxT b) :
    PE X (.Subscript a b pos) (tOp (fun x y H Q => ∃ z i c, x = .str z ∧ y = .int i ∧ 0 ≤ i ∧ i < 2 ^ 63 ∧ i < z.length ∧ z.cps[i.toNat]? = some c ∧ Q (.str ⟨#[c]⟩) H) ta tb) := by
  intro pins s σ H Q I h
  refine Subscript_ (binT ha hb I h fun v u s2 x y H2 I2 rx ry q => ?_)
  obtain ⟨z, i, c, rfl, rfl, h0, h63, h1, hc, q⟩ := q
  obtain ⟨t, rfl⟩ := rx
  obtain ⟨t', rfl⟩ := ry
  have e : seqIndex? i z.length = some i.toNat := PySem.StrLaws.seqIndex_nonneg h0 h1
  exact tail_any (typeIs_str s2 z t) slot_str_getitem.lookup (getItem_str (c := c) (by
    have e1 : decide (i < -(2 ^ 63 : Int)) = false := decide_eq_false (by omega)
    have e2 : decide (i ≥ 2 ^ 63) = false := decide_eq_false (by omega)
    rw [e1, e2] <;> rfl) (by rw [e]; exact hc) ⟨.str ⟨#[c]⟩, H2, I2.tok _, ⟨_, rfl⟩, q⟩) (hs _ _)
/-- b[i], 0 ≤ i < len -/
theorem pe_item_byt (ha : PE X a ta) (hb : PE X b tb) (hs : PlainIxT b) :
    PE X (.Subscript a b pos) (tOp (fun x y H Q => ∃ (z : List UInt8) (i : Int), x = .byt z.toArray ∧ y = .int i ∧ z.length ≤ sizeLine ∧ 0 ≤ i ∧ i < z.length ∧ Q (.int ((z.getD i.toNat 0).toNat : Nat)) H) ta tb) := by
  intro pins s σ H Q I h
  refine Subscript_ (binT ha hb I h fun v u s2 x y H2 I2 rx ry q => ?_)
  obtain ⟨z, i, rfl, rfl, hz, h0, h1, q⟩ := q
  obtain ⟨t, rfl⟩ := rx
  obtain ⟨t', rfl⟩ := ry
  have hl : sizeLine = 16777216 := sizeLine_eq
  exact tail_any (PySem.W.typeIs_bytes s2 z.toArray t) PySem.W.FB.slot_bytes_getitem.lookup (PySem.W.getItem_bytes (by omega) h0 h1 ⟨.int ((z.getD i.toNat 0).toNat : Nat), H2, I2.tok _, ⟨_, rfl⟩, q⟩) (hs _ _)

/-! ### scalar builtins, by CallR -/
theorem vals1 {x : V} {us : List Value} (r : Vals [x] us) : ∃ u, us = [u] ∧ RelV x u := by
  cases r with
  | cons r1 r2 => cases r2; exact ⟨_, rfl, r1⟩
theorem vals2 {x y : V} {us : List Value} (r : Vals [x, y] us) : ∃ u w', us = [u, w'] ∧ RelV x u ∧ RelV y w' := by
  cases r with
  | cons r1 r2 =>
    cases r2 with
    | cons r3 r4 => cases r4; exact ⟨_, _, rfl, r1, r3⟩
theorem call_abs : CallR X (.builtin "abs") (fun xs H Q => ∃ i, xs = [.int i] ∧ Q (.int (if i < 0 then -i else i)) H) := by
  intro pins s σ H xs us Q I r h
  obtain ⟨i, rfl, q⟩ := h
  obtain ⟨u, rfl, t, rfl⟩ := vals1 r
  exact call_abs_int fun u tk => ⟨.int (if i < 0 then -i else i), H, I.tok _, ⟨_, rfl⟩, q⟩
theorem call_max2 (hc : X.calm = true) : CallR X (.builtin "max") (fun xs H Q => ∃ i j, xs = [.int i, .int j] ∧ Q (.int (if j > i then j else i)) H) := by
  intro pins s σ H xs us Q I r h
  obtain ⟨i, j, rfl, q⟩ := h
  obtain ⟨u, w', rfl, ⟨t, rfl⟩, ⟨t', rfl⟩⟩ := vals2 r
  refine max_two_ints (I.ok.hd hc) fun h' tk k => ⟨_, H, I.kept k, ?_, q⟩
  by_cases hj : j > i
  · rw [if_pos hj, if_pos hj]; exact ⟨_, rfl⟩
  · rw [if_neg hj, if_neg hj]; exact ⟨_, rfl⟩
theorem call_min2 (hc : X.calm = true) : CallR X (.builtin "min") (fun xs H Q => ∃ i j, xs = [.int i, .int j] ∧ Q (.int (if j < i then j else i)) H) := by
  intro pins s σ H xs us Q I r h
  obtain ⟨i, j, rfl, q⟩ := h
  obtain ⟨u, w', rfl, ⟨t, rfl⟩, ⟨t', rfl⟩⟩ := vals2 r
  refine min_two_ints (I.ok.hd hc) fun h' tk k => ⟨_, H, I.kept k, ?_, q⟩
  by_cases hj : j < i
  · rw [if_pos hj, if_pos hj]; exact ⟨_, rfl⟩
  · rw [if_neg hj, if_neg hj]; exact ⟨_, rfl⟩
theorem call_int1 : CallR X (.type "int") (fun xs H Q => (∃ i, xs = [.int i] ∧ Q (.int i) H) ∨ ∃ k, xs = [.bl k] ∧ Q (.int (if k then 1 else 0)) H) := by
  intro pins s σ H xs us Q I r h
  rcases h with ⟨i, rfl, q⟩ | ⟨k, rfl, q⟩
  · obtain ⟨u, rfl, t, rfl⟩ := vals1 r
    exact call_int_int ⟨.int i, H, I, ⟨_, rfl⟩, q⟩
  · obtain ⟨u, rfl, r1⟩ := vals1 r
    cases r1
    exact call_int_bool ⟨.int (if k then 1 else 0), H, I.tok _, ⟨_, rfl⟩, q⟩
theorem call_bool1 : CallR X (.type "bool") (fun xs H Q => (∃ i, xs = [.int i] ∧ Q (.bl (i != 0)) H) ∨ ∃ k, xs = [.bl k] ∧ Q (.bl k) H) := by
  intro pins s σ H xs us Q I r h
  rcases h with ⟨i, rfl, q⟩ | ⟨k, rfl, q⟩
  · obtain ⟨u, rfl, t, rfl⟩ := vals1 r
    exact call_bool_int ⟨.bl (i != 0), H, I, rfl, q⟩
  · obtain ⟨u, rfl, r1⟩ := vals1 r
    cases r1
    exact call_bool_bool ⟨.bl k, H, I, rfl, q⟩
theorem call_str_int : CallR X (.type "str") (fun xs H Q => ∃ i, xs = [.int i] ∧ i.natAbs.log2 < 1920 ∧ Q (.str (toString i)) H) := by
  intro pins s σ H xs us Q I r h
  obtain ⟨i, rfl, hz, q⟩ := h
  obtain ⟨u, rfl, t, rfl⟩ := vals1 r
  exact PySem.P.str_of_int hz ⟨.str _, H, I.tok _, ⟨_, rfl⟩, q⟩
theorem call_ord : CallR X (.builtin "ord") (fun xs H Q => ∃ x, xs = [.str x] ∧ x.length = 1 ∧ Q (.int (x.cps.getD 0 0 : Nat)) H) := by
  intro pins s σ H xs us Q I r h
  obtain ⟨x, rfl, hz, q⟩ := h
  obtain ⟨u, rfl, t, rfl⟩ := vals1 r
  exact ord_of_one hz ⟨.int _, H, I.tok _, ⟨_, rfl⟩, q⟩
theorem call_chr : CallR X (.builtin "chr") (fun xs H Q => ∃ i, xs = [.int i] ∧ 0 ≤ i ∧ i ≤ 1114111 ∧ Q (.str ⟨#[i.toNat]⟩) H) := by
  intro pins s σ H xs us Q I r h
  obtain ⟨i, rfl, h0, h1, q⟩ := h
  obtain ⟨u, rfl, t, rfl⟩ := vals1 r
  exact chr_of_range h0 h1 ⟨.str _, H, I.tok _, ⟨_, rfl⟩, q⟩
/-- len of a str, a bytes, a list, a tuple -/
def LenV (K : PySem.W.Frag) (x : V) (H : Hp) (n : Nat) : Prop :=
  match x with
  | .str y => y.length ≤ sizeLine ∧ n = y.length
  | .byt y => y.size ≤ sizeLine ∧ n = y.size
  | .ref p => (∃ xs, SqL K H p xs ∧ n = xs.length) ∨ ∃ xs, SqT K H p xs ∧ n = xs.length
  | _ => False
theorem call_len : CallR X (.builtin "len") (fun xs H Q => ∃ x n, xs = [x] ∧ LenV X.K x H n ∧ Q (.int n) H) := by
  intro pins s σ H xs us Q I r h
  obtain ⟨x, n, rfl, e, q⟩ := h
  obtain ⟨u, rfl, rx⟩ := vals1 r
  have hl := line63
  have hs : sizeLine = 16777216 := sizeLine_eq
  cases x with
  | str y =>
    obtain ⟨t, rfl⟩ := rx
    obtain ⟨hy, e'⟩ : y.length ≤ sizeLine ∧ n = y.length := e
    subst e'
    exact len_str (by omega) ⟨.int _, H, I.tok _, ⟨_, rfl⟩, q⟩
  | byt y =>
    obtain ⟨t, rfl⟩ := rx
    obtain ⟨hy, e'⟩ : y.size ≤ sizeLine ∧ n = y.size := e
    subst e'
    exact PySem.W.len_bytes (by omega) ⟨.int _, H, I.tok _, ⟨_, rfl⟩, q⟩
  | ref p =>
    cases rx
    have e' : (∃ xs, SqL X.K H p xs ∧ n = xs.length) ∨ ∃ xs, SqT X.K H p xs ∧ n = xs.length := e
    rcases e' with ⟨xs, hx, e'⟩ | ⟨xs, hx, e'⟩
    · subst e'
      obtain ⟨its, r', pl, hz⟩ := I.list hx
      have hlen := r'.length
      exact Calls.call_len_list pl.isList (by simp only [List.size_toArray]; omega) ⟨.int xs.length, H, I.tok _, ⟨_, by simp only [List.size_toArray]; rw [hlen]⟩, q⟩
    · subst e'
      obtain ⟨its, r', pl, hz⟩ := I.tuple hx
      have hlen := r'.length
      exact len_tuple pl (by simp only [List.size_toArray]; omega) ⟨.int xs.length, H, I.tok _, ⟨_, by simp only [List.size_toArray]; rw [hlen]⟩, q⟩
  | _ => exact (show False from e).elim
/-- divmod: a new tuple -/
theorem call_divmod : CallR X (.builtin "divmod") (fun xs H Q => ∃ i j, xs = [.int i, .int j] ∧ CDiv i j ∧ ∀ p, H p = none → Q (.ref p) (upd H p (.tup [.int (i / j), .int (i % j)]))) := by
  intro pins s σ H xs us Q I r h
  obtain ⟨i, j, rfl, ⟨h1, h2⟩, q⟩ := h
  obtain ⟨u, w', rfl, ⟨t, rfl⟩, ⟨t', rfl⟩⟩ := vals2 r
  refine divmod_int (by omega) ?_ (.inl (PyProof.noPylong_small (by omega)))
  rw [Int.fdiv_eq_ediv_of_nonneg i (by omega), Int.fmod_eq_emod_of_nonneg i (by omega)]
  have hn : H s.heap.objs.size = none := I.hok.fresh (Nat.le_refl _)
  refine ⟨.ref s.heap.objs.size, _, ?_, rfl, q _ hn⟩
  refine I.laid (fun b o e => Heap.get?_push_of_some _ e) (Nat.le_refl _) ⟨by simp only [List.length_cons, List.length_nil]; rw [sizeLine_eq]; decide, [.int (i / j) s.toks, .int (i % j) (s.toks + 1)], .cons ⟨_, rfl⟩ (.cons ⟨_, rfl⟩ .nil), ?_⟩
  exact ⟨_, Heap.get?_push_size s.heap rfl, rfl, 0, rfl⟩
end
end L2

namespace L2
open PySem PySem.Spec PyProof.Rows

/-! ### an instance, its attributes a map -/
structure ObjM (h : Heap) (x dx C : Addr) (mA : Str → Option Value) : Prop where
  obj : h.get? x = some (PySem.W.instObj C dx)
  ns : h.Ns1 dx mA
  ne : dx ≠ x

theorem lookIn_ns {h : Heap} {dx : Addr} {mA : Str → Option Value} (n : h.Ns1 dx mA) : ∃ od, h.get? dx = some od ∧ ∀ name, PySem.W.lookIn name od = some (mA name) := by
  obtain ⟨o, es, ep, ho, hd, hk, _, hm⟩ := n
  refine ⟨o, ho, fun name => ?_⟩
  have e := hm name
  unfold nsFind findBy at e
  rw [← Array.find?_toList] at e
  unfold PySem.W.lookIn
  rw [hd]
  dsimp only
  split
  · rename_i y q
    rw [q] at e
    exact congrArg some e
  · rename_i q
    rw [q] at e
    have a : es.toList.any (·.refKey) = false := by
      rw [List.any_eq_false]
      intro y hy
      obtain ⟨z, t, hkey⟩ := hk y (Array.mem_toList_iff.mp hy)
      simp [DictEntry.refKey, hkey]
    have a' : ¬ es.toList.any (·.refKey) = true := by rw [a]; exact Bool.false_ne_true
    rw [if_neg a']
    exact congrArg some e

theorem ObjM.look {h : Heap} {x dx C : Addr} {mA : Str → Option Value} (I : ObjM h x dx C mA) : ∃ od, PySem.W.InstAt h x (PySem.W.instObj C dx) C (some od) ∧ ∀ name, PySem.W.lookIn name od = some (mA name) :=
  let ⟨od, ho, hl⟩ := lookIn_ns I.ns
  ⟨od, ⟨I.obj, rfl, rfl, ho⟩, hl⟩

section
variable {prog : Program} {w : World} {A : Around} {E : Value → Shared → Prop} {s : Shared} {K : PySem.W.Frag} {x dx C f : Addr} {mA : Str → Option Value} {name : Str} {v : Value}

theorem get_map {expr : Bool} {Q : Value → Shared → Prop} (X : K.In s.heap) (I : ObjM s.heap x dx C mA) (hg : PySem.W.plainGet K C name = true) (hh : PySem.W.hasDictIn K C = true)
    (ha : PySem.W.findIn K (.ref C) name = some none) (hv : mA name = some v) (hv' : PySem.W.handedIn v = true) (h : Q v { s with toks := s.toks + 1 }) :
    wpAny (model prog w) A (getAttr (.ref x) name expr) Q E s := by
  obtain ⟨od, J, hl⟩ := I.look
  exact PySem.W.get_value X J (PySem.W.plainGet_of hg).1 (PySem.W.findObj_own hh ha rfl (by rw [hl, hv])) hv' h

theorem get_const {expr : Bool} {a : Value} {Q : Value → Shared → Prop} (X : K.In s.heap) (I : ObjM s.heap x dx C mA) (hg : PySem.W.plainGet K C name = true) (hh : PySem.W.hasDictIn K C = true)
    (ha : PySem.W.findIn K (.ref C) name = some (some a)) (hn : PySem.W.specialIn K a "__get__" = some none) (hc : PySem.W.copiedNames.contains name = false) (hv : mA name = none) (hv' : PySem.W.handedIn a = true)
    (h : Q a { s with toks := s.toks + 1 }) : wpAny (model prog w) A (getAttr (.ref x) name expr) Q E s := by
  obtain ⟨od, J, hl⟩ := I.look
  exact PySem.W.get_value X J (PySem.W.plainGet_of hg).1 (PySem.W.findObj_cls hh ha hn hv' hc (by rw [hl, hv])) hv' h

theorem get_meth {pl : Sem Bool} {Q : Value × List Value → Shared → Prop} (X : K.In s.heap) (I : ObjM s.heap x dx C mA) (hg : PySem.W.plainGet K C name = true)
    (hf : PySem.W.findIn K (.ref C) name = some (some (.ref f))) (ht : PySem.W.isFn K (.ref f) = true) (hv : mA name = none) (h : Q (.ref f, [.ref x]) s) :
    wpAny (model prog w) A (getMethod (.ref x) name pl) Q E s := by
  obtain ⟨od, J, hl⟩ := I.look
  exact PySem.W.method_fn X J (PySem.W.plainGet_of hg).1 (PySem.W.plainGet_of hg).2 hf (beq_iff_eq.mp ht) (by show (PySem.W.lookIn name od).map (·.isSome) = some false; rw [hl, hv]; rfl) h

theorem set_map {ns : List Str} {Q : Unit → Shared → Prop} (X : K.In s.heap) (I : ObjM s.heap x dx C mA)
    (hs : PySem.W.findIn K (.ref C) "__setattr__" = some (some (.builtin "object.__setattr__"))) (hp : PySem.W.plainOver K C = true) (ht : PySem.W.takerIn K C name = some none) (hh : PySem.W.hasDictIn K C = true)
    (hw : PySem.Within mA ns) (hsz : ns.length ≤ sizeLine)
    (h : ∀ h', ObjM h' x dx C (fun y => if y = name then some v else mA y) → Heap.SameBut dx s.heap h' → Q () { s with heap := h', toks := s.toks + 2 }) :
    wpAny (model prog w) A (setAttr (.ref x) name v) Q E s := by
  obtain ⟨od, J, hl⟩ := I.look
  refine PySem.W.set_plain X J hs (PySem.W.osa_open (s := { s with toks := s.toks + 1 }) (r := none) X J hp ht fun b => ?_)
  obtain ⟨cd, hc, hd'⟩ := PySem.W.any_some hh
  have hx : s.heap.get? x = some ⟨.ref C, some dx, .plain, #[]⟩ := I.obj
  refine wpAny_bind (wpAny_pure (wpAny_bind (wpAny_bind (wpAny_loadPart hx (wpAny_bind (PySem.W.Looks.here (s := { s with toks := s.toks + 1 }) (PySem.W.looks_clsIn X hc) ?_))))))
  rw [hd']
  refine wpAny_pure (a := some dx) (wpAny_bind (wpAny_pure (wpAny_bind ?_)))
  refine wpAny_nsSet1 (s := { s with toks := s.toks + 1 }) I.ns fun h' hn2 hs2 => ?_
  obtain ⟨oD, esD, epD, hoD, hdD, hcD⟩ := hn2.count (PySem.Within.cons name v hw)
  refine wpAny_bind (wpAny_lookBehind hoD (by rw [hdD]; exact pastItsLine_dict (Nat.le_trans hcD (by rw [List.length_cons]; omega))) ?_)
  exact wpAny_pure (h _ ⟨(hs2.2 _ (Ne.symm I.ne)).trans I.obj, hn2, I.ne⟩ hs2)

/-- C(..): the dict at the heap's end, the instance behind it; then its __init__ -/
theorem make_map {R : Result → Shared → Prop} {vs : List Value} {kw : List (Str × Value)} (X : K.In s.heap) (hm : PySem.W.makesIn K C = true)
    (hi : PySem.W.findIn K (.ref C) "__init__" = some (some (.ref f))) (hf : PySem.W.typeIn K (.ref f) = some (.type "function"))
    (h : codeAny (model prog w) (A.under (.builtin "type.__call__" ⟨.ref C :: vs, kw⟩)) (.call (.ref f) ⟨.ref (s.heap.objs.size + 1) :: vs, kw⟩) (PySem.W.InitBack (s.heap.objs.size + 1) R)
      { s with heap := (s.heap.push PySem.W.emptyDict).push (PySem.W.instObj C s.heap.objs.size) }) :
    codeAny (model prog w) A (.call (.ref C) ⟨vs, kw⟩) R s := by
  obtain ⟨hh, g, d, t, os⟩ := s
  exact PySem.W.make_core (PySem.W.makes_of X hm) (PySem.W.looks_findIn X hi) (fun self => PySem.W.bind_fn X self hf) (.inl rfl) h
/-- C() where there is no __init__ but object's -/
theorem make_map0 {R : Result → Shared → Prop} (X : K.In s.heap) (hm : PySem.W.makesIn K C = true)
    (hi : PySem.W.findIn K (.ref C) "__init__" = some (some (.builtin "object.__init__")))
    (hb : ∀ self, PySem.W.Looks (model prog w) s.heap (bindSpecial (.builtin "object.__init__") self) (.builtin "object.__init__", [self]))
    (h : codeAny (model prog w) (A.under (.builtin "type.__call__" ⟨[.ref C], []⟩)) (.call (.builtin "object.__init__") ⟨[.ref (s.heap.objs.size + 1)], []⟩) (PySem.W.InitBack (s.heap.objs.size + 1) R)
      { s with heap := (s.heap.push PySem.W.emptyDict).push (PySem.W.instObj C s.heap.objs.size) }) :
    codeAny (model prog w) A (.call (.ref C) ⟨[], []⟩) R s := by
  obtain ⟨hh, g, d, t, os⟩ := s
  exact PySem.W.make_core (PySem.W.makes_of X hm) (PySem.W.looks_findIn X hi) hb (.inr ⟨rfl, rfl⟩) h
end

/-! ### the attributes as a list of pairs -/
def putF (f : Str) (v : V) : List (Str × V) → List (Str × V)
  | [] => [(f, v)]
  | (g, x) :: r => if g = f then (g, v) :: r else (g, x) :: putF f v r
theorem lookup_putF (f g : Str) (v : V) : ∀ fs : List (Str × V), (putF f v fs).lookup g = if g = f then some v else fs.lookup g
  | [] => by
    show List.lookup g [(f, v)] = _
    by_cases h : g = f
    · have hb : (g == f) = true := beq_iff_eq.mpr h
      simp only [List.lookup, hb, if_pos h]
    · have hb : (g == f) = false := beq_eq_false_iff_ne.mpr h
      simp only [List.lookup, hb, if_neg h]
  | (k, x) :: r => by
    have ih := lookup_putF f g v r
    rw [show putF f v ((k, x) :: r) = (if k = f then (k, v) :: r else (k, x) :: putF f v r) from rfl]
    by_cases hk : k = f
    · rw [if_pos hk]
      by_cases h : g = k
      · have hb : (g == k) = true := beq_iff_eq.mpr h
        simp only [List.lookup, hb, if_pos (h.trans hk)]
      · have hb : (g == k) = false := beq_eq_false_iff_ne.mpr h
        simp only [List.lookup, hb, if_neg (fun e : g = f => h (e.trans hk.symm))]
    · rw [if_neg hk]
      by_cases h : g = k
      · have hb : (g == k) = true := beq_iff_eq.mpr h
        simp only [List.lookup, hb, if_neg (fun e : g = f => hk (h.symm.trans e))]
      · have hb : (g == k) = false := beq_eq_false_iff_ne.mpr h
        simp only [List.lookup, hb]
        exact ih
theorem keys_putF (f : Str) (v : V) : ∀ fs : List (Str × V), f ∈ (putF f v fs).map (·.1) ∧ ∀ g, g ∈ fs.map (·.1) → g ∈ (putF f v fs).map (·.1)
  | [] => ⟨by simp [putF], fun g h => by simp at h⟩
  | (k, x) :: r => by
    obtain ⟨i1, i2⟩ := keys_putF f v r
    rw [show putF f v ((k, x) :: r) = (if k = f then (k, v) :: r else (k, x) :: putF f v r) from rfl]
    by_cases hk : k = f
    · rw [if_pos hk]
      subst hk
      exact ⟨by simp, fun g h => by simpa using h⟩
    · rw [if_neg hk]
      refine ⟨?_, fun g h => ?_⟩
      · rw [List.map_cons]
        exact List.mem_cons_of_mem _ i1
      · rw [List.map_cons] at h ⊢
        rcases List.mem_cons.mp h with e | e
        · exact List.mem_cons.mpr (.inl e)
        · exact List.mem_cons_of_mem _ (i2 g e)
theorem length_putF (f : Str) (v : V) : ∀ fs : List (Str × V), (putF f v fs).length ≤ fs.length + 1
  | [] => by simp [putF]
  | (k, x) :: r => by
    have ih := length_putF f v r
    rw [show putF f v ((k, x) :: r) = (if k = f then (k, v) :: r else (k, x) :: putF f v r) from rfl]
    by_cases hk : k = f
    · rw [if_pos hk, List.length_cons, List.length_cons]; omega
    · rw [if_neg hk, List.length_cons, List.length_cons]; omega

theorem RelO.some_of {v : V} {o : Option Value} (r : RelO (some v) o) : ∃ u, o = some u ∧ RelV v u := by
  cases o with
  | none => exact (show False from r).elim
  | some u => exact ⟨u, rfl, r⟩
theorem RelO.none_of {o : Option Value} (r : RelO none o) : o = none := by
  cases o with
  | none => rfl
  | some u => exact (show False from r).elim
theorem handed_of {v : V} {u : Value} (r : RelV v u) : PySem.W.handedIn u = true := by
  cases v with
  | non => cases (show u = Value.none from r); rfl
  | bl b => cases (show u = Value.bool b from r); rfl
  | int i => obtain ⟨t, e⟩ := (show ∃ t, u = Value.int i t from r); cases e; rfl
  | str x => obtain ⟨t, e⟩ := (show ∃ t, u = Value.str x t from r); cases e; rfl
  | byt b => obtain ⟨t, e⟩ := (show ∃ t, u = Value.bytes b t from r); cases e; rfl
  | flt b => obtain ⟨t, e⟩ := (show ∃ t, u = Value.float b t from r); cases e; rfl
  | ref a => cases (show u = Value.ref a from r); rfl
  | ty n => cases (show u = Value.type n from r); rfl

section
variable {P : Program} {w : World} {H H' : Hp} {h h' : Heap} {a C dx : Addr} {fs fs' : List (Str × V)}
theorem ins_get (hok : HOk P w H h) (e : H a = some (.ins C dx fs)) : ∃ mA, ObjM h a dx C mA ∧ (∀ f, RelO (fs.lookup f) (mA f)) ∧ PySem.Within mA (fs.map (·.1)) ∧ fs.length ≤ 1000 ∧ H dx = some (.own a) := by
  obtain ⟨d, z, ne, ob, mA, n, r, q⟩ := (show ObjOk P w H h a (.ins C dx fs) from hok a _ e)
  exact ⟨mA, ⟨ob, n, ne⟩, r, q, z, d⟩
end

/-! ### what of the text a class must have -/
structure Cls (K : PySem.W.Frag) (C : Addr) : Prop where
  pg : PySem.W.plainGet K C Str.empty = true
  hd : PySem.W.hasDictIn K C = true
  po : PySem.W.plainOver K C = true
  sa : PySem.W.findIn K (.ref C) "__setattr__" = some (some (.builtin "object.__setattr__"))
theorem Cls.get {K : PySem.W.Frag} {C : Addr} (c : Cls K C) (f : Str) : PySem.W.plainGet K C f = true := c.pg
/-- no class of it has the name -/
def NoAttr (K : PySem.W.Frag) (C : Addr) (f : Str) : Prop := PySem.W.findIn K (.ref C) f = some none
theorem NoAttr.taker {K : PySem.W.Frag} {C : Addr} {f : Str} (n : NoAttr K C f) : PySem.W.takerIn K C f = some none := by
  unfold PySem.W.takerIn
  rw [show PySem.W.findIn K (.ref C) f = some none from n]
  rfl
/-- a constant of the class -/
structure Con (K : PySem.W.Frag) (C : Addr) (f : Str) (v : V) (u : Value) : Prop where
  at_ : PySem.W.findIn K (.ref C) f = some (some u)
  rel : RelV v u
  get : PySem.W.specialIn K u "__get__" = some none
  cp : PySem.W.copiedNames.contains f = false
/-- a method: a plain def of the class or of one above it -/
structure Meth (K : PySem.W.Frag) (C : Addr) (m : Str) (f : Addr) : Prop where
  at_ : PySem.W.findIn K (.ref C) m = some (some (.ref f))
  fn : PySem.W.isFn K (.ref f) = true
  kp : PySem.W.keepIn K (.ref f) = true

section
variable {X : Cx} {pins : List (Addr × Obj)} {σ : St} {H : Hp} {s : Shared} {a C dx : Addr} {fs : List (Str × V)} {f : Str} {v : V} {A : Around} {E : Value → Shared → Prop}

theorem getattr_ok {b : Bool} {Q : Value → Shared → Prop} (I : Inv X pins σ H s) (e : H a = some (.ins C dx fs)) (c : Cls X.K C) (n : NoAttr X.K C f) (l : fs.lookup f = some v)
    (h : ∀ u s', Inv X pins σ H s' → RelV v u → Q u s') : wpAny (model X.prog X.w) A (getAttr (.ref a) f b) Q E s := by
  obtain ⟨mA, O, r, _, _, _⟩ := ins_get I.hok e
  obtain ⟨u, hu, ru⟩ := RelO.some_of (v := v) (o := mA f) (by rw [← l]; exact r f)
  exact get_map I.kIn O (c.get f) c.hd n hu (handed_of ru) (h u _ (I.tok _) ru)

theorem getcon_ok {b : Bool} {u : Value} {Q : Value → Shared → Prop} (I : Inv X pins σ H s) (e : H a = some (.ins C dx fs)) (c : Cls X.K C) (k : Con X.K C f v u) (l : fs.lookup f = none)
    (h : ∀ s', Inv X pins σ H s' → Q u s') : wpAny (model X.prog X.w) A (getAttr (.ref a) f b) Q E s := by
  obtain ⟨mA, O, r, _, _, _⟩ := ins_get I.hok e
  have hn : mA f = none := RelO.none_of (by rw [← l]; exact r f)
  exact get_const I.kIn O (c.get f) c.hd k.at_ k.get k.cp hn (handed_of k.rel) (h _ (I.tok _))

theorem getmeth_ok {m : Str} {g : Addr} {pl : Sem Bool} {Q : Value × List Value → Shared → Prop} (I : Inv X pins σ H s) (e : H a = some (.ins C dx fs)) (c : Cls X.K C) (k : Meth X.K C m g) (l : fs.lookup m = none)
    (h : Q (.ref g, [.ref a]) s) : wpAny (model X.prog X.w) A (getMethod (.ref a) m pl) Q E s := by
  obtain ⟨mA, O, r, _, _, _⟩ := ins_get I.hok e
  have hn : mA m = none := RelO.none_of (by rw [← l]; exact r m)
  exact get_meth I.kIn O (c.get m) k.at_ k.fn hn h

theorem setattr_ok {y : V} {u : Value} {Q : Unit → Shared → Prop} (I : Inv X pins σ H s) (e : H a = some (.ins C dx fs)) (c : Cls X.K C) (n : NoAttr X.K C f) (hl : fs.length < 1000) (ry : RelV y u)
    (h : ∀ s', Inv X pins σ (upd H a (.ins C dx (putF f y fs))) s' → Q () s') : wpAny (model X.prog X.w) A (setAttr (.ref a) f u) Q E s := by
  obtain ⟨mA, O, r, wi, _, ho⟩ := ins_get I.hok e
  have hz : (fs.map (·.1)).length ≤ sizeLine := by rw [List.length_map, sizeLine_eq]; omega
  refine set_map I.kIn O c.sa c.po n.taker c.hd wi hz fun h' O' sb => h _ ?_
  have hd : ∃ o, h'.get? dx = some o := let ⟨o, _, _, e', _⟩ := O'.ns; ⟨o, e'⟩
  refine I.write (x := a) (e := dx) (by rw [e]; exact True.intro) (.inr ho) (fun b q hb z => (sb.2 b hb).trans z) hd ?_
  refine ⟨by rw [upd_ne O.ne]; exact ho, ?_, O.ne, O'.obj, _, O'.ns, fun g => ?_, fun g hg => ?_⟩
  · have := length_putF f y fs; omega
  · show RelO ((putF f y fs).lookup g) (if g = f then some u else mA g)
    rw [lookup_putF]
    by_cases q : g = f
    · rw [if_pos q, if_pos q]; exact ry
    · rw [if_neg q, if_neg q]; exact r g
  · by_cases q : g = f
    · rw [q]; exact (keys_putF f y fs).1
    · refine (keys_putF f y fs).2 g (wi g fun z => hg ?_)
      show (if g = f then some u else mA g) = none
      rw [if_neg q]; exact z

/-- a new instance, tracked, without attributes -/
theorem Inv.made (I : Inv X pins σ H s) : Inv X pins σ (upd (upd H s.heap.objs.size (.own (s.heap.objs.size + 1))) (s.heap.objs.size + 1) (.ins C s.heap.objs.size []))
    { s with heap := (s.heap.push PySem.W.emptyDict).push (PySem.W.instObj C s.heap.objs.size) } := by
  have e1 : (s.heap.push PySem.W.emptyDict).get? s.heap.objs.size = some PySem.W.emptyDict := Heap.get?_push_size s.heap rfl
  have e2 : ((s.heap.push PySem.W.emptyDict).push (PySem.W.instObj C s.heap.objs.size)).get? (s.heap.objs.size + 1) = some (PySem.W.instObj C s.heap.objs.size) := by
    have := Heap.get?_push_size (s.heap.push PySem.W.emptyDict) (o := PySem.W.instObj C s.heap.objs.size) rfl
    rwa [Heap.size_push] at this
  have e3 : (s.heap.push PySem.W.emptyDict).Ns s.heap.objs.size (fun _ => none) := ⟨PySem.W.emptyDict, #[], _, e1, rfl, (fun e he => absurd he (by simp)), fun _ => rfl⟩
  have I1 := I.laid (a := s.heap.objs.size) (o := .own (s.heap.objs.size + 1)) (h' := s.heap.push PySem.W.emptyDict) (t' := s.toks) (fun b u q => Heap.get?_push_of_some _ q) (Nat.le_refl _) ⟨_, e1⟩
  refine I1.laid (a := s.heap.objs.size + 1) (o := .ins C s.heap.objs.size []) (t' := s.toks) (fun b u q => Heap.get?_push_of_some _ q) (Nat.le_of_eq (Heap.size_push _ _)) ?_
  have ne : s.heap.objs.size ≠ s.heap.objs.size + 1 := Nat.ne_of_lt (Nat.lt_succ_self _)
  refine ⟨by rw [upd_ne ne, upd_same], Nat.zero_le _, ne, e2, fun _ => none, (Heap.Ns1.of_empty e3).at fun o q => Heap.get?_push_of_some _ q, fun _ => True.intro, fun y hy => absurd rfl hy⟩

/-- e.f where nothing but the object is asked: through attributeBase (super) and the last hold -/
theorem attr_of {prog : Program} {w : World} {env : Env} {e : Expr} {f : Str} {pos : Pos} {s : Shared} {Q : Value → Shared → Prop} (hb : attributeBase e f env (eval e env) = eval e env)
    (h : wpAny (model prog w) A (eval e env) (fun o s₁ => wpAny (model prog w) A (getAttr o f true) Q E s₁) E s) : wpAny (model prog w) A (eval (.Attribute e f pos) env) Q E s :=
  Attribute_any_ h (by rw [arm_eval_Attribute, hb])
end

/-! ### readings and rules -/
/-- e.f, an attribute of the instance -/
def tFld (K : PySem.W.Frag) (ta : TE) (f : Str) : TE := fun σ H Q => ta σ H fun x H1 => ∃ a C dx fs v, x = .ref a ∧ H1 a = some (.ins C dx fs) ∧ Cls K C ∧ NoAttr K C f ∧ fs.lookup f = some v ∧ Q v H1
/-- e.f, a constant of the class -/
def tCon (K : PySem.W.Frag) (ta : TE) (f : Str) : TE := fun σ H Q => ta σ H fun x H1 => ∃ a C dx fs v u, x = .ref a ∧ H1 a = some (.ins C dx fs) ∧ Cls K C ∧ Con K C f v u ∧ fs.lookup f = none ∧ Q v H1
/-- e.f = value -/
def sFld (K : PySem.W.Frag) (ta tv : TE) (f : Str) : TS := fun D σ H => tv σ H fun y H1 => ta σ H1 fun x H2 => ∃ a C dx fs, x = .ref a ∧ H2 a = some (.ins C dx fs) ∧ Cls K C ∧ NoAttr K C f ∧ fs.length < 1000 ∧
  D.nx σ (upd H2 a (.ins C dx (putF f y fs)))
/-- an augmented operator on two values -/
def InOp (X : Cx) (op : Operator) (rd : V → V → Hp → VK → Prop) : Prop :=
  ∀ (pins : List (Addr × Obj)) (s : Shared) (σ : St) (H : Hp) (x y : V) (u v : Value) (Q : VK), Inv X pins σ H s → RelV x u → RelV y v → rd x y H Q → wpAny (model X.prog X.w) X.A (inplaceOp op u v) (EP X pins σ Q) X.xe s
/-- e.f op= value -/
def sFldAug (K : PySem.W.Frag) (ta tv : TE) (rd : V → V → Hp → VK → Prop) (f : Str) : TS := fun D σ H => ta σ H fun x H1 => ∃ a C dx fs v, x = .ref a ∧ H1 a = some (.ins C dx fs) ∧ Cls K C ∧ NoAttr K C f ∧ fs.lookup f = some v ∧
  tv σ H1 fun y H2 => rd v y H2 fun z H3 => ∃ dx' fs', H3 a = some (.ins C dx' fs') ∧ fs'.length < 1000 ∧ D.nx σ (upd H3 a (.ins C dx' (putF f z fs')))

section
variable {X : Cx} {o e value : Expr} {f : Str} {pos pos' tpos : Pos} {ta tv : TE}
theorem pe_fld (he : PE X e ta) (hb : attributeBase e f X.env (eval e X.env) = eval e X.env) : PE X (.Attribute e f pos) (tFld X.K ta f) := by
  intro pins s σ H Q I h
  refine attr_of hb (thn (he pins s σ H _ I h) fun u s1 ⟨x, H1, I1, rx, a, C, dx, fs, v, ex, ea, c, n, l, q⟩ => ?_)
  subst ex
  obtain rfl : u = Value.ref a := rx
  exact getattr_ok I1 ea c n l fun u' s2 I2 ru => ⟨v, H1, I2, ru, q⟩
theorem pe_con (he : PE X e ta) (hb : attributeBase e f X.env (eval e X.env) = eval e X.env) : PE X (.Attribute e f pos) (tCon X.K ta f) := by
  intro pins s σ H Q I h
  refine attr_of hb (thn (he pins s σ H _ I h) fun u s1 ⟨x, H1, I1, rx, a, C, dx, fs, v, u0, ex, ea, c, k, l, q⟩ => ?_)
  subst ex
  obtain rfl : u = Value.ref a := rx
  exact getcon_ok I1 ea c k l fun s2 I2 => ⟨v, H1, I2, k.rel, q⟩
theorem ps_fld (ha : PE X o ta) (hv : PE X value tv) (hs : swapsWith value (some (.Attribute o f pos')) pos.line X.env = pure false) : PS X (.Assign [.Attribute o f pos'] value pos) (sFld X.K ta tv f) := by
  intro pins s σ H D I h
  refine plainObj_wpAny_Assign_Attribute (thn (hv pins s σ H _ I h) fun u s1 ⟨y, H1, I1, ry, q⟩ => thn (ha pins s1 σ H1 _ I1 q) fun ov s2 ⟨x, H2, I2, rx, a, C, dx, fs, ex, ea, c, n, l, q2⟩ => ?_) hs
  subst ex
  obtain rfl : ov = Value.ref a := rx
  exact setattr_ok I2 ea c n l ry fun s3 I3 => ⟨σ, _, I3, q2⟩
theorem ps_fldaug {op : Operator} {rd : V → V → Hp → VK → Prop} (ha : PE X o ta) (hv : PE X value tv) (hop : InOp X op rd) : PS X (.AugAssign (.Attribute o f tpos) op value pos) (sFldAug X.K ta tv rd f) := by
  intro pins s σ H D I h
  refine wpAny_AugAssign_AttributeAny (thn (ha pins s σ H _ I h) fun ov s1 ⟨x, H1, I1, rx, a, C, dx, fs, v, ex, ea, c, n, l, q⟩ => ?_)
  subst ex
  obtain rfl : ov = Value.ref a := rx
  refine getattr_ok I1 ea c n l fun u s2 I2 ru => thn (hv pins s2 σ H1 _ I2 q) fun w3 s3 ⟨y, H2, I3, ry, q3⟩ => thn (hop pins s3 σ H2 v y u w3 _ I3 ru ry q3) fun w4 s4 ⟨z, H3, I4, rz, dx', fs', ea', l', q4⟩ => ?_
  exact setattr_ok I4 ea' c n l' rz fun s5 I5 => ⟨σ, _, I5, q4⟩
def rAdd : V → V → Hp → VK → Prop := fun x y H Q => ∃ i j, x = .int i ∧ y = .int j ∧ Q (.int (i + j)) H
def rSub : V → V → Hp → VK → Prop := fun x y H Q => ∃ i j, x = .int i ∧ y = .int j ∧ Q (.int (i - j)) H
theorem in_add : InOp X .Add rAdd := by
  rintro pins s σ H x y u v Q I rx ry ⟨i, j, rfl, rfl, q⟩
  obtain ⟨t, rfl⟩ := (show ∃ t, u = Value.int i t from rx)
  obtain ⟨t', rfl⟩ := (show ∃ t', v = Value.int j t' from ry)
  exact PyProof.Rows.iadd_int ⟨.int (i + j), H, I.tok _, ⟨_, rfl⟩, q⟩
theorem in_sub : InOp X .Sub rSub := by
  rintro pins s σ H x y u v Q I rx ry ⟨i, j, rfl, rfl, q⟩
  obtain ⟨t, rfl⟩ := (show ∃ t, u = Value.int i t from rx)
  obtain ⟨t', rfl⟩ := (show ∃ t', v = Value.int j t' from ry)
  exact PyProof.Rows.isub_int ⟨.int (i - j), H, I.tok _, ⟨_, rfl⟩, q⟩

/-- what is between an instance and its method: the tree of a method call -/
theorem methcall_of {pl : Sem Bool} {m : Str} {apos : Pos} {args : List Expr} {pins : List (Addr × Obj)} {s : Shared} {σ : St} {H : Hp} {Q : Value → Shared → Prop} {te : TE} (he : PE X e te) (I : Inv X pins σ H s)
    (h : te σ H fun x H1 => ∃ a C dx fs g, x = .ref a ∧ H1 a = some (.ins C dx fs) ∧ Cls X.K C ∧ Meth X.K C m g ∧ fs.lookup m = none ∧
      ∀ s1, Inv X pins σ H1 s1 → wpAny (model X.prog X.w) X.A (callWith pos (.ref g) [.ref a] (backTo pos (starEach args X.env)) (backToKw pos (keywordEach [] X.env))) Q X.xe s1)
    (ht : eval (.Call (.Attribute e m apos) args [] pos) X.env = (do
      let ov ← eval e X.env
      standAt apos.atName
      let (f, first) ← holding [ov] (getMethod ov m pl)
      callWith pos f first (backTo pos (starEach args X.env)) (backToKw pos (keywordEach [] X.env)))) :
    wpAny (model X.prog X.w) X.A (eval (.Call (.Attribute e m apos) args [] pos) X.env) Q X.xe s := by
  refine PySem.W.methodCall_KW (pl := pl) (thn (he pins s σ H _ I h) fun u s1 ⟨x, H1, I1, rx, a, C, dx, fs, g, ex, ea, c, k, l, q⟩ => ?_) ht
  subst ex
  obtain rfl : u = Value.ref a := rx
  exact getmeth_ok I1 ea c k l (q s1 I1)
end

/-! ### isinstance -/
section
variable {X : Cx} {pins : List (Addr × Obj)} {σ : St} {H : Hp} {s : Shared} {A : Around} {E : Value → Shared → Prop} {Q : Value → Shared → Prop} {c : Value} {b : Bool}
/-- the type of a value, as the fragment's deciders take it; for an instance its class -/
inductive TyOf (K : PySem.W.Frag) (H : Hp) : V → Value → Prop where
  | non : TyOf K H .non (.type "NoneType")
  | bl (x : Bool) : TyOf K H (.bl x) (.type "bool")
  | int (i : Int) : TyOf K H (.int i) (.type "int")
  | str (x : Str) : TyOf K H (.str x) (.type "str")
  | flt (x : UInt64) : TyOf K H (.flt x) (.type "float")
  | lst {a : Addr} {xs : List V} (e : H a = some (.lst xs)) : TyOf K H (.ref a) (.type "list")
  | frz {a : Addr} {o : Obj} {xs : List V} (e : H a = some (.frz o (.lst xs))) : TyOf K H (.ref a) (.type "list")
  | tup {a : Addr} {xs : List V} (e : H a = some (.tup xs)) : TyOf K H (.ref a) (.type "tuple")
  | dK {a : Addr} {kvs : List (Key × V)} (e : H a = some (.dK kvs)) : TyOf K H (.ref a) (.type "dict")
  | dT {a : Addr} {kvs : List (List Key × V)} (e : H a = some (.dT kvs)) : TyOf K H (.ref a) (.type "dict")
  | ins {a C dx : Addr} {fs : List (Str × V)} (e : H a = some (.ins C dx fs)) (cl : Cls K C) (ha : PySem.W.findIn K (.ref C) "__class__" = some (some (.builtin "object.__class__")))
      (hn : PySem.W.specialIn K (.builtin "object.__class__") "__get__" = some (some (.builtin "getset_descriptor.__get__"))) (htk : PySem.W.takesIn K (.builtin "object.__class__") = some true)
      (hm : PySem.W.mroIn K C (.type "object") = some true) : TyOf K H (.ref a) (.ref C)
/-- isinstance(x, c) for one class c, a built-in or an own one: kitOne's answer -/
theorem isinst_ok {x : V} {u t : Value} (I : Inv X pins σ H s) (rx : RelV x u) (ty : TyOf X.K H x t) (e : PySem.W.kitOne X.K t c = some b) (h : ∀ tk, Q (.bool b) { s with toks := tk }) :
    wpAny (model X.prog X.w) A (call (.builtin "isinstance") [u, c]) Q E s := by
  cases ty with
  | non => cases (show u = Value.none from rx); exact PySem.W.kia_one PySem.W.kitx_none I.kIn True.intro e (fun z => nomatch z) h
  | bl y => cases (show u = Value.bool y from rx); exact PySem.W.kia_one PySem.W.kitx_bool I.kIn True.intro e (fun z => nomatch z) h
  | int i => obtain ⟨t, q⟩ := (show ∃ t, u = Value.int i t from rx); cases q; exact PySem.W.kia_one PySem.W.kitx_int I.kIn True.intro e (fun z => nomatch z) h
  | str y => obtain ⟨t, q⟩ := (show ∃ t, u = Value.str y t from rx); cases q; exact PySem.W.kia_one PySem.W.kitx_str I.kIn True.intro e (fun z => nomatch z) h
  | flt y => obtain ⟨t, q⟩ := (show ∃ t, u = Value.float y t from rx); cases q; exact PySem.W.kia_one PySem.W.kitx_float I.kIn True.intro e (fun z => nomatch z) h
  | @lst a xs ea =>
    cases (show u = Value.ref a from rx)
    obtain ⟨_, _, n, _, h1⟩ := (show ObjOk X.prog X.w H s.heap a (.lst xs) from I.hok a _ ea)
    exact PySem.W.kia_one PySem.W.kitx_list I.kIn ⟨_, h1, rfl⟩ e (fun z => nomatch z) h
  | @frz a ob xs ea =>
    cases (show u = Value.ref a from rx)
    obtain ⟨_, _, _, n, _, h1⟩ := (show ObjOk X.prog X.w H s.heap a (.frz ob (.lst xs)) from I.hok a _ ea)
    exact PySem.W.kia_one PySem.W.kitx_list I.kIn ⟨_, h1, rfl⟩ e (fun z => nomatch z) h
  | @tup a xs ea =>
    cases (show u = Value.ref a from rx)
    obtain ⟨_, _, _, p⟩ := (show ObjOk X.prog X.w H s.heap a (.tup xs) from I.hok a _ ea)
    obtain ⟨o, h1, h2, _⟩ := p
    exact PySem.W.kia_one PySem.W.kitx_tuple I.kIn ⟨o, h1, h2⟩ e (fun z => nomatch z) h
  | @dK a kvs ea =>
    cases (show u = Value.ref a from rx)
    obtain ⟨_, _, vs, _, p⟩ := (show ObjOk X.prog X.w H s.heap a (.dK kvs) from I.hok a _ ea)
    obtain ⟨o, es, ep, h1, h2, _⟩ := p
    exact PySem.W.kia_one PySem.W.kitx_dict I.kIn ⟨o, h1, h2.1⟩ e (fun z => nomatch z) h
  | @dT a kvs ea =>
    cases (show u = Value.ref a from rx)
    obtain ⟨_, _, xs, _, o, es, ep, h1, h2, _⟩ := (show ObjOk X.prog X.w H s.heap a (.dT kvs) from I.hok a _ ea)
    exact PySem.W.kia_one PySem.W.kitx_dict I.kIn ⟨o, h1, h2.1⟩ e (fun z => nomatch z) h
  | @ins a C dx fs ea cl ha hn htk hm =>
    cases (show u = Value.ref a from rx)
    obtain ⟨mA, O, _⟩ := ins_get I.hok ea
    obtain ⟨od, J, _⟩ := O.look
    exact PySem.W.kia_one (PySem.W.kitx_own (cl.get _) cl.hd ha hn htk hm) I.kIn J e (fun z => nomatch z) h
end
end L2

namespace L2
open PySem PySem.Spec PyProof.Rows

/-! ### room -/
structure Room (k : Nat) (A : Around) : Prop where
  hd : A.handled = none
  dp : A.depth + 3 * k + 5 < recursionLimit
  un : A.units + 16 * k + 200 < cLine
theorem Room.mono {j k : Nat} {A : Around} (r : Room k A) (h : j ≤ k) : Room j A := ⟨r.hd, by have := r.dp; omega, by have := r.un; omega⟩
theorem Room.deeper {k : Nat} {A : Around} (r : Room (k + 1) A) (env : Env) : Room k (A.deeper env) :=
  ⟨r.hd, by have := r.dp; show A.depth + 1 + 3 * k + 5 < _; omega, by have := r.un; show A.units + 3 + 16 * k + 200 < _; omega⟩
theorem Room.in1 {k : Nat} {A : Around} (r : Room (k + 1) A) : Room k A.in1 :=
  ⟨r.hd, by have := r.dp; show A.depth + 3 * k + 5 < _; omega, by have := r.un; show A.units + 1 + 16 * k + 200 < _; omega⟩
theorem make_depth {A : Around} {C : Addr} {us : List Value} {kw : List (Str × Value)} : (A.under (.builtin "type.__call__" ⟨.ref C :: us, kw⟩)).depth = A.depth + 1 := by
  first | rfl | simp [Around.under, Code.weight, Code.isCreation, Code.isGuard, Code.isCaller, Code.frames, Code.isFrame, guardIds]
theorem make_units {A : Around} {C : Addr} {us : List Value} {kw : List (Str × Value)} : (A.under (.builtin "type.__call__" ⟨.ref C :: us, kw⟩)).units = A.units + 1 := by
  first | rfl | simp [Around.under, Code.cUnits, Code.frames, Code.isFrame]
theorem Room.make {k : Nat} {A : Around} (r : Room (k + 1) A) (C : Addr) (us : List Value) (kw : List (Str × Value)) : Room k (A.under (.builtin "type.__call__" ⟨.ref C :: us, kw⟩)) :=
  ⟨r.hd, by have := r.dp; rw [make_depth]; omega, by have := r.un; rw [make_units]; omega⟩
theorem Room.depth {k : Nat} {A : Around} (r : Room k A) : A.depth < recursionLimit := by have := r.dp; omega
theorem Room.units {k : Nat} {A : Around} (r : Room k A) : A.units + 64 < cLine := by have := r.un; omega
theorem Room.units0 {k : Nat} {A : Around} (r : Room k A) : A.units < cLine := by have := r.un; omega

/-! ### argument lists and displays -/
def tNil : TA := fun _ H Q => Q [] H
def tCons (ta : TE) (tr : TA) : TA := fun σ H Q => ta σ H fun x H1 => tr σ H1 fun xs H2 => Q (x :: xs) H2
section
variable {X : Cx} {e : Expr} {es : List Expr} {te : TE} {t : TA} {pos : Pos}
theorem pa_nil : PA X [] tNil := fun _ _ _ _ H Q I h => Calls.spliced_nil ⟨[], H, I, .nil, h⟩
theorem pa_cons (ha : PE X e te) (hr : PA X es t) (hs : starEach (e :: es) X.env = (false, eval e X.env) :: starEach es X.env := by rfl) : PA X (e :: es) (tCons te t) := by
  intro pos pins s σ H Q I h
  rw [hs]
  show wpAny _ _ (spliced ((false, eval e X.env) :: backTo pos (starEach es X.env))) _ _ s
  refine Calls.spliced_cons (thn (ha pins s σ H _ I h) fun u s1 ⟨x, H1, I1, r1, q1⟩ => ?_)
  exact thn (hr pos pins s1 σ H1 _ I1 q1) fun us s2 ⟨xs, H2, I2, r2, q2⟩ => ⟨x :: xs, H2, I2, .cons r1 r2, q2⟩

/-- a tuple, a list of written items -/
def tTup (t : TA) : TE := fun σ H Q => t σ H fun xs H1 => xs.length ≤ sizeLine ∧ ∀ p, H1 p = none → Q (.ref p) (upd H1 p (.tup xs))
def tLst (t : TA) : TE := fun σ H Q => t σ H fun xs H1 => xs.length ≤ sizeLine ∧ ∀ p, H1 p = none → Q (.ref p) (upd H1 p (.lst xs))
theorem pe_tup {x1} (h : PA X es t) : PE X (.Tuple es x1 pos) (tTup t) := by
  intro pins s σ H Q I hq
  refine wpAny_Tuple_spliced (thn (h pos pins s σ H _ I hq) fun us s1 ⟨xs, H1, I1, r, z, q⟩ => ⟨by rw [← r.length]; exact z, ?_⟩)
  have hf : H1 s1.heap.objs.size = none := I1.hok.fresh (Nat.le_refl _)
  refine ⟨.ref s1.heap.objs.size, upd H1 s1.heap.objs.size (.tup xs), I1.laid (t' := s1.toks) (fun b u e => Heap.get?_push_of_some _ e) (Nat.le_refl _) ?_, rfl, q _ hf⟩
  exact ⟨z, us, r, ⟨_, Heap.get?_push_size _ rfl, rfl, _, rfl⟩⟩
theorem pe_lst (h : PA X es t) : PE X (.List es pos) (tLst t) := by
  intro pins s σ H Q I hq
  refine wpAny_List_spliced (thn (h pos pins s σ H _ I hq) fun us s1 ⟨xs, H1, I1, r, z, q⟩ => ⟨by rw [← r.length]; exact z, ?_⟩)
  have hf : H1 s1.heap.objs.size = none := I1.hok.fresh (Nat.le_refl _)
  refine ⟨.ref s1.heap.objs.size, upd H1 s1.heap.objs.size (.lst xs), I1.laid (t' := s1.toks) (fun b u e => Heap.get?_push_of_some _ e) (Nat.le_refl _) ?_, rfl, q _ hf⟩
  exact ⟨z, us, 0, r, Heap.get?_push_size _ rfl⟩
end

/-! ### what a def promises -/
/-- a def's promise: the bound arguments in the parameters' order, the heap, the wanted end, the wanted exception -/
abbrev Sp := List V → Hp → VK → XK → Prop
/-- how an exception lies behind a call (file 08 gives it): the callers' frames, abstract heap and state ahead of the call, the wish, the exception, the state -/
abbrev CXT := List Env → Hp → Shared → XK → Value → Shared → Prop

/-- the state at a call -/
structure Env0 (P : Program) (w : World) (K : PySem.W.Frag) (mg : Str → Option Value) (base : Heap) (A : Around) (outer : List Env) (s : Shared) (H : Hp) : Prop where
  frames : A.frames = some outer
  mod : Mod K mg base
  bs : ∀ b o, base.get? b = some o → s.heap.get? b = some o ∧ H b = none
  bsz : base.objs.size ≤ s.heap.objs.size
  funs : s.heap.FunFrames base outer
  frf : ∀ b ∈ frs outer, H b = none
  hok : HOk P w H s.heap
  bare : AllBare s.gens
/-- a call's end -/
def CE (outer : List Env) (P : Program) (w : World) (H : Hp) (s : Shared) (Q : VK) (u : Value) (s' : Shared) : Prop :=
  ∃ v H', s'.os = s.os ∧ AllBare s'.gens ∧ Un (frs outer) [] H H' s.heap s'.heap ∧ HOk P w H' s'.heap ∧ RelV v u ∧ Q v H'
def CR (CX : CXT) (outer : List Env) (P : Program) (w : World) (H : Hp) (s : Shared) (Q : VK) (E : XK) (r : Result) (s' : Shared) : Prop :=
  match r with
  | .ok (.ret u) => CE outer P w H s Q u s'
  | .ok _ => False
  | .error e => CX outer H s E e s'
structure FnOk (P : Program) (w : World) (K : PySem.W.Frag) (mg : Str → Option Value) (base : Heap) (CX : CXT) (k : Nat) (f : Addr) (fd : FuncData) (ps : List Str) (sp : Sp) : Prop where
  len : ∀ vs H Q E, sp vs H Q E → vs.length = ps.length
  run : ∀ (A : Around) (outer : List Env) (s : Shared) (H : Hp) (args : Args) (us : List Value) (vs : List V) (Q : VK) (E : XK), Room k A → Env0 P w K mg base A outer s H → BindsTo s fd args (ps.zip us) → Vals vs us → sp vs H Q E →
    codeAny (model P w) A (.call (.ref f) args) (CR CX outer P w H s Q E) s
theorem FnOk.mono {P : Program} {w : World} {K : PySem.W.Frag} {mg : Str → Option Value} {base : Heap} {CX : CXT} {j k : Nat} {f : Addr} {fd : FuncData} {ps : List Str} {sp : Sp} (F : FnOk P w K mg base CX j f fd ps sp) (h : j ≤ k) :
    FnOk P w K mg base CX k f fd ps sp := ⟨F.len, fun A outer s H args us vs Q E hr => F.run A outer s H args us vs Q E (hr.mono h)⟩
/-- a weaker promise -/
theorem FnOk.imp {P : Program} {w : World} {K : PySem.W.Frag} {mg : Str → Option Value} {base : Heap} {CX : CXT} {k : Nat} {f : Addr} {fd : FuncData} {ps : List Str} {sp sp' : Sp} (F : FnOk P w K mg base CX k f fd ps sp)
    (h : ∀ vs H Q E, sp' vs H Q E → sp vs H Q E) : FnOk P w K mg base CX k f fd ps sp' :=
  ⟨fun vs H Q E q => F.len vs H Q E (h _ _ _ _ q), fun A outer s H args us vs Q E hr he hb hv hs => F.run A outer s H args us vs Q E hr he hb hv (h _ _ _ _ hs)⟩

theorem Env0.make {P : Program} {w : World} {K : PySem.W.Frag} {mg : Str → Option Value} {base : Heap} {A : Around} {outer : List Env} {s : Shared} {H : Hp} (e : Env0 P w K mg base A outer s H) (C : Addr) (us : List Value) (kw : List (Str × Value)) :
    Env0 P w K mg base (A.under (.builtin "type.__call__" ⟨.ref C :: us, kw⟩)) outer s H := ⟨by first | exact e.frames | (simpa [Around.under, Code.envs, Code.isFrame, pushEnvs] using e.frames), e.mod, e.bs, e.bsz, e.funs, e.frf, e.hok, e.bare⟩
theorem Env0.in1 {P : Program} {w : World} {K : PySem.W.Frag} {mg : Str → Option Value} {base : Heap} {A : Around} {outer : List Env} {s : Shared} {H : Hp} (e : Env0 P w K mg base A outer s H) :
    Env0 P w K mg base A.in1 outer s H := ⟨e.frames, e.mod, e.bs, e.bsz, e.funs, e.frf, e.hok, e.bare⟩

section
variable {X : Cx} {pins : List (Addr × Obj)} {σ : St} {H : Hp} {s s' : Shared}
/-- from a body: what a callee wants -/
theorem Inv.env0 (I : Inv X pins σ H s) : Env0 X.prog X.w X.K X.mg X.base X.A X.stack s H :=
  ⟨I.ok.frames, I.ok.mod, I.bs, Nat.le_trans I.ok.bsz I.sz, I.stack, I.stkFree, I.hok, I.bare⟩
/-- behind a call -/
theorem Inv.after {Q : VK} {u : Value} (I : Inv X pins σ H s) (h : CE X.stack X.prog X.w H s Q u s') : EP X pins σ Q u s' := by
  obtain ⟨v, H', os, bare, un, hok, r, q⟩ := h
  obtain ⟨hh, g, d, t, os'⟩ := s'
  obtain rfl : os' = s.os := os
  exact ⟨v, H', I.call (h' := hh) (g' := g) (d' := d) (t' := t) (ch := []) un hok bare (fun b z => absurd z (by simp)), r, q⟩
end

/-! ### calls -/
/-- f(..): the written arguments, then the defaults dvs; E: what is wanted of an exception -/
def tCall (sp : Sp) (dvs : List V) (E : XK) (t : TA) : TE := fun σ H Q => t σ H fun vs H1 => sp (vs ++ dvs) H1 Q E
/-- o.m(..) of an instance of the class at C -/
def tMeth (C : Addr) (m : Str) (sp : Sp) (dvs : List V) (E : XK) (ta : TE) (t : TA) : TE := fun σ H Q => ta σ H fun x H1 => ∃ a dx fs, x = .ref a ∧ H1 a = some (.ins C dx fs) ∧ fs.lookup m = none ∧
  t σ H1 fun vs H2 => sp (x :: (vs ++ dvs)) H2 Q E
/-- C(..): a new instance and its dict, then __init__ -/
def tMake (C : Addr) (sp : Sp) (dvs : List V) (E : XK) (t : TA) : TE := fun σ H Q => t σ H fun vs H1 => ∀ x dx, H1 x = none → H1 dx = none → dx ≠ x →
  sp (.ref x :: (vs ++ dvs)) (upd (upd H1 dx (.own x)) x (.ins C dx [])) (fun v H2 => v = .non ∧ Q (.ref x) H2) E

/-- how the parameters are bound: us the positional arguments, kw the keywords' values by name, ds the defaults that fill up -/
def Binds (K : PySem.W.Frag) (fd : FuncData) (ps : List Str) (ds : List Value) : Prop :=
  ∀ (s : Shared) (us : List Value), K.In s.heap → (us ++ ds).length = ps.length → BindsTo s fd ⟨us, []⟩ (ps.zip (us ++ ds))
/-- every parameter is given -/
theorem Binds.all {K : PySem.W.Frag} {fd : FuncData} {ps : List Str} (h : ∀ us : List Value, us.length = ps.length → bindArgs fd ⟨us, []⟩ = pure (ps.zip us)) : Binds K fd ps [] := fun s us _ hl => by
  rw [List.append_nil] at hl ⊢
  exact .of_eq (h us hl)

/-- an exception of a callee reaches what this body wants of exceptions -/
def Passes (CX : CXT) (X : Cx) (E : XK) : Prop := ∀ (pins : List (Addr × Obj)) (σ : St) (H : Hp) (s : Shared) (e : Value) (s' : Shared), Inv X pins σ H s → CX X.stack H s E e s' → X.xe e s'

section
variable {X : Cx} {CX : CXT} {k : Nat} {f C : Addr} {fd : FuncData} {ps : List Str} {sp : Sp} {dvs : List V} {ds : List Value} {E : XK} {x m : Str} {p pos apos : Pos} {e o : Expr} {es : List Expr} {ta : TE} {t : TA}

/-- the callee runs -/
theorem run_fn {pins : List (Addr × Obj)} {σ : St} {H : Hp} {s : Shared} {Q : VK} {us : List Value} {vs : List V} (F : FnOk X.prog X.w X.K X.mg X.base CX k f fd ps sp) (hr : Room k X.A) (hb : Binds X.K fd ps ds) (hd : Vals dvs ds) (hx : Passes CX X E)
    (I : Inv X pins σ H s) (r : Vals vs us) (h : sp (vs ++ dvs) H Q E) : wpAny (model X.prog X.w) X.A (call (.ref f) us) (EP X pins σ Q) X.xe s := by
  have r2 : Vals (vs ++ dvs) (us ++ ds) := r.append hd
  have hl : (us ++ ds).length = ps.length := by rw [← r2.length]; exact F.len _ _ _ _ h
  refine wpAny_call (codeAny_mono (F.run X.A X.stack s H ⟨us, []⟩ (us ++ ds) (vs ++ dvs) Q E hr I.env0 (hb s us I.kIn hl) r2 h) fun r s' hq => ?_)
  cases r with
  | error e => exact hx pins σ H s e s' I hq
  | ok fl =>
    cases fl with
    | ret u => exact I.after hq
    | next => exact False.elim hq
    | brk => exact False.elim hq
    | cont => exact False.elim hq

theorem pe_call (F : FnOk X.prog X.w X.K X.mg X.base CX k f fd ps sp) (hr : Room k X.A) (hg : Gl X x) (hm : X.mg x = some (.ref f)) (hk : PySem.W.keepIn X.K (.ref f) = true) (hb : Binds X.K fd ps ds) (hd : Vals dvs ds) (hx : Passes CX X E)
    (ha : PA X (e :: es) t) (hdb : (x == ("__debug__" : Str)) = false := by decide) (he : starEach (e :: es) X.env = (false, eval e X.env) :: starEach es X.env := by rfl) (hpl : (backTo pos (starEach es X.env)).any (·.1) = false := by rfl) :
    PE X (.Call (.Name x p) (e :: es) [] pos) (tCall sp dvs E t) := by
  intro pins s σ H Q I h
  refine wpAny_Call_Name_kw (ld_glob I hg hm ?_ hdb)
  refine PySem.W.callWith_K (h₀ := X.base) I.ok.mod.kin hk (thn (ha pos pins s σ H _ I h) fun us s1 ⟨vs, H1, I1, r, q⟩ => ⟨I1.kIn, ?_⟩) he hpl
  exact run_fn F hr hb hd hx I1 r q
theorem pe_call0 (F : FnOk X.prog X.w X.K X.mg X.base CX k f fd ps sp) (hr : Room k X.A) (hg : Gl X x) (hm : X.mg x = some (.ref f)) (hk : PySem.W.keepIn X.K (.ref f) = true) (hb : Binds X.K fd ps ds) (hd : Vals dvs ds) (hx : Passes CX X E)
    (hdb : (x == ("__debug__" : Str)) = false := by decide) : PE X (.Call (.Name x p) [] [] pos) (tCall sp dvs E tNil) := by
  intro pins s σ H Q I h
  refine wpAny_Call_Name_kw (ld_glob I hg hm ?_ hdb)
  exact PySem.W.callWith_K0 I.kIn hk (run_fn (us := []) F hr hb hd hx I .nil h)

/-- o.m(e, ..) -/
theorem pe_meth {pl : Sem Bool} (he : PE X o ta) (c : Cls X.K C) (hm : Meth X.K C m f) (F : FnOk X.prog X.w X.K X.mg X.base CX k f fd ps sp) (hr : Room k X.A) (hb : Binds X.K fd ps ds) (hd : Vals dvs ds) (hx : Passes CX X E) (ha : PA X (e :: es) t)
    (hst : starEach (e :: es) X.env = (false, eval e X.env) :: starEach es X.env := by rfl) (hpl : (backTo pos (starEach es X.env)).any (·.1) = false := by rfl)
    (ht : eval (.Call (.Attribute o m apos) (e :: es) [] pos) X.env = (do
      let ov ← eval o X.env
      standAt apos.atName
      let (f, first) ← holding [ov] (getMethod ov m pl)
      callWith pos f first (backTo pos (starEach (e :: es) X.env)) (backToKw pos (keywordEach [] X.env))) := by rfl) :
    PE X (.Call (.Attribute o m apos) (e :: es) [] pos) (tMeth C m sp dvs E ta t) := by
  intro pins s σ H Q I h
  refine PySem.W.methodCall_KW (pl := pl) (thn (he pins s σ H _ I h) fun u s1 ⟨x, H1, I1, rx, a, dx, fs, ex, ea, l, q⟩ => ?_) ht
  subst ex
  obtain rfl : u = Value.ref a := rx
  refine getmeth_ok I1 ea c hm l ?_
  refine PySem.W.callWith_K (first := [.ref a]) (h₀ := X.base) I.ok.mod.kin hm.kp (thn (ha pos pins s1 σ H1 _ I1 q) fun us s2 ⟨vs, H2, I2, r, q2⟩ => ⟨I2.kIn, ?_⟩) hst hpl
  exact run_fn (us := .ref a :: us) (vs := .ref a :: vs) F hr hb hd hx I2 (.cons rfl r) q2
/-- o.m() -/
theorem pe_meth0 {pl : Sem Bool} (he : PE X o ta) (c : Cls X.K C) (hm : Meth X.K C m f) (F : FnOk X.prog X.w X.K X.mg X.base CX k f fd ps sp) (hr : Room k X.A) (hb : Binds X.K fd ps ds) (hd : Vals dvs ds) (hx : Passes CX X E)
    (ht : eval (.Call (.Attribute o m apos) [] [] pos) X.env = (do
      let ov ← eval o X.env
      standAt apos.atName
      let (f, first) ← holding [ov] (getMethod ov m pl)
      callWith pos f first (backTo pos (starEach [] X.env)) (backToKw pos (keywordEach [] X.env))) := by rfl) :
    PE X (.Call (.Attribute o m apos) [] [] pos) (tMeth C m sp dvs E ta tNil) := by
  intro pins s σ H Q I h
  refine PySem.W.methodCall_KW (pl := pl) (thn (he pins s σ H _ I h) fun u s1 ⟨x, H1, I1, rx, a, dx, fs, ex, ea, l, q⟩ => ?_) ht
  subst ex
  obtain rfl : u = Value.ref a := rx
  refine getmeth_ok I1 ea c hm l ?_
  exact PySem.W.callWith_K0 (first := [.ref a]) I1.kIn hm.kp (run_fn (us := [.ref a]) (vs := [.ref a]) F hr hb hd hx I1 (.cons rfl .nil) q)

/-- what a class must have to be made -/
structure Mk (K : PySem.W.Frag) (C f : Addr) : Prop where
  makes : PySem.W.makesIn K C = true
  init : PySem.W.findIn K (.ref C) "__init__" = some (some (.ref f))
  fn : PySem.W.isFn K (.ref f) = true
  kp : PySem.W.keepIn K (.ref C) = true

theorem run_make {pins : List (Addr × Obj)} {σ : St} {H : Hp} {s : Shared} {Q : VK} {us : List Value} {vs : List V} (M : Mk X.K C f) (F : FnOk X.prog X.w X.K X.mg X.base CX k f fd ps sp) (hr : Room (k + 1) X.A) (hb : Binds X.K fd ps ds) (hd : Vals dvs ds)
    (hx : Passes CX X E) (I : Inv X pins σ H s) (r : Vals vs us)
    (h : ∀ x dx, H x = none → H dx = none → dx ≠ x → sp (.ref x :: (vs ++ dvs)) (upd (upd H dx (.own x)) x (.ins C dx [])) (fun v H2 => v = .non ∧ Q (.ref x) H2) E) :
    wpAny (model X.prog X.w) X.A (call (.ref C) us) (EP X pins σ Q) X.xe s := by
  have hq := h (s.heap.objs.size + 1) s.heap.objs.size (I.hok.fresh (Nat.le_succ _)) (I.hok.fresh (Nat.le_refl _)) (Nat.ne_of_lt (Nat.lt_succ_self _))
  have I2 := Inv.made (C := C) I
  have r2 : Vals (V.ref (s.heap.objs.size + 1) :: (vs ++ dvs)) (Value.ref (s.heap.objs.size + 1) :: (us ++ ds)) := .cons rfl (r.append hd)
  have hl : (Value.ref (s.heap.objs.size + 1) :: us ++ ds).length = ps.length := by
    have e := r2.length
    rw [F.len _ _ _ _ hq] at e
    exact e.symm
  refine wpAny_call (make_map (f := f) I.kIn M.makes M.init (beq_iff_eq.mp M.fn) (codeAny_mono (F.run _ X.stack _ _ ⟨Value.ref (s.heap.objs.size + 1) :: us, []⟩ (Value.ref (s.heap.objs.size + 1) :: (us ++ ds)) _ _ E (hr.make C us [])
    (I2.env0.make C us []) (hb _ (Value.ref (s.heap.objs.size + 1) :: us) I2.kIn hl) r2 hq) fun r s' hq' => ?_))
  cases r with
  | error e => exact hx pins σ _ _ e s' I2 hq'
  | ok fl =>
    cases fl with
    | ret u =>
      obtain ⟨v, H', I3, rv, ev, q3⟩ := I2.after hq'
      subst ev
      exact ⟨rv, ⟨V.ref (s.heap.objs.size + 1), H', I3, rfl, q3⟩⟩
    | next => exact False.elim hq'
    | brk => exact False.elim hq'
    | cont => exact False.elim hq'
theorem pe_make (M : Mk X.K C f) (F : FnOk X.prog X.w X.K X.mg X.base CX k f fd ps sp) (hr : Room (k + 1) X.A) (hg : Gl X x) (hm : X.mg x = some (.ref C)) (hb : Binds X.K fd ps ds) (hd : Vals dvs ds) (hx : Passes CX X E)
    (ha : PA X (e :: es) t) (hdb : (x == ("__debug__" : Str)) = false := by decide) (he : starEach (e :: es) X.env = (false, eval e X.env) :: starEach es X.env := by rfl) (hpl : (backTo pos (starEach es X.env)).any (·.1) = false := by rfl) :
    PE X (.Call (.Name x p) (e :: es) [] pos) (tMake C sp dvs E t) := by
  intro pins s σ H Q I h
  refine wpAny_Call_Name_kw (ld_glob I hg hm ?_ hdb)
  refine PySem.W.callWith_K (h₀ := X.base) I.ok.mod.kin M.kp (thn (ha pos pins s σ H _ I h) fun us s1 ⟨vs, H1, I1, r, q⟩ => ⟨I1.kIn, ?_⟩) he hpl
  exact run_make M F hr hb hd hx I1 r q
theorem pe_make0 (M : Mk X.K C f) (F : FnOk X.prog X.w X.K X.mg X.base CX k f fd ps sp) (hr : Room (k + 1) X.A) (hg : Gl X x) (hm : X.mg x = some (.ref C)) (hb : Binds X.K fd ps ds) (hd : Vals dvs ds) (hx : Passes CX X E)
    (hdb : (x == ("__debug__" : Str)) = false := by decide) : PE X (.Call (.Name x p) [] [] pos) (tMake C sp dvs E tNil) := by
  intro pins s σ H Q I h
  refine wpAny_Call_Name_kw (ld_glob I hg hm ?_ hdb)
  exact PySem.W.callWith_K0 I.kIn M.kp (run_make (us := []) M F hr hb hd hx I .nil h)
end

/-! ### keywords -/
/-- the values of the keywords, from the left -/
def PK (X : Cx) (kws : List Keyword) (t : TA) : Prop :=
  ∀ (pos : Pos) (pins : List (Addr × Obj)) (s : Shared) (σ : St) (H : Hp) (Q : List V → Hp → Prop), Inv X pins σ H s → t σ H Q → wpAny (model X.prog X.w) X.A (evalAll ((backToKw pos (keywordEach kws X.env)).map (·.2))) (AP X pins σ Q) X.xe s
section
variable {X : Cx} {CX : CXT} {k : Nat} {f C : Addr} {fd : FuncData} {ps ks : List Str} {sp : Sp} {E : XK} {x m : Str} {p pos apos kpos : Pos} {e o : Expr} {es : List Expr} {kws : List Keyword} {te ta : TE} {t tk : TA} {nm : Option Str}
theorem pk_nil : PK X [] tNil := fun _ _ _ _ H Q I h => wpAny_evalAll_nil ⟨[], H, I, .nil, h⟩
theorem pk_cons (ha : PE X e te) (hr : PK X kws t) : PK X (⟨nm, e, kpos⟩ :: kws) (tCons te t) := by
  intro pos pins s σ H Q I h
  show wpAny _ _ (evalAll ((do let v ← eval e X.env; standAt pos; pure v) :: (backToKw pos (keywordEach kws X.env)).map (·.2))) _ _ s
  refine wpAny_evalAll_cons (wpAny_bind (thn (ha pins s σ H _ I h) fun u s1 ⟨x, H1, I1, r1, q1⟩ => wpAny_bind (wpAny_standAt (wpAny_pure ?_))))
  exact thn (hr pos pins s1 σ H1 _ I1 q1) fun us s2 ⟨xs, H2, I2, r2, q2⟩ => ⟨x :: xs, H2, I2, .cons r1 r2, q2⟩

/-- how a call with keywords binds: g puts the positional values us and the keywords' values ws (names ks) in the parameters' order, defaults among them -/
structure KBinds (K : PySem.W.Frag) (fd : FuncData) (ps ks : List Str) (g : List Value → List Value → List Value) (gV : List V → List V → List V) : Prop where
  to : ∀ (s : Shared) (us ws : List Value), K.In s.heap → (g us ws).length = ps.length → BindsTo s fd ⟨us, ks.zip ws⟩ (ps.zip (g us ws))
  rel : ∀ {vs : List V} {us : List Value} {zs : List V} {ws : List Value}, Vals vs us → Vals zs ws → Vals (gV vs zs) (g us ws)
def tCallK (sp : Sp) (gV : List V → List V → List V) (E : XK) (t tk : TA) : TE := fun σ H Q => t σ H fun vs H1 => tk σ H1 fun zs H2 => sp (gV vs zs) H2 Q E
variable {g : List Value → List Value → List Value} {gV : List V → List V → List V}
theorem run_fnk {pins : List (Addr × Obj)} {σ : St} {H : Hp} {s : Shared} {Q : VK} {us ws : List Value} {vs zs : List V} (F : FnOk X.prog X.w X.K X.mg X.base CX k f fd ps sp) (hr : Room k X.A) (hb : KBinds X.K fd ps ks g gV) (hx : Passes CX X E)
    (I : Inv X pins σ H s) (r : Vals vs us) (rz : Vals zs ws) (h : sp (gV vs zs) H Q E) : wpAny (model X.prog X.w) X.A (call (.ref f) us (ks.zip ws)) (EP X pins σ Q) X.xe s := by
  have r2 := hb.rel r rz
  have hl : (g us ws).length = ps.length := by rw [← r2.length]; exact F.len _ _ _ _ h
  refine wpAny_call (codeAny_mono (F.run X.A X.stack s H ⟨us, ks.zip ws⟩ (g us ws) (gV vs zs) Q E hr I.env0 (hb.to s us ws I.kIn hl) r2 h) fun r s' hq => ?_)
  cases r with
  | error e => exact hx pins σ H s e s' I hq
  | ok fl =>
    cases fl with
    | ret u => exact I.after hq
    | next => exact False.elim hq
    | brk => exact False.elim hq
    | cont => exact False.elim hq
/-- f(e, .., k = v, ..) -/
theorem pe_callK (F : FnOk X.prog X.w X.K X.mg X.base CX k f fd ps sp) (hr : Room k X.A) (hg : Gl X x) (hm : X.mg x = some (.ref f)) (hk : PySem.W.keepIn X.K (.ref f) = true) (hb : KBinds X.K fd ps ks g gV) (hx : Passes CX X E)
    (ha : PA X (e :: es) t) (hkw : PK X kws tk) (hall : (backToKw pos (keywordEach kws X.env)).all (·.1.isSome) = true := by rfl) (hks : (backToKw pos (keywordEach kws X.env)).filterMap (·.1) = ks := by rfl)
    (hdb : (x == ("__debug__" : Str)) = false := by decide) (he : starEach (e :: es) X.env = (false, eval e X.env) :: starEach es X.env := by rfl)
    (hpl : ((backTo pos (starEach (e :: es) X.env)).any (·.1) || (backToKw pos (keywordEach kws X.env)).any (·.1.isNone)) = false := by rfl) :
    PE X (.Call (.Name x p) (e :: es) kws pos) (tCallK sp gV E t tk) := by
  intro pins s σ H Q I h
  refine wpAny_Call_Name_kw (ld_glob I hg hm ?_ hdb)
  refine PySem.W.callWith_KW (h₀ := X.base) I.ok.mod.kin hk hall (thn (ha pos pins s σ H _ I h) fun us s1 ⟨vs, H1, I1, r, q⟩ => ?_) hpl he
  refine thn (hkw pos pins s1 σ H1 _ I1 q) fun ws s2 ⟨zs, H2, I2, rz, q2⟩ => ⟨I2.kIn, ?_⟩
  rw [hks]
  exact run_fnk F hr hb hx I2 r rz q2
end

/-! ### a def's body keeps its promise -/
/-- names: the parameters first -/
structure FnScope (N P : List Str) (sc : Scope) : Prop where
  kind : sc.kind = .function
  co : sc.isCoroutine = false
  gen : sc.isGenerator = false
  nd : N.Nodup
  pre : N.take P.length = P
  par : ∀ x ∈ P, sc.names.lookup x = some .local ∨ sc.names.lookup x = some .cell
  nofree : ∀ y ∈ sc.names, y.2 ≠ .free

theorem bindL_out {kindOf : Str → Option NameKind} {x : Str} : ∀ {binds : List (Str × Value)} {m : Str → Option Value}, (∀ v, (x, v) ∉ binds) → bindL kindOf binds m x = m x
  | [], _, _ => rfl
  | (n, v) :: r, m, h => by
    unfold bindL
    rw [bindL_out fun w hw => h w (List.mem_cons_of_mem _ hw)]
    split
    · have : x ≠ n := by rintro rfl; exact h v List.mem_cons_self
      simp [this]
    · rfl
theorem bindC_out {kindOf : Str → Option NameKind} {x : Str} : ∀ {binds : List (Str × Value)} {m : Str → Option Value}, (∀ v, (x, v) ∉ binds) → bindC kindOf binds m x = m x
  | [], _, _ => rfl
  | (n, v) :: r, m, h => by
    unfold bindC
    rw [bindC_out fun w hw => h w (List.mem_cons_of_mem _ hw)]
    split
    · rfl
    · have : x ≠ n := by rintro rfl; exact h v List.mem_cons_self
      simp [this]
theorem bindL_get {kindOf : Str → Option NameKind} {x : Str} {v : Value} : ∀ {P : List Str} {vs : List Value} {i : Nat} {m : Str → Option Value}, P.Nodup → P[i]? = some x → vs[i]? = some v → kindOf x = some .local →
    bindL kindOf (P.zip vs) m x = some v
  | [], _, _, _, _, h, _, _ => by simp at h
  | _ :: _, [], _, _, _, _, h, _ => by simp at h
  | p :: P, w :: vs, 0, m, nd, h1, h2, hk => by
    simp at h1 h2; subst h1; subst h2
    show bindL kindOf ((p, w) :: P.zip vs) m p = _
    unfold bindL
    rw [bindL_out fun v hv => (List.nodup_cons.mp nd).1 (List.of_mem_zip hv).1, if_pos hk]
    simp
  | p :: P, w :: vs, i + 1, m, nd, h1, h2, hk => by
    show bindL kindOf ((p, w) :: P.zip vs) m x = _
    unfold bindL
    exact bindL_get (i := i) (List.nodup_cons.mp nd).2 (by simpa using h1) (by simpa using h2) hk
theorem bindC_get {kindOf : Str → Option NameKind} {x : Str} {v : Value} : ∀ {P : List Str} {vs : List Value} {i : Nat} {m : Str → Option Value}, P.Nodup → P[i]? = some x → vs[i]? = some v → kindOf x ≠ some .local →
    bindC kindOf (P.zip vs) m x = some v
  | [], _, _, _, _, h, _, _ => by simp at h
  | _ :: _, [], _, _, _, _, h, _ => by simp at h
  | p :: P, w :: vs, 0, m, nd, h1, h2, hk => by
    simp at h1 h2; subst h1; subst h2
    show bindC kindOf ((p, w) :: P.zip vs) m p = _
    unfold bindC
    rw [bindC_out fun v hv => (List.nodup_cons.mp nd).1 (List.of_mem_zip hv).1, if_neg hk]
    simp
  | p :: P, w :: vs, i + 1, m, nd, h1, h2, hk => by
    show bindC kindOf ((p, w) :: P.zip vs) m x = _
    unfold bindC
    exact bindC_get (i := i) (List.nodup_cons.mp nd).2 (by simpa using h1) (by simpa using h2) hk

/-- the names' values at the entry -/
def start (N : List Str) (vs : List V) : St := vs.map some ++ List.replicate (N.length - vs.length) none

/-- the context of a def's body, at its entry; an exception leaves the frame, then lies as CX says -/
def cxOf (CX : CXT) (P : Program) (w : World) (K : PySem.W.Frag) (mg : Str → Option Value) (base : Heap) (N : List Str) (qual : Str) (scope : Scope) (f : Addr) (cd : Value) (A : Around) (outer : List Env) (s : Shared) (H : Hp) (E : XK) : Cx where
  prog := P
  w := w
  K := K
  mg := mg
  base := base
  A := A.deeper (envOfC qual scope s.heap.objs.size f cd)
  N := N
  s₀ := s
  H₀ := H
  env := envOfC qual scope s.heap.objs.size f cd
  outer := outer
  stack := envOfC qual scope s.heap.objs.size f cd :: outer
  ex := []
  calm := true
  fn := fun _ => true
  pn := []
  xe := fun e s' => wpAny (model P w) (A.deeper (envOfC qual scope s.heap.objs.size f cd)) (leaving (envOfC qual scope s.heap.objs.size f cd) e) (fun _ s'' => CX outer H s E e s'') (fun e' s'' => CX outer H s E e' s'') s'

theorem cell_has {sc : Scope} {n : Nat} {x : Str} (h : sc.names.lookup x = some .cell) : ∃ c, (cellsFrom n sc.names []).lookup x = some c := by
  have q := PySem.W.cellsFrom_some sc.names n [] (.inl h)
  exact Option.isSome_iff_exists.mp q

theorem inv_start {CX : CXT} {P : Program} {w : World} {K : PySem.W.Frag} {mg : Str → Option Value} {base : Heap} {N ps : List Str} {qual : Str} {scope : Scope} {f : Addr} {cd : Value} {A : Around} {outer : List Env} {s s1 : Shared} {H : Hp} {E : XK} {us : List Value} {vs : List V}
    (S : FnScope N ps scope) (hd : A.handled = none) (e0 : Env0 P w K mg base A outer s H) (hl : vs.length = ps.length) (r : Vals vs us)
    (x : InCallC s s.heap.objs.size (bindL (envOfC qual scope s.heap.objs.size f cd).kindOf (ps.zip us) fun _ => none) (cellsFrom (s.heap.objs.size + 1) scope.names []) (bindC (envOfC qual scope s.heap.objs.size f cd).kindOf (ps.zip us) fun _ => none) s1) :
    Inv (cxOf CX P w K mg base N qual scope f cd A outer s H E) [] (start N vs) H s1 := by
  have hpl : ps.length ≤ N.length := by have := congrArg List.length S.pre; rw [List.length_take] at this; omega
  obtain ⟨h1, tk, rfl, hk⟩ := x.done
  have noA : ∀ b : Addr, b ∉ (cxOf CX P w K mg base N qual scope f cd A outer s H E).ex := fun b z => absurd (show b ∈ ([] : List Addr) from z) (by simp)
  refine ⟨⟨e0.mod, S.kind, rfl, rfl, Nat.le_refl _, fun y z c h1 h2 => ?_, fun y hy => ?_, fun y c _ h => ?_, fun _ => hd, Around.frames_deeper e0.frames, .inr ⟨rfl, rfl⟩, fun b z => absurd z (noA b), e0.bs, e0.bsz, fun b _ _ => noA b, fun b z => absurd z (noA b), e0.funs, e0.frf⟩,
    rfl, e0.bare, Un.kept hk, ⟨_, x.toInCall.ns, fun i y v h1 h2 h3 => ?_⟩, fun y c h => ⟨_, x.cell y c h⟩, e0.hok.fresh (Nat.le_refl _), fun y c h => ?_, fun p hp => absurd (show p ∈ ([] : List (Addr × Obj)) from hp) (by simp), e0.hok.kept hk, ?_⟩
  · exact name_of_addr x.apart (PySem.mem_of_lookup h1) (PySem.mem_of_lookup h2)
  · have hy : scope.names.lookup y = some .cell ∨ scope.names.lookup y = some .free := hy
    rcases hy with hy | hy
    · exact cell_has hy
    · exact absurd rfl (S.nofree _ (PySem.mem_of_lookup hy))
  · exact Nat.le_of_lt (x.above y c (PySem.mem_of_lookup h))
  · have hi : i < vs.length := by
      unfold start at h2
      by_cases hi : i < vs.length
      · exact hi
      · rw [List.getElem?_append_right (by simpa using hi)] at h2
        rw [List.getElem?_replicate] at h2
        split at h2 <;> cases h2
    have ha : vs[i]? = some v := by
      unfold start at h2
      rw [List.getElem?_append_left (by simpa using hi), List.getElem?_map] at h2
      cases e : vs[i]? with
      | none => rw [e] at h2; cases h2
      | some a => rw [e] at h2; cases h2; rfl
    obtain ⟨u, hu, rv⟩ := r.get ha
    have hp : ps[i]? = some y := by
      rw [← S.pre, List.getElem?_take_of_lt (by omega)]; exact h1
    have ndP : ps.Nodup := by rw [← S.pre]; exact S.nd.sublist (List.take_sublist _ _)
    refine ⟨u, rv, ?_⟩
    rcases S.par y (List.mem_of_getElem? hp) with k | k
    · exact .inl ⟨k, bindL_get ndP hp hu k⟩
    · obtain ⟨c, e⟩ := cell_has (n := s.heap.objs.size + 1) k
      refine .inr ⟨.inl k, c, e, ?_⟩
      have q := x.cell y c e
      rw [bindC_get ndP hp hu (by show scope.names.lookup y ≠ _; rw [k]; decide)] at q
      exact q
  · exact e0.hok.fresh (Nat.le_of_lt (x.above y c (PySem.mem_of_lookup h)))
  · unfold start
    show _ = N.length
    rw [List.length_append, List.length_map, List.length_replicate]
    omega

/-- THE RULE: a def (or a method) of the text, by its body. The body's reading t is chosen for each entry; it is run at the parameters' values -/
theorem fn_of {CX : CXT} {P : Program} {w : World} {K : PySem.W.Frag} {mg : Str → Option Value} {base : Heap} {k : Nat} {f : Addr} {name qual : Str} {params : Arguments} {body : List Stmt} {scope : Scope} {dV kV doc pm cdv ct oc : Value} {an od : Option Addr}
    {osl : Array (Option Value)} {N ps : List Str} {sp : Sp} (lk : K.lookup f = some ⟨oc, od, .func (PySem.W.fnOf name qual params body scope dV kV doc pm an cdv ct), osl⟩) (hcd : PySem.W.codeIn K cdv qual = true) (S : FnScope N ps scope)
    (len : ∀ vs H Q E, sp vs H Q E → vs.length = ps.length)
    (hbody : ∀ (A : Around) (outer : List Env) (s : Shared) (H : Hp) (vs : List V) (Q : VK) (E : XK), Room k (A.deeper (envOfC qual scope s.heap.objs.size f cdv)) → sp vs H Q E →
      ∃ t, PSs (cxOf CX P w K mg base N qual scope f cdv A outer s H E) body t ∧ t { nx := fun _ H' => Q .non H', rt := Q } (start N vs) H) :
    FnOk P w K mg base CX (k + 1) f (PySem.W.fnOf name qual params body scope dV kV doc pm an cdv ct) ps sp := by
  refine ⟨len, fun A outer s H args us vs Q E hr e0 hb r hsp => ?_⟩
  have hl := len _ _ _ _ hsp
  have KX : K.In s.heap := e0.mod.kin.keeps fun b o e => (e0.bs b o e).1
  have lim : s.heap.NoLimit := e0.mod.nolimit.keeps fun b o e => (e0.bs b o e).1
  have hkind : ∀ y ∈ ps.zip us, scope.names.lookup y.1 = some .local ∨ (scope.names.lookup y.1 = some .cell ∧ ((cellsFrom (s.heap.objs.size + 1) scope.names []).lookup y.1).isSome = true) := fun ⟨n, v⟩ hy => by
    rcases S.par n (List.of_mem_zip hy).1 with q | q
    · exact .inl q
    · exact .inr ⟨q, PySem.W.cellsFrom_some _ _ _ (.inl q)⟩
  refine codeAny_call_function hr.depth (KX _ _ lk) rfl S.co S.gen rfl (PySem.W.codeRec_of KX hcd) (hb _ _ _ _ ?_)
  refine wpAny_newFunctionEnv_cells S.kind hkind fun env he s1 x => ?_
  subst he
  refine ⟨lim.keeps x.toInCall.keep, codeAny_func ?_⟩
  obtain ⟨t, ht, hq⟩ := hbody A outer s H vs Q E (hr.deeper _) hsp
  have I : Inv (cxOf CX P w K mg base N qual scope f cdv A outer s H E) [] (start N vs) H s1 := inv_start S hr.hd e0 hl r x
  refine wpAny_mono (ht [] s1 (start N vs) H _ I hq) (fun fl s' hs => ?_) fun e s' hs => hs
  have fin : ∀ {σ' : St} {H' : Hp} {v : V} {u : Value}, Inv (cxOf CX P w K mg base N qual scope f cdv A outer s H E) [] σ' H' s' → RelV v u → Q v H' → CE outer P w H s Q u s' :=
    fun {σ' H' v u} J rv q => ⟨v, H', J.os, J.bare, J.base, J.hok, rv, q⟩
  cases fl with
  | ret u =>
    obtain ⟨v, σ', H', J, rv, q⟩ := hs
    exact fin J rv q
  | next =>
    obtain ⟨σ', H', J, q⟩ := hs
    exact fin (v := V.non) (u := Value.none) J rfl q
  | brk =>
    obtain ⟨_, _, _, q⟩ := hs
    exact False.elim q
  | cont =>
    obtain ⟨_, _, _, q⟩ := hs
    exact False.elim q
end L2

namespace L2
open PySem PySem.Spec PyProof.Rows
section
variable {X : Cx} {x : Str} {p pos : Pos} {e : Expr} {es : List Expr} {t : TA} {id T : String} {r : List V → Hp → VK → Prop}

def tCB (r : List V → Hp → VK → Prop) (t : TA) : TE := fun σ H Q => t σ H fun vs H1 => r vs H1 Q
/-- f(e, ..), f a built-in function -/
theorem pe_callB (hc : CallR X (.builtin id) r) (hg : Gl X x) (hm : X.mg x = none) (hv : bootBuiltins x = some (.builtin id)) (ha : PA X (e :: es) t) (hn : x ≠ "__name__" := by decide) (hdb : (x == ("__debug__" : Str)) = false := by decide)
    (he : starEach (e :: es) X.env = (false, eval e X.env) :: starEach es X.env := by rfl) (hpl : (backTo pos (starEach es X.env)).any (·.1) = false := by rfl) : PE X (.Call (.Name x p) (e :: es) [] pos) (tCB r t) := by
  intro pins s σ H Q I h
  refine wpAny_Call_Name_kw (ld_blt I hg hm hv ?_ hn hdb)
  exact PyProof.Rows.callWith_builtin1 (thn (ha pos pins s σ H _ I h) fun us s1 ⟨vs, H1, I1, r1, q1⟩ => hc pins s1 σ H1 vs us Q I1 r1 q1) he hpl
/-- T(e, ..), T a built-in type -/
theorem pe_callTy (hc : CallR X (.type T) r) (hg : Gl X x) (hm : X.mg x = none) (hv : bootBuiltins x = some (.type T)) (ha : PA X (e :: es) t) (hn : x ≠ "__name__" := by decide) (hdb : (x == ("__debug__" : Str)) = false := by decide)
    (he : starEach (e :: es) X.env = (false, eval e X.env) :: starEach es X.env := by rfl) (hpl : (backTo pos (starEach es X.env)).any (·.1) = false := by rfl) : PE X (.Call (.Name x p) (e :: es) [] pos) (tCB r t) := by
  intro pins s σ H Q I h
  refine wpAny_Call_Name_kw (ld_blt I hg hm hv ?_ hn hdb)
  exact PyProof.Rows.callWith_type1 (thn (ha pos pins s σ H _ I h) fun us s1 ⟨vs, H1, I1, r1, q1⟩ => hc pins s1 σ H1 vs us Q I1 r1 q1) he hpl
/-- T() -/
theorem pe_callTy0 (hc : CallR X (.type T) r) (hg : Gl X x) (hm : X.mg x = none) (hv : bootBuiltins x = some (.type T)) (hn : x ≠ "__name__" := by decide) (hdb : (x == ("__debug__" : Str)) = false := by decide) :
    PE X (.Call (.Name x p) [] [] pos) (tCB r tNil) := by
  intro pins s σ H Q I h
  refine wpAny_Call_Name_kw (ld_blt I hg hm hv ?_ hn hdb)
  exact PyProof.Rows.callWith_type0 (hc pins s σ H [] [] Q I .nil h)
end
end L2

namespace L2
open PySem PySem.Spec PyProof.Rows

/-! ### lists of pairs as tables -/
section
variable {κ : Type} [DecidableEq κ]
def valV (kvs : List (κ × V)) (k : κ) : Option V := (kvs.find? fun kv => decide (kv.1 = k)).map (·.2)
/-- in its place, or at the end -/
def putK (kvs : List (κ × V)) (k : κ) (v : V) : List (κ × V) :=
  if (kvs.any fun kv => decide (kv.1 = k)) = true then kvs.map (fun kv => if kv.1 = k then (kv.1, v) else kv) else kvs ++ [(k, v)]
def dropK (kvs : List (κ × V)) (k : κ) : List (κ × V) := kvs.filter fun kv => decide (kv.1 ≠ k)

theorem valV_nil {k : κ} : valV ([] : List (κ × V)) k = none := rfl
theorem valV_pos {p : κ × V} {r : List (κ × V)} {k : κ} (e : p.1 = k) : valV (p :: r) k = some p.2 := by simp [valV, List.find?_cons, e]
theorem valV_neg {p : κ × V} {r : List (κ × V)} {k : κ} (e : ¬ p.1 = k) : valV (p :: r) k = valV r k := by simp [valV, List.find?_cons, e]
theorem valV_any (k : κ) : ∀ kvs : List (κ × V), (kvs.any fun kv => decide (kv.1 = k)) = (valV kvs k).isSome
  | [] => rfl
  | p :: r => by
    rw [List.any_cons]
    by_cases e : p.1 = k
    · simp only [valV_pos e, decide_eq_true e, Bool.true_or, Option.isSome_some]
    · rw [valV_neg e, decide_eq_false e, Bool.false_or]; exact valV_any k r
theorem valV_map (k j : κ) (y : V) : ∀ kvs : List (κ × V), valV (kvs.map fun kv => if kv.1 = k then (kv.1, y) else kv) j = (valV kvs j).map fun x => if j = k then y else x
  | [] => rfl
  | p :: r => by
    have ih := valV_map k j y r
    rw [List.map_cons]
    by_cases h : p.1 = k
    · rw [if_pos h]
      by_cases e : p.1 = j
      · rw [valV_pos (p := (p.1, y)) e, valV_pos e, Option.map_some, if_pos (e.symm.trans h)]
      · rw [valV_neg (p := (p.1, y)) e, valV_neg e, ih]
    · rw [if_neg h]
      by_cases e : p.1 = j
      · rw [valV_pos (p := p) e, valV_pos e, Option.map_some, if_neg (fun z => h (e.trans z))]
      · rw [valV_neg (p := p) e, valV_neg e, ih]
theorem valV_snoc (k j : κ) (y : V) : ∀ kvs : List (κ × V), valV kvs k = none → valV (kvs ++ [(k, y)]) j = if j = k then some y else valV kvs j
  | [], _ => by
    by_cases e : k = j
    · rw [if_pos e.symm]; exact valV_pos (p := (k, y)) e
    · rw [if_neg (fun z => e z.symm)]; exact valV_neg (p := (k, y)) e
  | p :: r, hn => by
    rw [List.cons_append]
    have hk : ¬ p.1 = k := fun z => by rw [valV_pos z] at hn; cases hn
    rw [valV_neg hk] at hn
    have ih := valV_snoc k j y r hn
    by_cases e : p.1 = j
    · rw [valV_pos e, valV_pos e, if_neg (fun z => hk (e.trans z))]
    · rw [valV_neg e, valV_neg e, ih]
theorem valV_put (kvs : List (κ × V)) (k j : κ) (y : V) : valV (putK kvs k y) j = if j = k then some y else valV kvs j := by
  unfold putK
  by_cases a : (kvs.any fun kv => decide (kv.1 = k)) = true
  · rw [if_pos a, valV_map]
    rw [valV_any] at a
    by_cases e : j = k
    · obtain ⟨x, hx⟩ := Option.isSome_iff_exists.mp a
      rw [if_pos e, e, hx, Option.map_some, if_pos rfl]
    · rw [if_neg e]
      cases valV kvs j with
      | none => rfl
      | some x => rw [Option.map_some, if_neg e]
  · rw [if_neg a]
    refine valV_snoc k j y kvs ?_
    rw [valV_any] at a
    cases q : valV kvs k with
    | none => rfl
    | some x => rw [q] at a; exact (a rfl).elim
theorem length_putK (kvs : List (κ × V)) (k : κ) (v : V) : (putK kvs k v).length ≤ kvs.length + 1 := by
  unfold putK
  split
  · rw [List.length_map]; omega
  · rw [List.length_append, List.length_cons, List.length_nil]; omega
theorem putK_new {kvs : List (κ × V)} {k : κ} (v : V) (h : valV kvs k = none) : putK kvs k v = kvs ++ [(k, v)] := by
  unfold putK
  rw [valV_any, h]
  exact if_neg (by decide)

theorem RelO.isSome_eq {o : Option V} {u : Option Value} (r : RelO o u) : o.isSome = u.isSome := by
  cases o with
  | none => cases u with
    | none => rfl
    | some _ => exact (show False from r).elim
  | some _ => cases u with
    | none => exact (show False from r).elim
    | some _ => rfl
theorem RelO.getD {o : Option V} {u : Option Value} {d : V} {d' : Value} (r : RelO o u) (rd : RelV d d') : RelV (o.getD d) (u.getD d') := by
  cases o with
  | none => cases u with
    | none => exact rd
    | some _ => exact (show False from r).elim
  | some _ => cases u with
    | none => exact (show False from r).elim
    | some _ => exact r

/-- raw tables of the same keys -/
theorem KV.val {kvs : List (κ × V)} {vs : List (κ × Value)} (r : KV kvs vs) (k : κ) : RelO (valV kvs k) (valueAt vs k) := by
  unfold KV at r
  induction r with
  | nil => exact True.intro
  | @cons p q ps qs h t ih =>
    obtain ⟨h1, h2⟩ := h
    by_cases e : p.1 = k
    · have e' : q.1 = k := h1.symm.trans e
      have b : valueAt (q :: qs) k = some q.2 := by simp [valueAt, List.find?_cons, e']
      rw [valV_pos e, b]; exact h2
    · have e' : ¬ q.1 = k := fun z => e (h1.trans z)
      have b : valueAt (q :: qs) k = valueAt qs k := by simp [valueAt, List.find?_cons, e']
      rw [valV_neg e, b]; exact ih
theorem KV.any {kvs : List (κ × V)} {vs : List (κ × Value)} (r : KV kvs vs) (k : κ) : (kvs.any fun kv => decide (kv.1 = k)) = vs.any fun kv => decide (kv.1 = k) := by
  unfold KV at r
  induction r with
  | nil => rfl
  | cons h t ih => rw [List.any_cons, List.any_cons, ih, h.1]
theorem KV.repl {kvs : List (κ × V)} {vs : List (κ × Value)} (r : KV kvs vs) (k : κ) {y : V} {u : Value} (ry : RelV y u) :
    KV (kvs.map fun kv => if kv.1 = k then (kv.1, y) else kv) (vs.map fun kv => if kv.1 = k then (kv.1, u) else kv) := by
  unfold KV at r ⊢
  induction r with
  | nil => exact .nil
  | @cons p q ps qs h t ih =>
    rw [List.map_cons, List.map_cons]
    refine .cons ?_ ih
    obtain ⟨h1, h2⟩ := h
    by_cases e : p.1 = k
    · rw [if_pos e, if_pos (h1.symm.trans e)]; exact ⟨h1, ry⟩
    · rw [if_neg e, if_neg (fun z => e (h1.trans z))]; exact ⟨h1, h2⟩
theorem KV.put {kvs : List (κ × V)} {vs : List (κ × Value)} (r : KV kvs vs) (k : κ) {y : V} {u : Value} (ry : RelV y u) : KV (putK kvs k y) (stored vs k u) := by
  unfold putK stored
  rw [r.any k]
  by_cases e : (vs.any fun kv => decide (kv.1 = k)) = true
  · rw [if_pos e, if_pos e]; exact r.repl k ry
  · rw [if_neg e, if_neg e]; exact Paired.snoc r ⟨rfl, ry⟩
theorem KV.drop {kvs : List (κ × V)} {vs : List (κ × Value)} (r : KV kvs vs) (k : κ) : KV (dropK kvs k) (without vs k) := by
  unfold KV at r ⊢
  unfold dropK without
  induction r with
  | nil => exact .nil
  | @cons p q ps qs h t ih =>
    obtain ⟨h1, h2⟩ := h
    rw [List.filter_cons, List.filter_cons]
    by_cases e : p.1 = k
    · have a : ¬ decide (p.1 ≠ k) = true := by simp [e]
      have b : ¬ decide (q.1 ≠ k) = true := by simp [h1.symm.trans e]
      rw [if_neg a, if_neg b]; exact ih
    · have e' : ¬ q.1 = k := fun z => e (h1.trans z)
      have a : decide (p.1 ≠ k) = true := by simp [e]
      have b : decide (q.1 ≠ k) = true := by simp [e']
      rw [if_pos a, if_pos b]; exact .cons ⟨h1, h2⟩ ih
theorem KV.keys {kvs : List (κ × V)} {vs : List (κ × Value)} (r : KV kvs vs) : kvs.map (·.1) = vs.map (·.1) := by
  unfold KV at r
  induction r with
  | nil => rfl
  | cons h t ih => rw [List.map_cons, List.map_cons, ih, h.1]
theorem KV.length {kvs : List (κ × V)} {vs : List (κ × Value)} (r : KV kvs vs) : kvs.length = vs.length := Paired.length r
theorem dropK_le (kvs : List (κ × V)) (k : κ) : (dropK kvs k).length ≤ kvs.length := List.length_filter_le _ _
end


/-! ### a tracked dict, its keys ints and texts or tuples of these -/
theorem kV_is {P : Program} {w : World} {k : Key} {u : Value} (r : RelV (kV k) u) : (mixKind P w).is k u = true := by
  cases k with
  | inl i => obtain ⟨t, e⟩ := (show ∃ t, u = Value.int i t from r); subst e; exact mixKind_int P w i t
  | inr x => obtain ⟨t, e⟩ := (show ∃ t, u = Value.str x t from r); subst e; exact mixKind_str P w x t
theorem kV_inj {a b : Key} (e : kV a = kV b) : a = b := by
  cases a with
  | inl i => cases b with
    | inl j => have e' : V.int i = V.int j := e; injection e' with e'; rw [e']
    | inr y => exact nomatch (show V.int i = V.str y from e)
  | inr x => cases b with
    | inl j => exact nomatch (show V.str x = V.int j from e)
    | inr y => have e' : V.str x = V.str y := e; injection e' with e'; rw [e']
theorem kVs_inj : ∀ {a b : List Key}, a.map kV = b.map kV → a = b
  | [], [], _ => rfl
  | [], _ :: _, e => by simp at e
  | _ :: _, [], e => by simp at e
  | x :: xs, y :: ys, e => by
    rw [List.map_cons, List.map_cons] at e
    injection e with e1 e2
    rw [kV_inj e1, kVs_inj e2]
theorem items_are {P : Program} {w : World} : ∀ {ks : List Key} {us : List Value}, Vals (ks.map kV) us → ItemsAre (mixKind P w) ks us
  | [], _, r => by rw [List.map_nil] at r; cases r; exact .nil
  | k :: ks, _, r => by
    rw [List.map_cons] at r
    cases r with
    | cons h t => exact .cons (kV_is h) (items_are t)

/-- raw entries of a dict with tuple keys -/
abbrev KT (H : Hp) : List (List Key × V) → List (List Key × Addr × Value) → Prop := Paired fun p q => p.1 = q.1 ∧ H q.2.1 = some (.tup (p.1.map kV)) ∧ RelV p.2 q.2.2
theorem KT.val {H : Hp} {kvs : List (List Key × V)} {xs : List (List Key × Addr × Value)} (r : KT H kvs xs) (k : List Key) : RelO (valV kvs k) ((atKey xs k).map (·.2)) := by
  induction r with
  | nil => exact True.intro
  | @cons p q ps qs h t ih =>
    obtain ⟨h1, _, h2⟩ := h
    by_cases e : p.1 = k
    · have e' : q.1 = k := h1.symm.trans e
      have b : atKey (q :: qs) k = some q.2 := by simp [atKey, List.find?_cons, e']
      rw [valV_pos e, b]; exact h2
    · have e' : ¬ q.1 = k := fun z => e (h1.trans z)
      have b : atKey (q :: qs) k = atKey qs k := by simp [atKey, List.find?_cons, e']
      rw [valV_neg e, b]; exact ih
theorem KT.repl {H : Hp} {kvs : List (List Key × V)} {xs : List (List Key × Addr × Value)} (r : KT H kvs xs) (k : List Key) {y : V} {u : Value} (ry : RelV y u) :
    KT H (kvs.map fun kv => if kv.1 = k then (kv.1, y) else kv) (xs.map (putAt k u)) := by
  induction r with
  | nil => exact .nil
  | @cons p q ps qs h t ih =>
    rw [List.map_cons, List.map_cons]
    refine .cons ?_ ih
    obtain ⟨h1, h2, h3⟩ := h
    unfold putAt
    by_cases e : p.1 = k
    · rw [if_pos e, if_pos (h1.symm.trans e)]; exact ⟨h1, h2, ry⟩
    · rw [if_neg e, if_neg (fun z => e (h1.trans z))]; exact ⟨h1, h2, h3⟩
theorem KT.put {H : Hp} {kvs : List (List Key × V)} {xs : List (List Key × Addr × Value)} (r : KT H kvs xs) (k : List Key) {b : Addr} {y : V} {u : Value} (hb : H b = some (.tup (k.map kV))) (ry : RelV y u) :
    KT H (putK kvs k y) (storedH xs k b u) := by
  have e : (kvs.any fun kv => decide (kv.1 = k)) = (atKey xs k).isSome := by
    rw [valV_any, (r.val k).isSome_eq, Option.isSome_map]
  unfold putK storedH
  rw [e]
  by_cases q : (atKey xs k).isSome = true
  · rw [if_pos q, if_pos q]; exact r.repl k ry
  · rw [if_neg q, if_neg q]; exact Paired.snoc r ⟨rfl, hb, ry⟩
theorem KT.keeps {H H' : Hp} {kvs : List (List Key × V)} {xs : List (List Key × Addr × Value)} (r : KT H kvs xs) (ht : ∀ b ys, H b = some (.tup ys) → H' b = some (.tup ys)) : KT H' kvs xs :=
  Paired.mapP r fun _ _ z => ⟨z.1, ht _ _ z.2.1, z.2.2⟩

section
variable {P : Program} {w : World} {H : Hp} {h : Heap} {a : Addr}
theorem rd_of {u : HO} (ok : HOk P w H h) (e : Rd H a u) : ObjOk P w H h a u := e.ok ok
theorem dk_rd {kvs : List (Key × V)} (ok : HOk P w H h) (e : Rd H a (.dK kvs)) : kvs.length ≤ sizeLine ∧ (a == sysModules) = false ∧ ∃ vs, KV kvs vs ∧ h.DictOf (mixKind P w) a vs :=
  show ObjOk P w H h a (.dK kvs) from rd_of ok e
theorem dk_of {kvs : List (Key × V)} (ok : HOk P w H h) (e : H a = some (.dK kvs)) : kvs.length ≤ sizeLine ∧ (a == sysModules) = false ∧ ∃ vs, KV kvs vs ∧ h.DictOf (mixKind P w) a vs := dk_rd ok (.inl e)
/-- a tracked tuple of ints and texts is a key -/
theorem key_of {ks : List Key} (ok : HOk P w H h) (e : H a = some (.tup (ks.map kV))) : (tupleKind (mixKind P w)).is h ks a := by
  obtain ⟨_, its, r, o, h1, h2, n, h3⟩ := (show ObjOk P w H h a (.tup (ks.map kV)) from ok a _ e)
  exact ⟨o, its.toArray, n, h1, h2, h3, by simpa using items_are r⟩
theorem dt_rd {kvs : List (List Key × V)} (ok : HOk P w H h) (e : Rd H a (.dT kvs)) : kvs.length ≤ sizeLine ∧ (a == sysModules) = false ∧
    ∃ xs, KT H kvs xs ∧ h.DictOfH (tupleKind (mixKind P w)) a xs := by
  obtain ⟨z, y, xs, r, o, es, ep, h1, h2, h3, h4, h5⟩ := (show ObjOk P w H h a (.dT kvs) from rd_of ok e)
  refine ⟨z, y, xs, r, o, es, ep, h1, h2, h3, h4, fun x hx => ?_, h5⟩
  have all : ∀ {l : List (List Key × V)} {m : List (List Key × Addr × Value)}, KT H l m → ∀ x ∈ m, (tupleKind (mixKind P w)).is h x.1 x.2.1 := by
    intro l m q
    induction q with
    | nil => intro x hx; exact nomatch hx
    | @cons p q ps qs hq t ih =>
      intro x hx
      rcases List.mem_cons.mp hx with e | hx
      · subst e
        exact key_of ok (by rw [← hq.1]; exact hq.2.1)
      · exact ih x hx
  exact all r x hx
theorem dt_of {kvs : List (List Key × V)} (ok : HOk P w H h) (e : H a = some (.dT kvs)) : kvs.length ≤ sizeLine ∧ (a == sysModules) = false ∧
    ∃ xs, KT H kvs xs ∧ h.DictOfH (tupleKind (mixKind P w)) a xs := dt_rd ok (.inl e)
end

/-- what the dict at a holds at the key y -/
def DGet (H : Hp) (a : Addr) (y : V) (r : Option V) : Prop :=
  (∃ kvs k, Rd H a (.dK kvs) ∧ y = kV k ∧ r = valV kvs k) ∨ ∃ kvs k b, Rd H a (.dT kvs) ∧ y = .ref b ∧ H b = some (.tup (k.map kV)) ∧ r = valV kvs k
/-- the heap behind a[y] = v -/
def DPut (H : Hp) (a : Addr) (y v : V) (H' : Hp) : Prop :=
  (∃ kvs k, H a = some (.dK kvs) ∧ y = kV k ∧ kvs.length < sizeLine ∧ H' = upd H a (.dK (putK kvs k v))) ∨
  ∃ kvs k b, H a = some (.dT kvs) ∧ y = .ref b ∧ H b = some (.tup (k.map kV)) ∧ kvs.length < sizeLine ∧ H' = upd H a (.dT (putK kvs k v))
theorem DGet.k {H : Hp} {a : Addr} {kvs : List (Key × V)} {k : Key} (e : H a = some (.dK kvs)) : DGet H a (kV k) (valV kvs k) := .inl ⟨kvs, k, .inl e, rfl, rfl⟩
theorem DGet.t {H : Hp} {a b : Addr} {kvs : List (List Key × V)} {k : List Key} (e : H a = some (.dT kvs)) (eb : H b = some (.tup (k.map kV))) : DGet H a (.ref b) (valV kvs k) := .inr ⟨kvs, k, b, .inl e, rfl, eb, rfl⟩
theorem DPut.k {H : Hp} {a : Addr} {kvs : List (Key × V)} {k : Key} {v : V} (e : H a = some (.dK kvs)) (hl : kvs.length < sizeLine) : DPut H a (kV k) v (upd H a (.dK (putK kvs k v))) := .inl ⟨kvs, k, e, rfl, hl, rfl⟩
theorem DPut.t {H : Hp} {a b : Addr} {kvs : List (List Key × V)} {k : List Key} {v : V} (e : H a = some (.dT kvs)) (eb : H b = some (.tup (k.map kV))) (hl : kvs.length < sizeLine) :
    DPut H a (.ref b) v (upd H a (.dT (putK kvs k v))) := .inr ⟨kvs, k, b, e, rfl, eb, hl, rfl⟩


section
variable {X : Cx} {pins : List (Addr × Obj)} {σ : St} {H : Hp} {s : Shared} {a : Addr} {y v : V} {u r : Value} {o : Option V} {A : Around} {E : Value → Shared → Prop}

theorem Inv.big (I : Inv X pins σ H s) : sysModules < s.heap.objs.size := by
  have h : mainGlobals < s.heap.objs.size := (I.mod.glob.keeps I.bk).lt
  exact Nat.lt_trans (by decide) h

/-- d[y], there -/
theorem d_getItem {Q : Value → Shared → Prop} (hu : A.units + 1 < cLine) (I : Inv X pins σ H s) (g : DGet H a y (some v)) (ry : RelV y u) (h : ∀ w' s', Inv X pins σ H s' → RelV v w' → Q w' s') :
    wpAny (model X.prog X.w) A (getItem (.ref a) u) Q E s := by
  rcases g with ⟨kvs, k, e, ey, l⟩ | ⟨kvs, k, b, e, ey, eb, l⟩
  · subst ey
    obtain ⟨z, hd, vs, rel, dd⟩ := dk_rd I.hok e
    obtain ⟨w', hw, rw'⟩ := RelO.some_of (v := v) (o := valueAt vs k) (by rw [l]; exact rel.val k)
    exact wpAny_getItem_of (kV_is ry) dd.mapOf hw (h w' _ (I.tok _) rw')
  · subst ey
    cases (show u = Value.ref b from ry)
    obtain ⟨z, hd, xs, rel, dd⟩ := dt_rd I.hok e
    obtain ⟨w', hw, rw'⟩ := RelO.some_of (v := v) (o := (atKey xs k).map (·.2)) (by rw [l]; exact rel.val k)
    obtain ⟨p, hp, hp2⟩ := Option.map_eq_some_iff.mp hw
    refine wpAny_getItem_heap (tupleKind_room_in1 hu) (key_of I.hok eb) dd hp ?_
    rw [hp2]
    exact h w' _ (I.tok _) rw'
/-- y in d -/
theorem d_in {Q : Value → Shared → Prop} (hu : A.units + 1 < cLine) (I : Inv X pins σ H s) (g : DGet H a y o) (ry : RelV y u) (h : ∀ s', Inv X pins σ H s' → Q (.bool o.isSome) s') :
    wpAny (model X.prog X.w) A (compareOp .In u (.ref a)) Q E s := by
  rcases g with ⟨kvs, k, e, ey, l⟩ | ⟨kvs, k, b, e, ey, eb, l⟩
  · subst ey
    obtain ⟨z, hd, vs, rel, dd⟩ := dk_rd I.hok e
    refine wpAny_in_of (kV_is ry) hd dd.mapOf ?_
    rw [← (rel.val k).isSome_eq, ← l]
    exact h _ (I.tok _)
  · subst ey
    cases (show u = Value.ref b from ry)
    obtain ⟨z, hd, xs, rel, dd⟩ := dt_rd I.hok e
    refine wpAny_in_heap (tupleKind_room_in1 hu) (key_of I.hok eb) hd dd ?_
    have q := (rel.val k).isSome_eq
    rw [Option.isSome_map] at q
    rw [← q, ← l]
    exact h _ (I.tok _)
theorem d_notIn {Q : Value → Shared → Prop} (hu : A.units + 1 < cLine) (I : Inv X pins σ H s) (g : DGet H a y o) (ry : RelV y u) (h : ∀ s', Inv X pins σ H s' → Q (.bool (!o.isSome)) s') :
    wpAny (model X.prog X.w) A (compareOp .NotIn u (.ref a)) Q E s := by
  rcases g with ⟨kvs, k, e, ey, l⟩ | ⟨kvs, k, b, e, ey, eb, l⟩
  · subst ey
    obtain ⟨z, hd, vs, rel, dd⟩ := dk_rd I.hok e
    refine wpAny_notIn_of (kV_is ry) hd dd.mapOf ?_
    rw [← (rel.val k).isSome_eq, ← l]
    exact h _ (I.tok _)
  · subst ey
    cases (show u = Value.ref b from ry)
    obtain ⟨z, hd, xs, rel, dd⟩ := dt_rd I.hok e
    refine wpAny_notIn_heap (tupleKind_room_in1 hu) (key_of I.hok eb) hd dd ?_
    have q := (rel.val k).isSome_eq
    rw [Option.isSome_map] at q
    rw [← q, ← l]
    exact h _ (I.tok _)
/-- a dict's object is replaced -/
theorem d_write {h' : Heap} {t' : Nat} {ob : HO} (I : Inv X pins σ H s) (mu : Mut (H a)) (hs : Heap.SameBut a s.heap h') (he : ∃ q, h'.get? a = some q) (new : ObjOk X.prog X.w (upd H a ob) h' a ob) :
    Inv X pins σ (upd H a ob) { s with heap := h', toks := t' } :=
  I.write (x := a) (e := a) mu (.inl rfl) (fun b q hb z => (hs.2 b hb).trans z) he new
theorem dk_new {P : Program} {w : World} {H' : Hp} {h' : Heap} {kvs : List (Key × V)} {vs : List (Key × Value)} (z : kvs.length ≤ sizeLine) (hd : (a == sysModules) = false) (rel : KV kvs vs) (dd : h'.DictOf (mixKind P w) a vs) :
    ObjOk P w H' h' a (.dK kvs) := ⟨z, hd, vs, rel, dd⟩
/-- d[y] = v -/
theorem d_setItem {H' : Hp} {Q : Unit → Shared → Prop} (hu : A.units + 1 < cLine) (I : Inv X pins σ H s) (g : DPut H a y v H') (ry : RelV y u) (rv : RelV v r) (h : ∀ s', Inv X pins σ H' s' → Q () s') :
    wpAny (model X.prog X.w) A (setItem (.ref a) u r) Q E s := by
  rcases g with ⟨kvs, k, e, ey, l, eH⟩ | ⟨kvs, k, b, e, ey, eb, l, eH⟩
  · subst ey eH
    obtain ⟨z, hd, vs, rel, dd⟩ := dk_of I.hok e
    have hz : vs.length ≤ sizeLine := by rw [← rel.length]; exact z
    have hl : (putK kvs k v).length ≤ sizeLine := by have := length_putK kvs k v; omega
    refine wpAny_setItem_pairs (hsz := hz) (kV_is ry) dd fun h' dd' hs => h _ ?_
    have he : ∃ q, h'.get? a = some q := let ⟨q, _, _, hq, _⟩ := dd'; ⟨q, hq⟩
    exact d_write I (by rw [e]; exact True.intro) hs he (dk_new hl hd (rel.put k rv) dd')
  · subst ey eH
    cases (show u = Value.ref b from ry)
    obtain ⟨z, hd, xs, rel, dd⟩ := dt_of I.hok e
    have hz : xs.length ≤ sizeLine := by rw [← Paired.length rel]; exact z
    have hl : (putK kvs k v).length ≤ sizeLine := by have := length_putK kvs k v; omega
    refine wpAny_setItem_heap (hsz := hz) (tupleKind_room_in1 hu) (key_of I.hok eb) dd fun h' dd' hs => h _ ?_
    obtain ⟨q, es, ep, hq, h2, h3, h4, _, h5⟩ := dd'
    refine d_write I (by rw [e]; exact True.intro) hs ⟨q, hq⟩ ⟨hl, hd, _, (rel.put k eb rv).keeps fun c ys ec => ?_, q, es, ep, hq, h2, h3, h4, h5⟩
    rw [upd_ne (ne_of ec e (fun z => nomatch z))]
    exact ec
end

section
variable {X : Cx} {pins : List (Addr × Obj)} {σ : St} {H : Hp} {s : Shared} {a : Addr} {kvs : List (Key × V)} {k : Key} {u : Value} {A : Around} {E : Value → Shared → Prop}
/-- del d[k] -/
theorem d_delItem {Q : Unit → Shared → Prop} (I : Inv X pins σ H s) (e : H a = some (.dK kvs)) (ry : RelV (kV k) u) (l : (valV kvs k).isSome = true) (h : ∀ s', Inv X pins σ (upd H a (.dK (dropK kvs k))) s' → Q () s') :
    wpAny (model X.prog X.w) A (delItem (.ref a) u) Q E s := by
  obtain ⟨z, hd, vs, rel, dd⟩ := dk_of I.hok e
  refine wpAny_delItem_slot dd.typeIs (by decide) PySem.F.slot_dict_delitem
    (call_meetsIn PySem.F.slot_dict_delitem dd.typeIs PySem.F.entry_dict_delitem (PySem.F.args_dict_delitem_2 _ _) (meets_dict_delitem_pairs (mixKind X.prog X.w) a (kV_is ry)) ⟨vs, dd, by rw [← rel.length]; exact z, by rw [← (rel.val k).isSome_eq]; exact l, fun h' dd' hs => h _ ?_⟩)
  have he : ∃ q, h'.get? a = some q := let ⟨q, _, _, hq, _⟩ := dd'; ⟨q, hq⟩
  exact d_write I (by rw [e]; exact True.intro) hs he (dk_new (Nat.le_trans (dropK_le kvs k) z) hd (rel.drop k) dd')
/-- d.pop(k[, x]), there -/
theorem d_pop {v : V} {more : List Value} {Q : Value → Shared → Prop} (I : Inv X pins σ H s) (e : H a = some (.dK kvs)) (ry : RelV (kV k) u) (l : valV kvs k = some v) (hm : more = [] ∨ ∃ x, more = [x])
    (h : ∀ w' s', Inv X pins σ (upd H a (.dK (dropK kvs k))) s' → RelV v w' → Q w' s') : wpAny (model X.prog X.w) A (call (.builtin "dict.pop") (.ref a :: u :: more)) Q E s := by
  obtain ⟨z, hd, vs, rel, dd⟩ := dk_of I.hok e
  obtain ⟨w', hw, rw'⟩ := RelO.some_of (v := v) (o := valueAt vs k) (by rw [← l]; exact rel.val k)
  have hp : (keyPart u).isSome = true := by
    cases k with
    | inl i => obtain ⟨t, q⟩ := (show ∃ t, u = Value.int i t from ry); subst q; rfl
    | inr x => obtain ⟨t, q⟩ := (show ∃ t, u = Value.str x t from ry); subst q; rfl
  have ha : argsOk "dict.pop" ⟨.ref a :: u :: more, []⟩ := by
    rcases hm with q | ⟨x, q⟩
    · subst q; exact PySem.F.args_dict_pop_2 _ _
    · subst q; exact PySem.F.args_dict_pop_3 _ _ _
  refine call_meetsIn PySem.F.slot_dict_pop dd.typeIs PySem.F.entry_dict_pop ha (meets_dict_pop_there (mixKind X.prog X.w) a (kV_is ry) more hm hp)
    ⟨vs, w', dd, by rw [← rel.length]; exact z, hw, fun h' dd' hs => h w' _ ?_ rw'⟩
  have he : ∃ q, h'.get? a = some q := let ⟨q, _, _, hq, _⟩ := dd'; ⟨q, hq⟩
  exact d_write I (by rw [e]; exact True.intro) hs he (dk_new (Nat.le_trans (dropK_le kvs k) z) hd (rel.drop k) dd')
/-- d.pop(k, x), not there -/
theorem d_popD {r : Value} {Q : Value → Shared → Prop} (I : Inv X pins σ H s) (e : H a = some (.dK kvs)) (ry : RelV (kV k) u) (l : valV kvs k = none) (h : ∀ s', Inv X pins σ H s' → Q r s') :
    wpAny (model X.prog X.w) A (call (.builtin "dict.pop") [.ref a, u, r]) Q E s := by
  obtain ⟨z, hd, vs, rel, dd⟩ := dk_of I.hok e
  have hn : valueAt vs k = none := RelO.none_of (by rw [← l]; exact rel.val k)
  have hp : (keyPart u).isSome = true := by
    cases k with
    | inl i => obtain ⟨t, q⟩ := (show ∃ t, u = Value.int i t from ry); subst q; rfl
    | inr x => obtain ⟨t, q⟩ := (show ∃ t, u = Value.str x t from ry); subst q; rfl
  exact call_meetsIn PySem.F.slot_dict_pop dd.typeIs PySem.F.entry_dict_pop (PySem.F.args_dict_pop_3 _ _ _) (meets_dict_pop_default (mixKind X.prog X.w) a (kV_is ry) hd hp r) ⟨vs, dd, hn, h _ (I.tok _)⟩
/-- d.clear() -/
theorem d_clear {Q : Value → Shared → Prop} (I : Inv X pins σ H s) (e : H a = some (.dK kvs)) (h : ∀ s', Inv X pins σ (upd H a (.dK [])) s' → Q .none s') : wpAny (model X.prog X.w) A (call (.builtin "dict.clear") [.ref a]) Q E s := by
  obtain ⟨z, hd, vs, rel, dd⟩ := dk_of I.hok e
  refine call_meetsIn PySem.F.slot_dict_clear dd.typeIs PySem.F.entry_dict_clear (PySem.F.args_dict_clear_1 _) (meets_dict_clear (mixKind X.prog X.w) a) ⟨vs, dd, by rw [← rel.length]; exact z, fun h' dd' hs => h _ ?_⟩
  have he : ∃ q, h'.get? a = some q := let ⟨q, _, _, hq, _⟩ := dd'; ⟨q, hq⟩
  exact d_write (t' := s.toks) I (by rw [e]; exact True.intro) hs he (dk_new (Nat.zero_le _) hd .nil dd')
/-- len(d) -/
theorem d_len {Q : Value → Shared → Prop} (I : Inv X pins σ H s) (e : Rd H a (.dK kvs)) (h : ∀ t s', Inv X pins σ H s' → Q (.int kvs.length t) s') : wpAny (model X.prog X.w) A (call (.builtin "len") [.ref a]) Q E s := by
  obtain ⟨z, hd, vs, rel, dd⟩ := dk_rd I.hok e
  refine call_len_dict hd dd (by rw [← rel.length]; rw [sizeLine_eq] at z; omega) ?_
  rw [← rel.length]
  exact h _ _ (I.tok _)
/-- if d -/
theorem d_truth {Q : Bool → Shared → Prop} (I : Inv X pins σ H s) (e : Rd H a (.dK kvs)) (h : ∀ s', Inv X pins σ H s' → Q (!kvs.isEmpty) s') : wpAny (model X.prog X.w) A (truthy (.ref a)) Q E s := by
  obtain ⟨z, hd, vs, rel, dd⟩ := dk_rd I.hok e
  refine wpAny_truthy_dict hd dd (by rw [← rel.length]; rw [sizeLine_eq] at z; omega) ?_
  have q : kvs.isEmpty = vs.isEmpty := by cases rel <;> rfl
  rw [← q]
  exact h _ (I.tok _)
end


/-! ### readings and rules -/
/-- the element of a subscription, not a slice -/
def NoSl (i : Expr) : Prop := ∀ ov iv, subscripted i false ov iv = operate [ov, iv] (getItem ov iv)
theorem subD_of {prog : Program} {w : World} {A : Around} {E : Value → Shared → Prop} {s : Shared} {env : Env} {value slice : Expr} {pos : Pos} {T id : String} {Q : Value → Shared → Prop}
    (hl : typeLookup (.type T) "__getitem__" = pure (some (.builtin id))) (hs : NoSl slice)
    (h : wpAny (model prog w) A (eval value env) (fun o s₁ => wpAny (model prog w) A (eval slice env) (fun i s₂ => s₂.TypeIs o T ∧ wpAny (model prog w) A (getItem o i) Q E s₂) E s₁) E s) :
    wpAny (model prog w) A (eval (.Subscript value slice pos) env) Q E s := by
  refine Subscript_ (wpAny_mono h (fun o s₁ h₁ => wpAny_mono h₁ (fun i s₂ h₂ => ?_) fun _ _ x => x) fun _ _ x => x)
  obtain ⟨hT, h₂⟩ := h₂
  unfold subscriptTail
  refine wpAny_bind ?_
  rw [getitemInPython_of_ne hT.not_modules]
  refine wpAny_bind (wpAny_specialOf hT hl ?_)
  have fin : wpAny (model prog w) A (subscripted slice false o i) (fun r s₃ => wpAny (model prog w) A (letTemporaryGo value o r >>= fun _ => pure r) Q E s₃) E s₂ := by
    rw [hs o i]
    exact wpAny_operating (wpAny_mono h₂ (fun r s₃ h₃ => wpAny_bind (wpAny_letTemporaryGo (wpAny_pure h₃))) fun _ _ x => x)
  first
    | exact wpAny_pure (wpAny_bind fin)
    | exact wpAny_bind (wpAny_pure (wpAny_bind fin))
    | exact wpAny_bind fin

theorem dict_typeIs {X : Cx} {pins : List (Addr × Obj)} {σ : St} {H : Hp} {s : Shared} {a : Addr} {y : V} {o : Option V} (I : Inv X pins σ H s) (g : DGet H a y o) : s.TypeIs (.ref a) "dict" := by
  rcases g with ⟨kvs, k, e, _, _⟩ | ⟨kvs, k, b, e, _, _, _⟩
  · obtain ⟨_, _, vs, _, dd⟩ := dk_rd I.hok e
    exact dd.typeIs
  · obtain ⟨_, _, xs, _, dd⟩ := dt_rd I.hok e
    exact dd.typeIs
theorem dict_noDict {X : Cx} {pins : List (Addr × Obj)} {σ : St} {H : Hp} {s : Shared} {a : Addr} {y : V} {o : Option V} (I : Inv X pins σ H s) (g : DGet H a y o) :
    ∀ b, Value.ref a = .ref b → ∃ ob, s.heap.get? b = some ob ∧ ob.dict = none := fun b q => by
  cases q
  rcases g with ⟨kvs, k, e, _, _⟩ | ⟨kvs, k, b, e, _, _, _⟩
  · obtain ⟨_, _, vs, _, ob, _, _, h1, h2, _⟩ := dk_rd I.hok e
    exact ⟨ob, h1, h2.2.1⟩
  · obtain ⟨_, _, xs, _, ob, _, _, h1, h2, _⟩ := dt_rd I.hok e
    exact ⟨ob, h1, h2.2.1⟩

/-- d[y] -/
def tDGet (td ty : TE) : TE := fun σ H Q => td σ H fun x H1 => ty σ H1 fun y H2 => ∃ a v, x = .ref a ∧ DGet H2 a y (some v) ∧ Q v H2
/-- y in d, y not in d -/
def tDIn (ty td : TE) : TE := fun σ H Q => ty σ H fun y H1 => td σ H1 fun x H2 => ∃ a o, x = .ref a ∧ DGet H2 a y o ∧ Q (.bl o.isSome) H2
def tDNotIn (ty td : TE) : TE := fun σ H Q => ty σ H fun y H1 => td σ H1 fun x H2 => ∃ a o, x = .ref a ∧ DGet H2 a y o ∧ Q (.bl (!o.isSome)) H2
/-- d[y] = v -/
def sDPut (td ty tv : TE) : TS := fun D σ H => tv σ H fun v H1 => td σ H1 fun x H2 => ty σ H2 fun y H3 => ∃ a H4, x = .ref a ∧ DPut H3 a y v H4 ∧ D.nx σ H4
/-- d[y] op= v -/
def sDAug (td ty tv : TE) (rd : V → V → Hp → VK → Prop) : TS := fun D σ H => td σ H fun x H1 => ty σ H1 fun y H2 => ∃ a v, x = .ref a ∧ DGet H2 a y (some v) ∧
  tv σ H2 fun y2 H3 => rd v y2 H3 fun z H4 => ∃ H5, DPut H4 a y z H5 ∧ D.nx σ H5
/-- del d[y] -/
def sDDel (td ty : TE) : TS := fun D σ H => td σ H fun x H1 => ty σ H1 fun y H2 => ∃ a kvs k, x = .ref a ∧ H2 a = some (.dK kvs) ∧ y = kV k ∧ (valV kvs k).isSome = true ∧ D.nx σ (upd H2 a (.dK (dropK kvs k)))

section
variable {X : Cx} {o i e value : Expr} {pos pos' tpos : Pos} {td ty tv : TE}
theorem pe_dget (hu : X.A.units + 1 < cLine) (ho : PE X o td) (hi : PE X i ty) (hs : NoSl i) : PE X (.Subscript o i pos) (tDGet td ty) := by
  intro pins s σ H Q I h
  refine subD_of PySem.F.slot_dict_getitem.lookup hs (thn (ho pins s σ H _ I h) fun u s1 ⟨x, H1, I1, rx, q1⟩ => thn (hi pins s1 σ H1 _ I1 q1) fun iv s2 ⟨y, H2, I2, ry, a, v, ex, g, q2⟩ => ?_)
  subst ex
  obtain rfl : u = Value.ref a := rx
  exact ⟨dict_typeIs I2 g, d_getItem hu I2 g ry fun w' s3 I3 rw' => ⟨v, H2, I3, rw', q2⟩⟩
theorem pc_din (hu : X.A.units + 1 < cLine) (hi : PE X i ty) (ho : PE X o td) : PC X .In i o (tDIn ty td) := by
  intro pins s σ H Q I h
  refine thn (hi pins s σ H _ I h) fun iv s1 ⟨y, H1, I1, ry, q1⟩ => thn (ho pins s1 σ H1 _ I1 q1) fun u s2 ⟨x, H2, I2, rx, a, ov, ex, g, q2⟩ => ?_
  subst ex
  obtain rfl : u = Value.ref a := rx
  exact d_in hu I2 g ry fun s3 I3 => ⟨.bl ov.isSome, H2, I3, rfl, q2⟩
theorem pc_dnotin (hu : X.A.units + 1 < cLine) (hi : PE X i ty) (ho : PE X o td) : PC X .NotIn i o (tDNotIn ty td) := by
  intro pins s σ H Q I h
  refine thn (hi pins s σ H _ I h) fun iv s1 ⟨y, H1, I1, ry, q1⟩ => thn (ho pins s1 σ H1 _ I1 q1) fun u s2 ⟨x, H2, I2, rx, a, ov, ex, g, q2⟩ => ?_
  subst ex
  obtain rfl : u = Value.ref a := rx
  exact d_notIn hu I2 g ry fun s3 I3 => ⟨.bl (!ov.isSome), H2, I3, rfl, q2⟩
theorem ps_dput (hu : X.A.units + 1 < cLine) (ho : PE X o td) (hi : PE X i ty) (hv : PE X value tv) (hs : swapsWith value (some (.Subscript o i pos')) pos.line X.env = pure false) :
    PS X (.Assign [.Subscript o i pos'] value pos) (sDPut td ty tv) := by
  intro pins s σ H D I h
  refine wpAny_Assign_Subscript (thn (hv pins s σ H _ I h) fun r s1 ⟨v, H1, I1, rv, q1⟩ => thn (ho pins s1 σ H1 _ I1 q1) fun u s2 ⟨x, H2, I2, rx, q2⟩ => thn (hi pins s2 σ H2 _ I2 q2) fun iv s3 ⟨y, H3, I3, ry, a, H4, ex, g, q3⟩ => ?_) hs
  subst ex
  obtain rfl : u = Value.ref a := rx
  exact d_setItem hu I3 g ry rv fun s4 I4 => ⟨σ, H4, I4, q3⟩
theorem ps_daug {op : Operator} {rd : V → V → Hp → VK → Prop} (hu : X.A.units + 1 < cLine) (ho : PE X o td) (hi : PE X i ty) (hv : PE X value tv) (hop : InOp X op rd)
    (ha : ∀ ov iv new, augStore i ov iv new = (do holding [new, ov, iv] (setItem ov iv new); release [new, ov, iv] []; pure .next)) : PS X (.AugAssign (.Subscript o i tpos) op value pos) (sDAug td ty tv rd) := by
  intro pins s σ H D I h
  refine wpAny_AugAssign_SubscriptAny (thn (ho pins s σ H _ I h) fun u s1 ⟨x, H1, I1, rx, q1⟩ => thn (hi pins s1 σ H1 _ I1 q1) fun iv s2 ⟨y, H2, I2, ry, a, v, ex, g, q2⟩ => ?_) ha
  subst ex
  obtain rfl : u = Value.ref a := rx
  refine d_getItem hu I2 g ry fun w' s3 I3 rw' => thn (hv pins s3 σ H2 _ I3 q2) fun w2 s4 ⟨y2, H3, I4, ry2, q3⟩ => thn (hop pins s4 σ H3 v y2 w' w2 _ I4 rw' ry2 q3) fun w3 s5 ⟨z, H4, I5, rz, H5, g5, q4⟩ => ?_
  exact d_setItem hu I5 g5 ry rz fun s6 I6 => ⟨σ, H5, I6, q4⟩
theorem ps_ddel (ho : PE X o td) (hi : PE X i ty) : PS X (.Delete [.Subscript o i tpos] pos) (sDDel td ty) := by
  intro pins s σ H D I h
  refine wpAny_Delete (wpAny_deleteEach_cons (wpAny_delete_Subscript (thn (ho pins s σ H _ I h) fun u s1 ⟨x, H1, I1, rx, q1⟩ => thn (hi pins s1 σ H1 _ I1 q1) fun iv s2 ⟨y, H2, I2, ry, a, kvs, k, ex, e, ey, l, q2⟩ => ?_)))
  subst ex ey
  obtain rfl : u = Value.ref a := rx
  exact d_delItem I2 e ry l fun s3 I3 => wpAny_deleteEach_nil ⟨σ, _, I3, q2⟩
end


/-! ### displays -/
theorem dk_empty {P : Program} {w : World} {H : Hp} (h : Heap) (hb : sysModules < h.objs.size) : ObjOk P w H (h.push { cls := .type "dict", data := .dict #[] }) h.objs.size (.dK []) :=
  ⟨Nat.zero_le _, beq_eq_false_iff_ne.mpr (Ne.symm (Nat.ne_of_lt hb)), [], .nil, Heap.DictOf.new h⟩
theorem dt_empty {P : Program} {w : World} {H : Hp} (h : Heap) (hb : sysModules < h.objs.size) : ObjOk P w H (h.push { cls := .type "dict", data := .dict #[] }) h.objs.size (.dT []) :=
  ⟨Nat.zero_le _, beq_eq_false_iff_ne.mpr (Ne.symm (Nat.ne_of_lt hb)), [], .nil, _, #[], 0, Heap.get?_push_size _ rfl, ⟨rfl, rfl, rfl⟩, rfl, rfl, List.nodup_nil⟩
/-- {}, to be a dict of the kind that is wanted -/
def tDNewK : TE := fun _ H Q => ∀ p, H p = none → Q (.ref p) (upd H p (.dK []))
def tDNewT : TE := fun _ H Q => ∀ p, H p = none → Q (.ref p) (upd H p (.dT []))
section
variable {X : Cx} {pos : Pos}
theorem pe_dnewK : PE X (.Dict [] [] pos) tDNewK := fun pins s σ H Q I h =>
  wpAny_Dict_empty ⟨.ref s.heap.objs.size, _, I.laid (a := s.heap.objs.size) (o := .dK []) (t' := s.toks) (fun _ _ q => Heap.get?_push_of_some _ q) (Nat.le_refl _) (dk_empty s.heap I.big), rfl, h _ (I.hok.fresh (Nat.le_refl _))⟩
theorem pe_dnewT : PE X (.Dict [] [] pos) tDNewT := fun pins s σ H Q I h =>
  wpAny_Dict_empty ⟨.ref s.heap.objs.size, _, I.laid (a := s.heap.objs.size) (o := .dT []) (t' := s.toks) (fun _ _ q => Heap.get?_push_of_some _ q) (Nat.le_refl _) (dt_empty s.heap I.big), rfl, h _ (I.hok.fresh (Nat.le_refl _))⟩
end

/-- the pairs of a display, from the left -/
def tPairs : List (TE × TE) → St → Hp → (List (V × V) → Hp → Prop) → Prop
  | [], _, H, Q => Q [] H
  | (tk, tv) :: r, σ, H, Q => tk σ H fun x H1 => tv σ H1 fun y H2 => tPairs r σ H2 fun ps H3 => Q ((x, y) :: ps) H3
abbrev VV : List (V × V) → List (Value × Value) → Prop := Paired fun p q => RelV p.1 q.1 ∧ RelV p.2 q.2
def PPs (X : Cx) (pos : Pos) (keys : List (Option Expr)) (values : List Expr) (trs : List (TE × TE)) : Prop :=
  ∀ (pins : List (Addr × Obj)) (s : Shared) (σ : St) (H : Hp) (Q : List (V × V) → Hp → Prop), Inv X pins σ H s → tPairs trs σ H Q →
    wpAny (model X.prog X.w) X.A (evalPairs (pairTrees keys values X.env pos)) (fun vs s' => ∃ ps H', Inv X pins σ H' s' ∧ VV ps vs ∧ Q ps H') X.xe s
theorem pps_nil {X : Cx} {pos : Pos} : PPs X pos [] [] [] := fun pins s σ H Q I h => pairTrees_nil_walk ⟨[], H, I, .nil, h⟩
theorem pps_cons {X : Cx} {pos : Pos} {k v : Expr} {ks : List (Option Expr)} {vs : List Expr} {tk tv : TE} {trs : List (TE × TE)} (hk : PE X k tk) (hv : PE X v tv) (hr : PPs X pos ks vs trs) :
    PPs X pos (some k :: ks) (v :: vs) ((tk, tv) :: trs) := fun pins s σ H Q I h =>
  pairTrees_cons_walk (thn (hk pins s σ H _ I h) fun u s1 ⟨x, H1, I1, rx, q1⟩ => thn (hv pins s1 σ H1 _ I1 q1) fun w2 s2 ⟨y, H2, I2, ry, q2⟩ =>
    thn (hr pins s2 σ H2 _ I2 q2) fun ws s3 ⟨ps, H3, I3, rel, q3⟩ => ⟨(x, y) :: ps, H3, I3, .cons ⟨rx, ry⟩ rel, q3⟩)

def mergeK (kvs more : List (Key × V)) : List (Key × V) := more.foldl (fun acc kv => putK acc kv.1 kv.2) kvs
theorem KV.merge : ∀ {more : List (Key × V)} {rs : List (Key × Value)} {kvs : List (Key × V)} {vs : List (Key × Value)}, KV more rs → KV kvs vs → KV (mergeK kvs more) (merged vs rs) := by
  intro more rs kvs vs r
  unfold KV at r
  induction r generalizing kvs vs with
  | nil => intro q; exact q
  | @cons p q ps qs h t ih =>
    intro r0
    have e : KV (putK kvs p.1 p.2) (stored vs q.1 q.2) := by
      have := r0.put p.1 h.2
      rw [← h.1]; exact this
    exact ih e
theorem length_mergeK : ∀ (more kvs : List (Key × V)), (mergeK kvs more).length ≤ kvs.length + more.length
  | [], kvs => by show kvs.length ≤ kvs.length + 0; omega
  | p :: r, kvs => by
    have h1 := length_mergeK r (putK kvs p.1 p.2)
    have h2 := length_putK kvs p.1 p.2
    show (mergeK (putK kvs p.1 p.2) r).length ≤ _
    rw [List.length_cons]; omega
theorem carries_of {P : Program} {w : World} : ∀ {kvs : List (Key × V)} {ws : List (Value × Value)}, VV (kvs.map fun kv => (kV kv.1, kv.2)) ws → ∃ rs, Carries (mixKind P w) ws rs ∧ KV kvs rs
  | [], _, r => by rw [List.map_nil] at r; cases r; exact ⟨[], True.intro, .nil⟩
  | p :: kvs, _, r => by
    rw [List.map_cons] at r
    cases r with
    | @cons a b as bs h t =>
      obtain ⟨rs, c, q⟩ := carries_of (P := P) (w := w) t
      obtain ⟨b1, b2⟩ := b
      exact ⟨(p.1, b2) :: rs, ⟨kV_is h.1, rfl, c⟩, .cons ⟨rfl, h.2⟩ q⟩
/-- {k: v, ..} with keys ints and texts; the new dict stands empty while the pairs are made -/
def tDisp (trs : List (TE × TE)) : TE := fun σ H Q => ∀ p, H p = none → tPairs trs σ (upd H p (.dK [])) fun ps H2 => H2 p = some (.dK []) ∧ ∃ kvs : List (Key × V), ps = kvs.map (fun kv => (kV kv.1, kv.2)) ∧ kvs.length ≤ 15 ∧ Q (.ref p) (upd H2 p (.dK (mergeK [] kvs)))
theorem pe_disp {X : Cx} {pos : Pos} {keys : List (Option Expr)} {values : List Expr} {trs : List (TE × TE)} (h : PPs X pos keys values trs) (hall : keys.all (·.isSome) = true) (hl : keys.length = values.length) (h0 : keys ≠ [])
    (h15 : keys.length ≤ 15) : PE X (.Dict keys values pos) (tDisp trs) := by
  intro pins s σ H Q I q
  have hn := I.hok.fresh (Nat.le_refl s.heap.objs.size)
  have I1 := I.laid (a := s.heap.objs.size) (o := .dK []) (h' := s.heap.push { cls := .type "dict", data := .dict #[] }) (t' := s.toks) (fun _ _ q => Heap.get?_push_of_some _ q) (Nat.le_refl _) (dk_empty s.heap I.big)
  refine wpAny_Dict_walk (knd := mixKind X.prog X.w) hall hl h0 h15 (thn (h pins _ σ _ _ I1 (q _ hn)) fun ws s2 ⟨ps, H2, I2, rel, e, kvs, ep, lk, q2⟩ => ?_)
  subst ep
  obtain ⟨rs, c, rk⟩ := carries_of (P := X.prog) (w := X.w) rel
  obtain ⟨z, hd, vs0, r0, dd⟩ := dk_of I2.hok e
  cases r0
  refine ⟨rs, c, dd, fun h' dd' hs => ⟨.ref s.heap.objs.size, _, ?_, rfl, q2⟩⟩
  have hz : (mergeK [] kvs).length ≤ sizeLine := by
    have h1 := length_mergeK kvs []
    rw [List.length_nil] at h1
    rw [sizeLine_eq]; omega
  have he : ∃ q, h'.get? s.heap.objs.size = some q := let ⟨q, _, _, hq, _⟩ := dd'; ⟨q, hq⟩
  exact d_write I2 (by rw [e]; exact True.intro) hs he (dk_new hz hd (rk.merge .nil) dd')


/-! ### methods -/
/-- a method call o.m(e) of a built-in, with one argument: what must be seen of the text -/
structure M1 (X : Cx) (o : Expr) (m : Str) (apos : Pos) (e : Expr) (cpos : Pos) : Prop where
  base : attributeBase o m X.env (eval o X.env) = eval o X.env
  few : ((backTo cpos (starEach [e] X.env)).all (fun x => !x.1) && (backToKw cpos (keywordEach [] X.env)).all (fun x => x.1.isSome)
    && decide (([e] : List Expr).length + ([] : List Keyword).length + (if ([] : List Keyword).isEmpty then 0 else 1) < 30)) = true
  line : (apos.endLine == cpos.line) = true
  trees : backTo cpos (starEach [e] X.env) = [(false, eval e X.env)]
structure M2 (X : Cx) (o : Expr) (m : Str) (apos : Pos) (e f : Expr) (cpos : Pos) : Prop where
  base : attributeBase o m X.env (eval o X.env) = eval o X.env
  few : ((backTo cpos (starEach [e, f] X.env)).all (fun x => !x.1) && (backToKw cpos (keywordEach [] X.env)).all (fun x => x.1.isSome)
    && decide (([e, f] : List Expr).length + ([] : List Keyword).length + (if ([] : List Keyword).isEmpty then 0 else 1) < 30)) = true
  line : (apos.endLine == cpos.line) = true
  trees : backTo cpos (starEach [e, f] X.env) = [(false, eval e X.env), (false, eval f X.env)]

/-- a is a dict, whatever its keys -/
def IsD (H : Hp) (a : Addr) : Prop := (∃ kvs, Rd H a (.dK kvs)) ∨ ∃ kvs, Rd H a (.dT kvs)
theorem isD_at {X : Cx} {pins : List (Addr × Obj)} {σ : St} {H : Hp} {s : Shared} {a : Addr} (I : Inv X pins σ H s) (d : IsD H a) :
    s.TypeIs (.ref a) "dict" ∧ (∀ b, Value.ref a = .ref b → ∃ ob, s.heap.get? b = some ob ∧ ob.dict = none) ∧ (a == sysModules) = false := by
  rcases d with ⟨kvs, e⟩ | ⟨kvs, e⟩
  · obtain ⟨_, hd, vs, _, dd⟩ := dk_rd I.hok e
    refine ⟨dd.typeIs, fun b q => ?_, hd⟩
    cases q
    obtain ⟨ob, _, _, h1, h2, _⟩ := dd
    exact ⟨ob, h1, h2.2.1⟩
  · obtain ⟨_, hd, xs, _, dd⟩ := dt_rd I.hok e
    refine ⟨dd.typeIs, fun b q => ?_, hd⟩
    cases q
    obtain ⟨ob, _, _, h1, h2, _⟩ := dd
    exact ⟨ob, h1, h2.2.1⟩

section
variable {X : Cx} {pins : List (Addr × Obj)} {σ : St} {H : Hp} {s : Shared} {a : Addr} {y d : V} {u r : Value} {o : Option V} {A : Around} {E : Value → Shared → Prop}
/-- d.get(y) -/
theorem d_get1 {Q : Value → Shared → Prop} (hu : A.units + 1 < cLine) (I : Inv X pins σ H s) (g : DGet H a y o) (ry : RelV y u) (h : ∀ w' s', Inv X pins σ H s' → RelV (o.getD .non) w' → Q w' s') :
    wpAny (model X.prog X.w) A (call (.builtin "dict.get") [.ref a, u]) Q E s := by
  rcases g with ⟨kvs, k, e, ey, l⟩ | ⟨kvs, k, b, e, ey, eb, l⟩
  · subst ey
    obtain ⟨z, hd, vs, rel, dd⟩ := dk_rd I.hok e
    refine call_meetsIn PySem.F.slot_dict_get dd.typeIs PySem.F.entry_dict_get (PySem.F.args_dict_get_2 _ _) (meets_dict_get (mixKind X.prog X.w) a (kV_is ry) hd) ⟨_, dd.mapOf, h _ _ (I.tok _) ?_⟩
    rw [l]
    exact (rel.val k).getD rfl
  · subst ey
    cases (show u = Value.ref b from ry)
    obtain ⟨z, hd, xs, rel, dd⟩ := dt_rd I.hok e
    refine call_meetsIn PySem.F.slot_dict_get dd.typeIs PySem.F.entry_dict_get (PySem.F.args_dict_get_2 _ _) (meetsH_dict_get (tupleKind (mixKind X.prog X.w)) a b hd) ⟨tupleKind_room_in1 hu, k, xs, key_of I.hok eb, dd, h _ _ (I.tok _) ?_⟩
    rw [l]
    exact (rel.val k).getD rfl
/-- d.get(y, x) -/
theorem d_get2 {Q : Value → Shared → Prop} (hu : A.units + 1 < cLine) (I : Inv X pins σ H s) (g : DGet H a y o) (ry : RelV y u) (rd : RelV d r) (h : ∀ w' s', Inv X pins σ H s' → RelV (o.getD d) w' → Q w' s') :
    wpAny (model X.prog X.w) A (call (.builtin "dict.get") [.ref a, u, r]) Q E s := by
  rcases g with ⟨kvs, k, e, ey, l⟩ | ⟨kvs, k, b, e, ey, eb, l⟩
  · subst ey
    obtain ⟨z, hd, vs, rel, dd⟩ := dk_rd I.hok e
    refine call_meetsIn PySem.F.slot_dict_get dd.typeIs PySem.F.entry_dict_get (PySem.F.args_dict_get_3 _ _ _) (meets_dict_get_default (mixKind X.prog X.w) a (kV_is ry) hd r) ⟨_, dd.mapOf, h _ _ (I.tok _) ?_⟩
    rw [l]
    exact (rel.val k).getD rd
  · subst ey
    cases (show u = Value.ref b from ry)
    obtain ⟨z, hd, xs, rel, dd⟩ := dt_rd I.hok e
    refine call_meetsIn PySem.F.slot_dict_get dd.typeIs PySem.F.entry_dict_get (PySem.F.args_dict_get_3 _ _ _) (meetsH_dict_get_default (tupleKind (mixKind X.prog X.w)) a b hd r) ⟨tupleKind_room_in1 hu, k, xs, key_of I.hok eb, dd, h _ _ (I.tok _) ?_⟩
    rw [l]
    exact (rel.val k).getD rd
end

def tDGet1 (td ty : TE) : TE := fun σ H Q => td σ H fun x H1 => ∃ a, x = .ref a ∧ IsD H1 a ∧ ty σ H1 fun y H2 => ∃ o, DGet H2 a y o ∧ Q (o.getD .non) H2
def tDGet2 (td ty tx : TE) : TE := fun σ H Q => td σ H fun x H1 => ∃ a, x = .ref a ∧ IsD H1 a ∧ ty σ H1 fun y H2 => tx σ H2 fun z H3 => ∃ o, DGet H3 a y o ∧ Q (o.getD z) H3
/-- d.pop(k): there; d.pop(k, x): there or not -/
def tDPop1 (td ty : TE) : TE := fun σ H Q => td σ H fun x H1 => ∃ a, x = .ref a ∧ IsD H1 a ∧ ty σ H1 fun y H2 => ∃ kvs k v, H2 a = some (.dK kvs) ∧ y = kV k ∧ valV kvs k = some v ∧ Q v (upd H2 a (.dK (dropK kvs k)))
def tDPop2 (td ty tx : TE) : TE := fun σ H Q => td σ H fun x H1 => ∃ a, x = .ref a ∧ IsD H1 a ∧ ty σ H1 fun y H2 => tx σ H2 fun z H3 => ∃ kvs k, H3 a = some (.dK kvs) ∧ y = kV k ∧
  (∀ v, valV kvs k = some v → Q v (upd H3 a (.dK (dropK kvs k)))) ∧ (valV kvs k = none → Q z H3)
section
variable {X : Cx} {o e f : Expr} {apos cpos : Pos} {td ty tx : TE}
theorem pe_dget1 (hu : X.A.units + 1 < cLine) (ho : PE X o td) (he : PE X e ty) (m : M1 X o "get" apos e cpos) : PE X (.Call (.Attribute o "get" apos) [e] [] cpos) (tDGet1 td ty) := by
  intro pins s σ H Q I h
  refine wpAny_Call_method m.base m.few m.line PySem.F.plainAttrs_dict PySem.F.slot_dict_get PySem.F.type_dict_get (thn (ho pins s σ H _ I h) fun u s1 ⟨x, H1, I1, rx, a, ex, d, q1⟩ => ?_)
  subst ex
  obtain rfl : u = Value.ref a := rx
  obtain ⟨t1, t2, _⟩ := isD_at I1 d
  refine ⟨t1, t2, ?_⟩
  rw [m.trees]
  refine Calls.callWith_builtin rfl (Calls.evalArgs_plain (Calls.spliced_cons (thn (he pins s1 σ H1 _ I1 q1) fun iv s2 ⟨y, H2, I2, ry, ov, g, q2⟩ => Calls.spliced_nil ?_)))
  exact d_get1 hu I2 g ry fun w' s3 I3 rw' => ⟨_, H2, I3, rw', q2⟩
theorem pe_dget2 (hu : X.A.units + 1 < cLine) (ho : PE X o td) (he : PE X e ty) (hf : PE X f tx) (m : M2 X o "get" apos e f cpos) : PE X (.Call (.Attribute o "get" apos) [e, f] [] cpos) (tDGet2 td ty tx) := by
  intro pins s σ H Q I h
  refine wpAny_Call_method m.base m.few m.line PySem.F.plainAttrs_dict PySem.F.slot_dict_get PySem.F.type_dict_get (thn (ho pins s σ H _ I h) fun u s1 ⟨x, H1, I1, rx, a, ex, d, q1⟩ => ?_)
  subst ex
  obtain rfl : u = Value.ref a := rx
  obtain ⟨t1, t2, _⟩ := isD_at I1 d
  refine ⟨t1, t2, ?_⟩
  rw [m.trees]
  refine Calls.callWith_builtin rfl (Calls.evalArgs_plain (Calls.spliced_cons (thn (he pins s1 σ H1 _ I1 q1) fun iv s2 ⟨y, H2, I2, ry, q2⟩ =>
    Calls.spliced_cons (thn (hf pins s2 σ H2 _ I2 q2) fun fv s3 ⟨z, H3, I3, rz, ov, g, q3⟩ => Calls.spliced_nil ?_))))
  exact d_get2 hu I3 g ry rz fun w' s4 I4 rw' => ⟨_, H3, I4, rw', q3⟩
theorem pe_dpop1 (ho : PE X o td) (he : PE X e ty) (m : M1 X o "pop" apos e cpos) : PE X (.Call (.Attribute o "pop" apos) [e] [] cpos) (tDPop1 td ty) := by
  intro pins s σ H Q I h
  refine wpAny_Call_method m.base m.few m.line PySem.F.plainAttrs_dict PySem.F.slot_dict_pop PySem.F.type_dict_pop (thn (ho pins s σ H _ I h) fun u s1 ⟨x, H1, I1, rx, a, ex, d, q1⟩ => ?_)
  subst ex
  obtain rfl : u = Value.ref a := rx
  obtain ⟨t1, t2, _⟩ := isD_at I1 d
  refine ⟨t1, t2, ?_⟩
  rw [m.trees]
  refine Calls.callWith_builtin rfl (Calls.evalArgs_plain (Calls.spliced_cons (thn (he pins s1 σ H1 _ I1 q1) fun iv s2 ⟨y, H2, I2, ry, kvs, k, v, ea, ey, l, q2⟩ => Calls.spliced_nil ?_)))
  subst ey
  exact d_pop I2 ea ry l (.inl rfl) fun w' s3 I3 rw' => ⟨v, _, I3, rw', q2⟩
theorem pe_dpop2 (ho : PE X o td) (he : PE X e ty) (hf : PE X f tx) (m : M2 X o "pop" apos e f cpos) : PE X (.Call (.Attribute o "pop" apos) [e, f] [] cpos) (tDPop2 td ty tx) := by
  intro pins s σ H Q I h
  refine wpAny_Call_method m.base m.few m.line PySem.F.plainAttrs_dict PySem.F.slot_dict_pop PySem.F.type_dict_pop (thn (ho pins s σ H _ I h) fun u s1 ⟨x, H1, I1, rx, a, ex, d, q1⟩ => ?_)
  subst ex
  obtain rfl : u = Value.ref a := rx
  obtain ⟨t1, t2, _⟩ := isD_at I1 d
  refine ⟨t1, t2, ?_⟩
  rw [m.trees]
  refine Calls.callWith_builtin rfl (Calls.evalArgs_plain (Calls.spliced_cons (thn (he pins s1 σ H1 _ I1 q1) fun iv s2 ⟨y, H2, I2, ry, q2⟩ =>
    Calls.spliced_cons (thn (hf pins s2 σ H2 _ I2 q2) fun fv s3 ⟨z, H3, I3, rz, kvs, k, ea, ey, q3, q4⟩ => Calls.spliced_nil ?_))))
  subst ey
  cases l : valV kvs k with
  | some v => exact d_pop I3 ea ry l (.inr ⟨fv, rfl⟩) fun w' s4 I4 rw' => ⟨v, _, I4, rw', q3 v l⟩
  | none => exact d_popD I3 ea ry l fun s4 I4 => ⟨z, H3, I4, rz, q4 l⟩
end

/-! ### dict(d): a copy -/
section
variable {X : Cx} {pins : List (Addr × Obj)} {σ : St} {H : Hp} {s : Shared} {a : Addr} {kvs : List (Key × V)} {A : Around} {E : Value → Shared → Prop}
theorem d_copyOf {Q : Value → Shared → Prop} (I : Inv X pins σ H s) (e : Rd H a (.dK kvs)) (h : ∀ p s', H p = none → Inv X pins σ (upd H p (.dK kvs)) s' → Q (.ref p) s') : wpAny (model X.prog X.w) A (call (.type "dict") [.ref a]) Q E s := by
  obtain ⟨z, hd, vs, rel, dd⟩ := dk_rd I.hok e
  refine kt_call_dict hd dd (by rw [← rel.length]; exact z) fun h' dd' hs => ?_
  refine h _ _ (I.hok.fresh (Nat.le_refl _)) (I.laid (a := s.heap.objs.size) (o := .dK kvs) (t' := s.toks) (fun b q hq => ?_) (Nat.le_refl _) (dk_new z (beq_eq_false_iff_ne.mpr (Ne.symm (Nat.ne_of_lt I.big))) rel dd'))
  exact (hs.2 b (Nat.ne_of_lt (Heap.lt_size hq))).trans (Heap.get?_push_of_some _ hq)
end


section
variable {X : Cx} {pins : List (Addr × Obj)} {σ : St} {H : Hp} {s : Shared} {a : Addr} {y : V} {u : Value} {A : Around} {E : Value → Shared → Prop}
/-- d[y], not there: a KeyError -/
theorem d_missing {Q : Value → Shared → Prop} (hu : A.units + 1 < cLine) (hh : A.handled = none) (I : Inv X pins σ H s) (g : DGet H a y none) (ry : RelV y u)
    (h : ∀ h' e t', Heap.NewExc s.heap h' e "KeyError" → E (.ref e) { s with heap := h', toks := t' }) : wpAny (model X.prog X.w) A (getItem (.ref a) u) Q E s := by
  rcases g with ⟨kvs, k, e, ey, l⟩ | ⟨kvs, k, b, e, ey, eb, l⟩
  · subst ey
    obtain ⟨z, hd, vs, rel, dd⟩ := dk_rd I.hok e
    have hn : valueAt vs k = none := RelO.none_of (by rw [l]; exact rel.val k)
    exact wpAny_getItem_missing_of (kV_is ry) hd hh dd.mapOf hn fun h' ex ne => h h' ex _ ne
  · subst ey
    cases (show u = Value.ref b from ry)
    obtain ⟨z, hd, xs, rel, dd⟩ := dt_rd I.hok e
    have hn : (atKey xs k).map (·.2) = none := RelO.none_of (by rw [l]; exact rel.val k)
    exact wpAny_getItem_missing_heap (tupleKind_room_in1 hu) (key_of I.hok eb) hd hh dd (Option.map_eq_none_iff.mp hn) fun h' ex ne => h h' ex _ ne
end
end L2
namespace HT
open PySem PyProof.Rows

/-- t < u of tuples of ints -/
def lexLt : List Int → List Int → Bool
  | [], [] => false
  | [], _ :: _ => true
  | _ :: _, [] => false
  | x :: xs, y :: ys => if x = y then lexLt xs ys else decide (x < y)
theorem lexLt_cons (x y : Int) (xs ys : List Int) : lexLt (x :: xs) (y :: ys) = if x = y then lexLt xs ys else decide (x < y) := rfl
theorem lexLt_nil_nil : lexLt [] [] = false := rfl
theorem lexLt_nil_cons (y : Int) (ys : List Int) : lexLt [] (y :: ys) = true := rfl
theorem lexLt_cons_nil (x : Int) (xs : List Int) : lexLt (x :: xs) [] = false := rfl

theorem eqAt_int (A : Around) (s : Shared) (a : Int) (t : Tok) (c : Int) (u : Tok) : ∃ e, SeqAt.EqAt A s (.int a t) (.int c u) e ∧ (e = true ↔ a = c) :=
  ⟨(a == c), SeqAt.EqAt.int_int a t c u, by simp⟩
theorem rcLt_int (A : Around) (s : Shared) (a : Int) (t : Tok) (c : Int) (u : Tok) (prog : Program) (w : World) (E : Value → Shared → Prop) (Q : Value → Shared → Prop) (h : Q (.bool (decide (a < c))) s) :
    wpAny (model prog w) A (richCompare .Lt (.int a t) (.int c u)) Q E s :=
  (PyProof.Rows.lt_int h : wpAny (model prog w) A (compareOp .Lt (.int a t) (.int c u)) Q E s)

section
open PySem.SeqAt
open PySem.AutoSeq1 (wpAny_loadPart')
open PySem.MeetsSeq PySem.MeetsSeq2 PySem.MeetsSeq3

theorem tuple_lt_ints (l b : Addr) (items items2 : Array Value) (n n2 : Nat) (dd dd2 : Option Addr) (sl sl2 : Array (Option Value)) (ns ms : List Int) (hi : IntsAre items.toList ns) (hj : IntsAre items2.toList ms) :
    Meets (Builtin.«tuple.__lt__» ⟨[.ref l, .ref b], []⟩)
      (fun _ R s => s.heap.get? l = some { cls := .type "tuple", dict := dd, data := .seq items n, slots := sl } ∧ s.heap.get? b = some { cls := .type "tuple", dict := dd2, data := .seq items2 n2, slots := sl2 } ∧
        R (.ok (.ret (.bool (lexLt ns ms)))) s) :=
  .of_wp fun prog w A R s h => by
    obtain ⟨hp, g, d, tk, os⟩ := s; obtain ⟨hl, hb, h⟩ := h
    have f2 := AutoSeq1.sub_tuple_tuple
    have z1 : items.size = ns.length := by rw [← hi.length]; simp
    have z2 : items2.size = ms.length := by rw [← hj.length]; simp
    wp_walk using wpAny_loadPart' hl, wpAny_loadPart' hb, wpAny_forIn_list _ (fun rest b s' => b.1 = none ∧ s' = ⟨hp, g, d, tk, os⟩ ∧ ∃ (vs ws : List Value) (ns' ms' : List Int), rest = vs.zip ws ∧
      IntsAre vs ns' ∧ IntsAre ws ms' ∧ ns'.length + items2.size = ms'.length + items.size ∧ R (.ok (.ret (.bool (lexLt ns' ms')))) ⟨hp, g, d, tk, os⟩) _
    case turn =>
      rintro ⟨y, x⟩ rest b s' ⟨hb', rfl, vs, ws, ns', ms', hz, hvi, hwi, hlen, hR⟩
      cases hvi with
      | nil => rw [List.zip_nil_left] at hz; cases hz
      | cons a t hvi' =>
        cases hwi with
        | nil => rw [List.zip_nil_right] at hz; cases hz
        | cons c u hwi' =>
          rw [List.zip_cons_cons] at hz
          injection hz with hyx hrest
          injection hyx with hy hx
          subst hy hx
          rw [lexLt_cons] at hR
          simp only [List.length_cons] at hlen
          obtain ⟨e, he, hiff⟩ := eqAt_int A.in1 ⟨hp, g, d, tk, os⟩ a t c u
          refine wpAny_bind (he prog w _ _ ?_)
          cases e with
          | true =>
            rw [if_pos (hiff.mp rfl)] at hR
            wp_walk
            exact ⟨rfl, rfl, _, _, _, _, hrest, hvi', hwi', by omega, hR⟩
          | false =>
            rw [if_neg (fun q => absurd (hiff.mpr q) Bool.false_ne_true)] at hR
            have hri := rcLt_int A.in1 ⟨hp, g, d, tk, os⟩ a t c u prog w
            wp_walk using hri
            exact ⟨_, rfl, by simpa using hR⟩
    case fin =>
      rintro ⟨b1, b2⟩ s' ⟨hb', rfl, vs, ws, ns', ms', hz, hvi, hwi, hlen, hR⟩
      simp only at hb'
      subst hb'
      have hv : lexLt ns' ms' = decide (items.size < items2.size) := by
        cases hvi with
        | nil =>
          cases hwi with
          | nil =>
            simp only [List.length_nil] at hlen
            rw [lexLt_nil_nil]
            exact (decide_eq_false (by omega)).symm
          | cons c u hw =>
            simp only [List.length_nil, List.length_cons] at hlen
            rw [lexLt_nil_cons]
            exact (decide_eq_true (by omega)).symm
        | cons a t hv =>
          cases hwi with
          | nil =>
            simp only [List.length_nil, List.length_cons] at hlen
            rw [lexLt_cons_nil]
            exact (decide_eq_false (by omega)).symm
          | cons c u hw =>
            rw [List.zip_cons_cons] at hz
            cases hz
      rw [hv] at hR
      wp_walk
      exact ⟨_, rfl, by simpa [Builtin.Tuple.tupleCompareSizes] using hR⟩
    case h =>
      exact ⟨rfl, rfl, items.toList, items2.toList, ns, ms, rfl, hi, hj, by omega, h⟩
end

section
variable {prog : Program} {w : World} {A : Around} {E : Value → Shared → Prop} {s : Shared}

theorem lt_tupInts {l b : Addr} {items items2 : Array Value} {ns ms : List Int} {Q : Value → Shared → Prop} (hl : IsTup s.heap l items) (hb : IsTup s.heap b items2) (hi : IntsAre items.toList ns) (hj : IntsAre items2.toList ms)
    (hu : A.units < cLine) (h : Q (.bool (lexLt ns ms)) s) : wpAny (model prog w) A (compareOp .Lt (.ref l) (.ref b)) Q E s := by
  obtain ⟨⟨cls, dd, data, sl⟩, ho, hc, n, hd⟩ := id hl
  obtain ⟨⟨cls2, dd2, data2, sl2⟩, ho2, hc2, n2, hd2⟩ := id hb
  simp only at hc hd hc2 hd2
  subst hc hd hc2 hd2
  exact richCompare_meets_room (op := .Lt) ⟨_, ho, rfl⟩ ⟨_, ho2, rfl⟩ PySem.F.slot_tuple_lt PySem.F.entry_tuple_lt (PySem.F.args_tuple_lt_2 _ _) (tuple_lt_ints l b items items2 n n2 dd dd2 sl sl2 ns ms hi hj)
    ⟨ho, ho2, show Value.bool (lexLt ns ms) ≠ Value.notImplemented ∧ Q (.bool (lexLt ns ms)) s from ⟨(fun x => nomatch x), h⟩⟩ hu

/-- t + u, t not empty -/
theorem cat_tup {t b : Addr} {vs ws : List Value} {Q : Value → Shared → Prop} (ht : IsTup s.heap t vs.toArray) (hb : IsTup s.heap b ws.toArray) (hv : vs ≠ [])
    (h1 : ws = [] → Q (.ref t) s) (h2 : ws ≠ [] → Q (.ref s.heap.objs.size) { s with heap := s.heap.push { cls := .type "tuple", data := .seq (vs ++ ws).toArray } })
    (hsz : vs.length + ws.length ≤ sizeLine) : wpAny (model prog w) A (binaryOp .Add (.ref t) (.ref b)) Q E s := by
  obtain ⟨⟨cls, dd, data, sl⟩, ho, hc, n, hd⟩ := id ht
  obtain ⟨⟨cls2, dd2, data2, sl2⟩, ho2, hc2, n2, hd2⟩ := id hb
  simp only at hc hd hc2 hd2
  subst hc hd hc2 hd2
  have e : vs.toArray ++ ws.toArray = (vs ++ ws).toArray := by simp
  by_cases hw : ws = []
  · exact concat_meets ⟨_, ho, rfl⟩ ⟨_, ho2, rfl⟩ noFill_tuple_add seq_tuple_add PySem.F.slot_tuple_add PySem.F.entry_tuple_add (PySem.F.args_tuple_add_2 _ _)
      (tuple_addW1 t b vs.toArray ws.toArray n n2 dd dd2 sl sl2 (by simpa using hv) (by simp [hw])) ⟨ho, ho2, h1 hw⟩
  · refine concat_meets ⟨_, ho, rfl⟩ ⟨_, ho2, rfl⟩ noFill_tuple_add seq_tuple_add PySem.F.slot_tuple_add PySem.F.entry_tuple_add (PySem.F.args_tuple_add_2 _ _)
      (tuple_addW2 t b vs.toArray ws.toArray n n2 dd dd2 sl sl2 (by simpa using hv) (by simpa using hw) (by rw [List.size_toArray, List.size_toArray]; exact hsz)) ⟨ho, ho2, ?_⟩
    rw [e]
    exact h2 hw

/-! ### t[a:b], not the whole -/
/-- a slice's bound as a place among n (d where it is left out) -/
def sIx (n d : Nat) : Option Int → Nat
  | none => d
  | some v => if v < 0 then (v + (n : Int)).toNat else min v.toNat n
theorem sIx_none (n d : Nat) : sIx n d none = d := rfl
theorem sIx_nat (n d k : Nat) : sIx n d (some (k : Int)) = min k n := by
  show (if (k : Int) < 0 then ((k : Int) + (n : Int)).toNat else min (k : Int).toNat n) = min k n
  rw [if_neg (by omega), Int.toNat_natCast]
theorem sIx_le (n d : Nat) (hd : d ≤ n) (o : Option Int) : sIx n d o ≤ n := by
  cases o with
  | none => exact hd
  | some v =>
    show (if v < 0 then (v + (n : Int)).toNat else min v.toNat n) ≤ n
    by_cases hv : v < 0
    · rw [if_pos hv]; omega
    · rw [if_neg hv]; exact Nat.min_le_right _ _
theorem clip_eq (v : Int) (n d : Nat) : (if v < 0 then max (v + (n : Int)) 0 else min v (n : Int)) = ((sIx n d (some v) : Nat) : Int) := by
  show (if v < 0 then max (v + (n : Int)) 0 else min v (n : Int)) = (((if v < 0 then (v + (n : Int)).toNat else min v.toNat n) : Nat) : Int)
  by_cases hv : v < 0
  · simp only [if_pos hv]; omega
  · simp only [if_neg hv]; omega
theorem adjust_gen (lo hi : Option Int) (n : Nat) : Builtin.Slice.sliceAdjust lo hi 1 (n : Int) = (((sIx n 0 lo : Nat) : Int), ((sIx n n hi : Nat) : Int)) := by
  have h1 : ¬ ((1 : Int) < 0) := by omega
  unfold Builtin.Slice.sliceAdjust
  simp only [h1, if_false]
  refine Prod.ext ?_ ?_
  · cases lo with
    | none => rfl
    | some v => exact clip_eq v n 0
  · cases hi with
    | none => rfl
    | some v => exact clip_eq v n n
theorem places_gen (i j : Nat) : Builtin.Slice.slicePlaces (i : Int) (j : Int) 1 = j - i := by
  unfold Builtin.Slice.slicePlaces
  have h1 : (1 : Int) > 0 := by omega
  simp only [h1, if_true, Int.ediv_one]
  split <;> omega
theorem slicePart_ {v : Value} {o : Option Int} {Q : Option Int → Shared → Prop} (p : IsPart v o) (h : Q o s) : wpAny (model prog w) A (Builtin.Slice.slicePartIndex v) Q E s := by
  cases p with
  | none => exact slicePart_none h
  | int i t => exact slicePart_int h
theorem sliceApplied_gen {sl : Addr} {vl vu : Value} {lo hi : Option Int} {n : Nat} {Q : Int × Int × Nat → Shared → Prop} (hs : s.heap.IsSliceOf sl vl vu .none) (pl : IsPart vl lo) (pu : IsPart vu hi)
    (h : Q (((sIx n 0 lo : Nat) : Int), 1, sIx n n hi - sIx n 0 lo) s) : wpAny (model prog w) A (Builtin.Slice.sliceApplied (.ref sl) (pure (n : Int))) Q E s := by
  obtain ⟨os, hos, hcs, hds⟩ := id hs
  unfold Builtin.Slice.sliceApplied Builtin.Slice.sliceFields
  refine wpAny_bind (wpAny_bind (wpAny_field hos hds (x := vl) rfl (wpAny_bind (wpAny_field hos hds (x := vu) rfl (wpAny_bind (wpAny_field hos hds (x := .none) rfl (wpAny_pure ?_)))))))
  refine wpAny_bind (slicePart_none ?_)
  show wpAny _ _ (if ((1 : Int) == 0) = true then _ else _) _ _ s
  rw [if_neg (by decide)]
  refine wpAny_bind (slicePart_ pl (wpAny_bind (slicePart_ pu (wpAny_bind (wpAny_pure ?_)))))
  show wpAny _ _ (match Builtin.Slice.sliceAdjust lo hi 1 (n : Int) with | (lo, hi) => pure (lo, (1 : Int), Builtin.Slice.slicePlaces lo hi 1)) _ _ s
  rw [adjust_gen lo hi n]
  show wpAny _ _ (pure (((sIx n 0 lo : Nat) : Int), (1 : Int), Builtin.Slice.slicePlaces ((sIx n 0 lo : Nat) : Int) ((sIx n n hi : Nat) : Int) 1)) _ _ s
  rw [places_gen]
  exact wpAny_pure h
theorem pick_gen (xs : Array Value) (i k : Nat) : ((List.range k).filterMap fun (m : Nat) => xs[((i : Int) + (m : Int) * 1).toNat]?).toArray = ((xs.toList.drop i).take k).toArray := by
  have e : (fun (m : Nat) => xs[((i : Int) + (m : Int) * 1).toNat]?) = fun m => xs[i + m]? := by
    funext m
    have : ((i : Int) + (m : Int) * 1).toNat = i + m := by omega
    rw [this]
  rw [e]
  have := pick_run xs i k
  rw [List.filterMap_map] at this
  have e2 : ((fun x => xs[x]?) ∘ fun x => i + x) = fun m => xs[i + m]? := rfl
  rw [e2] at this
  rw [this]

theorem getItem_tuple_cut {t sl : Addr} {items : Array Value} {vl vu : Value} {lo hi : Option Int} {Q : Value → Shared → Prop} (ht : IsTup s.heap t items) (hs : s.heap.IsSliceOf sl vl vu .none) (pl : IsPart vl lo) (pu : IsPart vu hi)
    (hw : ¬ (sIx items.size 0 lo = 0 ∧ sIx items.size items.size hi = items.size))
    (h : Q (.ref s.heap.objs.size) { s with heap := s.heap.push { cls := .type "tuple", data := .seq ((items.toList.drop (sIx items.size 0 lo)).take (sIx items.size items.size hi - sIx items.size 0 lo)).toArray } })
    (hsz : items.size ≤ sizeLine) : wpAny (model prog w) A (getItem (.ref t) (.ref sl)) Q E s := by
  have htake : sizeOk (.seq ((items.toList.drop (sIx items.size 0 lo)).take (sIx items.size items.size hi - sIx items.size 0 lo)).toArray) := by
    show ((items.toList.drop (sIx items.size 0 lo)).take (sIx items.size items.size hi - sIx items.size 0 lo)).toArray.size ≤ sizeLine
    rw [List.size_toArray, List.length_take, List.length_drop, Array.length_toList]
    omega
  have hj : sIx items.size items.size hi ≤ items.size := sIx_le _ _ (Nat.le_refl _) hi
  obtain ⟨os, hos, hcs, hds⟩ := id hs
  have hTs : s.TypeIs (.ref sl) "slice" := ⟨os, hos, hcs⟩
  unfold getItem
  try with_reducible refine wpAny_holding ?_
  first | refine wpAny_bind (wpAny_pure ?_) | skip
  refine wpAny_bind (wpAny_sequenceKey ht.typeIs (by decide) ?_)
  refine wpAny_bind (wpAny_callSpecial?_slot (name := Str.ofString "__getitem__") ht.typeIs PyProof.Rows.slot_tuple_getitem
    (wpAny_call_entry PyProof.Rows.slot_tuple_getitem ht.typeIs entry_tuple_getitem ?_ (args_tuple_getitem _ _)))
  show wpAny _ _ (Builtin.Tuple.tupleItemsOf (.ref t) >>= _) _ _ s
  refine wpAny_bind (tupleItemsOf_ ht ?_)
  refine wpAny_bind (wpAny_typeOf hTs ?_)
  rw [if_pos (by decide)]
  refine wpAny_bind (sliceApplied_gen hs pl pu ?_)
  have hno : ¬ ((((sIx items.size 0 lo : Nat) : Int) == 0 && (1 : Int) == 1 && (sIx items.size items.size hi - sIx items.size 0 lo) == items.size) = true) := by
    intro q
    rw [Bool.and_eq_true, Bool.and_eq_true] at q
    have q1 : ((sIx items.size 0 lo : Nat) : Int) = 0 := eq_of_beq q.1.1
    have q2 : sIx items.size items.size hi - sIx items.size 0 lo = items.size := eq_of_beq q.2
    exact hw ⟨by omega, by omega⟩
  show wpAny _ _ (if (((sIx items.size 0 lo : Nat) : Int) == 0 && (1 : Int) == 1 && (sIx items.size items.size hi - sIx items.size 0 lo) == items.size) = true then _ else _) _ _ s
  rw [if_neg hno, pick_gen]
  first
    | exact wpAny_bind (m := Builtin.Tuple.tupleExact _) (wpAny_newObj_type (wpAny_pure ⟨_, rfl, wpAny_pure h⟩) htake)
    | exact wpAny_bind (m := Builtin.Tuple.tupleExact _) (wpAny_newObj_type (wpAny_bind (wpAny_pure (wpAny_pure ⟨_, rfl, wpAny_pure h⟩))) htake)
    | exact wpAny_bind (wpAny_bind (m := Builtin.Tuple.tupleExact _) (wpAny_newObj_type (wpAny_pure (wpAny_pure ⟨_, rfl, wpAny_pure h⟩)) htake))
    | exact wpAny_bind (wpAny_bind (m := Builtin.Tuple.tupleExact _) (wpAny_newObj_type (wpAny_pure ⟨_, rfl, wpAny_pure h⟩) htake))
end
end HT

namespace L2
open PySem PySem.Spec PyProof.Rows

/-! ### the parts of a slice -/
abbrev TO := St → Hp → (Option Int → Hp → Prop) → Prop
/-- a slice's part (left out, or an int) -/
def PO (X : Cx) (e : Option Expr) (t : TO) : Prop :=
  ∀ (pins : List (Addr × Obj)) (s : Shared) (σ : St) (H : Hp) (Q : Option Int → Hp → Prop), Inv X pins σ H s → t σ H Q →
    wpAny (model X.prog X.w) X.A (evalPart e X.env) (fun u s' => ∃ o H', Inv X pins σ H' s' ∧ IsPart u o ∧ Q o H') X.xe s
def tNoPart : TO := fun _ H Q => Q none H
def tPart (t : TE) : TO := fun σ H Q => t σ H fun x H1 => ∃ i, x = .int i ∧ Q (some i) H1

theorem intsAre_of {ns : List Int} : ∀ {us : List Value}, Vals (ns.map V.int) us → IntsAre us ns := by
  induction ns with
  | nil => intro us r; rw [List.map_nil] at r; cases r; exact .nil
  | cons n ns ih =>
    intro us r
    rw [List.map_cons] at r
    cases r with
    | cons r1 r2 =>
      obtain ⟨t, e⟩ := r1
      subst e
      exact .cons n t (ih r2)

section
variable {X : Cx} {e : Expr} {te : TE} {lo hi : Option Expr} {tl th : TO} {pos p2 : Pos}

theorem po_none : PO X none tNoPart := by
  intro pins s σ H Q I h
  rw [evalPart_none]
  exact wpAny_pure ⟨none, H, I, .none, h⟩
theorem po_some (h : PE X e te) : PO X (some e) (tPart te) := by
  intro pins s σ H Q I hw
  rw [evalPart_some]
  refine thn (h pins s σ H _ I hw) fun u s1 ⟨x, H1, I1, r1, q1⟩ => ?_
  obtain ⟨i, rfl, q⟩ := q1
  obtain ⟨t, rfl⟩ := r1
  exact ⟨some i, H1, I1, .int i t, q⟩

/-- what a slice of a value is, by values: the slice object stands at sl -/
def SlR (X : Cx) (r : V → Option Int → Option Int → Hp → VK → Prop) : Prop :=
  ∀ (pins : List (Addr × Obj)) (s : Shared) (σ : St) (H : Hp) (x : V) (v vl vu : Value) (lo hi : Option Int) (sl : Addr) (Q : VK), Inv X pins σ H s → RelV x v → s.heap.IsSliceOf sl vl vu .none → IsPart vl lo → IsPart vu hi → r x lo hi H Q →
    ∃ T id, typeLookup (.type T) "__getitem__" = pure (some (.builtin id)) ∧ s.TypeIs v T ∧ wpAny (model X.prog X.w) X.A (getItem v (.ref sl)) (EP X pins σ Q) X.xe s
theorem SlR.or {r r' : V → Option Int → Option Int → Hp → VK → Prop} (h : SlR X r) (h' : SlR X r') : SlR X (fun x lo hi H Q => r x lo hi H Q ∨ r' x lo hi H Q) := by
  intro pins s σ H x v vl vu lo hi sl Q I rx hs pl pu q
  rcases q with q | q
  · exact h pins s σ H x v vl vu lo hi sl Q I rx hs pl pu q
  · exact h' pins s σ H x v vl vu lo hi sl Q I rx hs pl pu q
def tSl (r : V → Option Int → Option Int → Hp → VK → Prop) (te : TE) (tl th : TO) : TE := fun σ H Q => te σ H fun x H1 => tl σ H1 fun l H2 => th σ H2 fun u H3 => r x l u H3 Q
/-- a[lo:hi], any a -/
theorem pe_slice {r : V → Option Int → Option Int → Hp → VK → Prop} (hr : SlR X r) (he : PE X e te) (hl : PO X lo tl) (hu : PO X hi th) : PE X (.Subscript e (.Slice lo hi none p2) pos) (tSl r te tl th) := by
  intro pins s σ H Q I h
  refine Subscript_ (thn (he pins s σ H _ I h) fun v s1 ⟨x, H1, I1, r1, q1⟩ => ?_)
  refine wpAny_Slice (thn (hl pins s1 σ H1 _ I1 q1) fun vl s2 ⟨l, H2, I2, pl, q2⟩ => thn (hu pins s2 σ H2 _ I2 q2) fun vu s3 ⟨u, H3, I3, pu, q3⟩ => ?_)
  rw [evalPart_none]
  refine wpAny_pure ?_
  have I4 : Inv X pins σ H3 { s3 with heap := s3.heap.push { cls := .type "slice", data := .fields #[vl, vu, .none] } } := I3.kept (t' := s3.toks) fun b ob q => Heap.get?_push_of_some _ q
  obtain ⟨T, id, hT, ht, hg⟩ := hr pins { s3 with heap := s3.heap.push { cls := .type "slice", data := .fields #[vl, vu, .none] } } σ H3 x v vl vu l u s3.heap.objs.size Q I4 r1 (Heap.IsSliceOf.new ..) pl pu q3
  show wpAny (model X.prog X.w) X.A (subscriptTail e (.Slice lo hi none p2) v (.ref s3.heap.objs.size)) (EP X pins σ Q) X.xe { s3 with heap := s3.heap.push { cls := .type "slice", data := .fields #[vl, vu, .none] } }
  exact tail_any (ops := [.ref s3.heap.objs.size, v]) ht hT hg (by with_unfolding_all rfl)

/-- the items of xs[lo:hi] -/
def cutV (xs : List V) (lo hi : Option Int) : List V := (xs.drop (HT.sIx xs.length 0 lo)).take (HT.sIx xs.length xs.length hi - HT.sIx xs.length 0 lo)
theorem cutV_length (xs : List V) (lo hi : Option Int) : (cutV xs lo hi).length ≤ xs.length := by
  unfold cutV
  rw [List.length_take, List.length_drop]
  omega
/-- t[lo:hi], not the whole of it (the whole would be t itself) -/
def rSlT (K : PySem.W.Frag) : V → Option Int → Option Int → Hp → VK → Prop := fun x lo hi H Q => ∃ a xs, x = .ref a ∧ SqT K H a xs ∧
  ¬ (HT.sIx xs.length 0 lo = 0 ∧ HT.sIx xs.length xs.length hi = xs.length) ∧ ∀ p, H p = none → Q (.ref p) (upd H p (.tup (cutV xs lo hi)))
theorem sl_tup : SlR X (rSlT X.K) := by
  intro pins s σ H x v vl vu lo hi sl Q I rx hs pl pu h
  obtain ⟨a, xs, rfl, hx, hw, q⟩ := h
  cases rx
  obtain ⟨its, r, ht, hz⟩ := I.tuple hx
  have hlen : its.toArray.size = xs.length := by rw [List.size_toArray]; exact r.length.symm
  refine ⟨"tuple", _, PyProof.Rows.slot_tuple_getitem.lookup, ht.typeIs, ?_⟩
  refine HT.getItem_tuple_cut ht hs pl pu (by rw [hlen]; exact hw) ?_ (by rw [hlen]; exact hz)
  rw [hlen]
  refine ⟨.ref s.heap.objs.size, _, I.laid (t' := s.toks) (o := .tup (cutV xs lo hi)) (fun b ob q => Heap.get?_push_of_some _ q) (Nat.le_refl _) ?_, rfl, q _ (I.hok.fresh (Nat.le_refl _))⟩
  exact ⟨Nat.le_trans (cutV_length xs lo hi) hz, _, (r.drop (HT.sIx xs.length 0 lo)).take (HT.sIx xs.length xs.length hi - HT.sIx xs.length 0 lo), IsTup.new _ _⟩

/-! ### t < u, t + u -/
def rLtT (K : PySem.W.Frag) : R2 := fun x y H Q => ∃ a b ns ms, x = .ref a ∧ y = .ref b ∧ SqT K H a (ns.map V.int) ∧ SqT K H b (ms.map V.int) ∧ Q (.bl (HT.lexLt ns ms)) H
theorem op_ltT (hu : X.A.units < cLine) : OpR X (compareOp .Lt) (rLtT X.K) := by
  intro pins s σ H x y v u Q I rx ry h
  obtain ⟨a, b, ns, ms, rfl, rfl, ha, hb, q⟩ := h
  cases rx
  cases ry
  obtain ⟨its, r1, p1, _⟩ := I.tuple ha
  obtain ⟨its2, r2, p2, _⟩ := I.tuple hb
  have i1 : IntsAre its.toArray.toList ns := intsAre_of r1
  have i2 : IntsAre its2.toArray.toList ms := intsAre_of r2
  exact HT.lt_tupInts p1 p2 i1 i2 hu ⟨.bl (HT.lexLt ns ms), H, I, rfl, q⟩
/-- t + u, t not empty: u empty gives t itself -/
def rCatT (K : PySem.W.Frag) : R2 := fun x y H Q => ∃ a b xs ys, x = .ref a ∧ y = .ref b ∧ SqT K H a xs ∧ SqT K H b ys ∧ xs ≠ [] ∧ xs.length + ys.length ≤ sizeLine ∧
  (ys = [] → Q (.ref a) H) ∧ (ys ≠ [] → ∀ p, H p = none → Q (.ref p) (upd H p (.tup (xs ++ ys))))
theorem Vals.nil_iff {xs : List V} {us : List Value} (r : Vals xs us) : us = [] ↔ xs = [] := by
  cases r with
  | nil => simp
  | cons _ _ => simp
theorem op_catT : OpR X (binaryOp .Add) (rCatT X.K) := by
  intro pins s σ H x y v u Q I rx ry h
  obtain ⟨a, b, xs, ys, rfl, rfl, ha, hb, hx, hz, q1, q2⟩ := h
  cases rx
  cases ry
  obtain ⟨its, r1, p1, _⟩ := I.tuple ha
  obtain ⟨its2, r2, p2, _⟩ := I.tuple hb
  refine HT.cat_tup p1 p2 (fun z => hx (r1.nil_iff.mp z)) (fun z => ⟨.ref a, H, I, rfl, q1 (r2.nil_iff.mp z)⟩) (fun z => ?_) (by rw [← r1.length, ← r2.length]; exact hz)
  refine ⟨.ref s.heap.objs.size, _, I.laid (t' := s.toks) (o := .tup (xs ++ ys)) (fun b ob q => Heap.get?_push_of_some _ q) (Nat.le_refl _) ?_, rfl, q2 (fun w => z (r2.nil_iff.mpr w)) _ (I.hok.fresh (Nat.le_refl _))⟩
  exact ⟨by rw [List.length_append]; exact hz, _, r1.append r2, IsTup.new _ _⟩
/-- tuple(t) -/
theorem call_tupleT : CallR X (.type "tuple") (fun xs H Q => ∃ a ys, xs = [.ref a] ∧ SqT X.K H a ys ∧ Q (.ref a) H) := by
  intro pins s σ H xs us Q I r h
  obtain ⟨a, ys, rfl, ha, q⟩ := h
  obtain ⟨u, rfl, ru⟩ := vals1 r
  cases ru
  obtain ⟨its, _, p1, _⟩ := I.tuple ha
  exact call_tuple_same (items := its.toArray) p1 ⟨.ref a, H, I, rfl, q⟩
end
end L2

namespace L2
open PySem PySem.Spec PyProof.Rows

/-! ### places -/
/-- the place that an index of any sign means -/
def ixN (n : Nat) (i : Int) : Option Nat := if 0 ≤ i then (if i < n then some i.toNat else none) else if -(n : Int) ≤ i then some (i + n).toNat else none
def atI {α : Type} (xs : List α) (i : Int) : Option α := (ixN xs.length i).bind fun j => xs[j]?
theorem ixN_seq {n : Nat} {i : Int} {j : Nat} (h : ixN n i = some j) : seqIndex? i n = some j ∧ j < n ∧ -(n : Int) ≤ i ∧ i < n := by
  unfold ixN at h
  by_cases h0 : 0 ≤ i
  · rw [if_pos h0] at h
    by_cases h1 : i < n
    · rw [if_pos h1] at h
      have e : i.toNat = j := Option.some.inj h
      exact ⟨by rw [seqIndex_of h0 h1, e], by omega, by omega, h1⟩
    · rw [if_neg h1] at h; cases h
  · rw [if_neg h0] at h
    by_cases h1 : -(n : Int) ≤ i
    · rw [if_pos h1] at h
      have e : (i + n).toNat = j := Option.some.inj h
      exact ⟨by rw [seqIndex_neg (by omega) h1, e], by omega, h1, by omega⟩
    · rw [if_neg h1] at h; cases h
theorem atI_get {α : Type} {xs : List α} {i : Int} {v : α} (h : atI xs i = some v) : ∃ j, seqIndex? i xs.length = some j ∧ xs[j]? = some v ∧ j < xs.length ∧ -(xs.length : Int) ≤ i ∧ i < xs.length := by
  unfold atI at h
  cases e : ixN xs.length i with
  | none => rw [e] at h; cases h
  | some j =>
    rw [e] at h
    obtain ⟨h1, h2, h3, h4⟩ := ixN_seq e
    exact ⟨j, h1, h, h2, h3, h4⟩
theorem atI_nat {α : Type} {xs : List α} {j : Nat} {v : α} (h : xs[j]? = some v) : atI xs (j : Int) = some v := by
  have hj : j < xs.length := (List.getElem?_eq_some_iff.mp h).1
  have e : ixN xs.length (j : Int) = some j := by
    unfold ixN
    rw [if_pos (by omega), if_pos (by omega)]; simp
  unfold atI; rw [e]; exact h
theorem atI_last {α : Type} (xs : List α) (v : α) : atI (xs ++ [v]) (-1) = some v := by
  have hl : (xs ++ [v]).length = xs.length + 1 := by simp
  have e : ixN (xs ++ [v]).length (-1) = some xs.length := by
    unfold ixN
    rw [hl, if_neg (by decide), if_pos (by omega)]
    congr 1
    omega
  unfold atI
  rw [e]
  show (xs ++ [v])[xs.length]? = some v
  simp

/-! ### what may be subscripted -/
/-- what stands as an index of a plain subscript -/
def PlainIx (b : Expr) : Prop := ∀ o i, subscripted b false o i = operate [o, i] (getItem o i)
/-- a subscript by values -/
def IxR (X : Cx) (r : R2) : Prop :=
  ∀ (value slice : Expr) (pins : List (Addr × Obj)) (s : Shared) (σ : St) (H : Hp) (x y : V) (v u : Value) (Q : VK), Inv X pins σ H s → RelV x v → RelV y u → r x y H Q →
    subscripted slice false v u = operate [v, u] (getItem v u) → wpAny (model X.prog X.w) X.A (subscriptTail value slice v u) (EP X pins σ Q) X.xe s
/-- a call of a builtin's method by values: the receiver, the arguments -/
def MtR (X : Cx) (id : String) (r : V → List V → Hp → VK → Prop) : Prop :=
  ∀ (pins : List (Addr × Obj)) (s : Shared) (σ : St) (H : Hp) (x : V) (xs : List V) (v : Value) (us : List Value) (Q : VK), Inv X pins σ H s → RelV x v → Vals xs us → r x xs H Q →
    wpAny (model X.prog X.w) X.A (call (.builtin id) (v :: us)) (EP X pins σ Q) X.xe s
section
variable {X : Cx} {a b : Expr} {ta tb : TE} {pos : Pos}
theorem IxR.or {r r' : R2} (h : IxR X r) (h' : IxR X r') : IxR X (fun x y H Q => r x y H Q ∨ r' x y H Q) := by
  intro value slice pins s σ H x y v u Q I rx ry q hs
  rcases q with q | q
  · exact h value slice pins s σ H x y v u Q I rx ry q hs
  · exact h' value slice pins s σ H x y v u Q I rx ry q hs
theorem MtR.or {id : String} {r r' : V → List V → Hp → VK → Prop} (h : MtR X id r) (h' : MtR X id r') : MtR X id (fun x xs H Q => r x xs H Q ∨ r' x xs H Q) := by
  intro pins s σ H x xs v us Q I rx rs q
  rcases q with q | q
  · exact h pins s σ H x xs v us Q I rx rs q
  · exact h' pins s σ H x xs v us Q I rx rs q
/-- a[b] -/
theorem pe_ix {r : R2} (hr : IxR X r) (ha : PE X a ta) (hb : PE X b tb) (hs : PlainIx b) : PE X (.Subscript a b pos) (tOp r ta tb) := by
  intro pins s σ H Q I h
  exact Subscript_ (binT ha hb I h fun v u s2 x y H2 I2 rx ry q => hr a b pins s2 σ H2 x y v u Q I2 rx ry q (hs _ _))

def rIxL (K : PySem.W.Frag) : R2 := fun x y H Q => ∃ p xs i v, x = .ref p ∧ y = .int i ∧ SqL K H p xs ∧ atI xs i = some v ∧ Q v H
def rIxT (K : PySem.W.Frag) : R2 := fun x y H Q => ∃ p xs i v, x = .ref p ∧ y = .int i ∧ SqT K H p xs ∧ atI xs i = some v ∧ Q v H
def rIxS : R2 := fun x y H Q => ∃ z i c, x = .str z ∧ y = .int i ∧ z.length ≤ sizeLine ∧ atI z.cps.toList i = some c ∧ Q (.str ⟨#[c]⟩) H
theorem ix_list : IxR X (rIxL X.K) := by
  intro value slice pins s σ H x y v u Q I rx ry h hs
  obtain ⟨p, xs, i, z, rfl, rfl, hq, he, q⟩ := h
  cases rx
  obtain ⟨t, rfl⟩ := ry
  obtain ⟨its, r, pl, hz⟩ := I.list hq
  obtain ⟨j, h1, h2, h3, h4, h5⟩ := atI_get he
  obtain ⟨w, ew, rw'⟩ := r.get h2
  have hl := r.length
  have hn := line63
  have fin : EP X pins σ Q w s := ⟨z, H, I, rw', q⟩
  by_cases h0 : 0 ≤ i
  · have hj : i.toNat = j := by
      rw [seqIndex_of h0 h5] at h1
      exact Option.some.inj h1
    exact item_listR pl.isList h0 (by omega) (by rw [hj]; simpa using ew) fin hs
  · have hj : (i + (its.toArray.size : Int)).toNat = j := by
      rw [seqIndex_neg (by omega) h4] at h1
      rw [List.size_toArray, ← hl]
      exact Option.some.inj h1
    exact subscriptTail_builtinR (x := w) pl.isList.typeIs slot_list_getitem.lookup
      (wpAny_getItem_list_neg (Q := fun r s' => r = w ∧ EP X pins σ Q r s') pl.isList (by omega) (by rw [List.size_toArray] <;> omega) (by omega) (by rw [hj]; simpa using ew) ⟨rfl, fin⟩) hs
theorem ix_tup : IxR X (rIxT X.K) := by
  intro value slice pins s σ H x y v u Q I rx ry h hs
  obtain ⟨p, xs, i, z, rfl, rfl, hq, he, q⟩ := h
  cases rx
  obtain ⟨t, rfl⟩ := ry
  obtain ⟨its, r, pl, hz⟩ := I.tuple hq
  obtain ⟨j, h1, h2, h3, h4, h5⟩ := atI_get he
  obtain ⟨w, ew, rw'⟩ := r.get h2
  have hl := r.length
  have hn := line63
  have fin : EP X pins σ Q w s := ⟨z, H, I, rw', q⟩
  exact subscriptTail_builtinR (x := w) pl.typeIs slot_tuple_getitem.lookup
    (getItem_tuple (j := j) (Q := fun r s' => r = w ∧ EP X pins σ Q r s') pl (by omega) (by omega) (by rw [List.size_toArray, ← hl]; exact h1) (by simpa using ew) ⟨rfl, fin⟩) hs
theorem ix_str : IxR X rIxS := by
  intro value slice pins s σ H x y v u Q I rx ry h hs
  obtain ⟨z, i, c, rfl, rfl, hz, he, q⟩ := h
  obtain ⟨t, rfl⟩ := rx
  obtain ⟨t', rfl⟩ := ry
  obtain ⟨j, h1, h2, h3, h4, h5⟩ := atI_get he
  have hl : z.cps.toList.length = z.length := by simp [Str.length]
  rw [hl] at h1 h4 h5
  have hn := line63
  exact tail_any (typeIs_str s z t) slot_str_getitem.lookup (getItem_str (c := c) (by
    have e1 : decide (i < -(2 ^ 63 : Int)) = false := decide_eq_false (by omega)
    have e2 : decide (i ≥ 2 ^ 63) = false := decide_eq_false (by omega)
    rw [e1, e2, Bool.or_false]) (by rw [h1]; simpa using h2) ⟨.str ⟨#[c]⟩, H, I.tok _, ⟨_, rfl⟩, q⟩) hs
/-- list, tuple or str -/
def rIx (K : PySem.W.Frag) : R2 := fun x y H Q => rIxL K x y H Q ∨ rIxT K x y H Q ∨ rIxS x y H Q
theorem ix_seq : IxR X (rIx X.K) := ix_list.or (ix_tup.or ix_str)

/-! ### xs[i] = v, any sign -/
/-- the list's object behind a store -/
theorem mapSeq_set (its : List Value) (n j : Nat) (u : Value) : Obj.mapSeq (·.setIfInBounds j u) { cls := .type "list", data := .seq its.toArray n } = { cls := .type "list", data := .seq (its.set j u).toArray n } := by
  simp [Obj.mapSeq]
theorem Inv.lst {pins : List (Addr × Obj)} {σ : St} {H : Hp} {s : Shared} {p : Addr} {xs : List V} (I : Inv X pins σ H s) (h : H p = some (.lst xs)) :
    ∃ (its : List Value) (n : Nat), Vals xs its ∧ s.heap.get? p = some { cls := .type "list", data := .seq its.toArray n } ∧ xs.length ≤ sizeLine := by
  obtain ⟨z, its, n, r, e⟩ := I.hok p _ h
  exact ⟨its, n, r, e, z⟩
/-- the list at p is written by an update of its object -/
theorem Inv.lstUpd {pins : List (Addr × Obj)} {σ : St} {H : Hp} {s : Shared} {p : Addr} {xs ys : List V} {its its' : List Value} {n n' : Nat} {f : Obj → Obj} (I : Inv X pins σ H s) (h : H p = some (.lst xs))
    (ho : s.heap.get? p = some { cls := .type "list", data := .seq its.toArray n }) (hf : f { cls := .type "list", data := .seq its.toArray n } = { cls := .type "list", data := .seq its'.toArray n' }) (r : Vals ys its') (hz : ys.length ≤ sizeLine) (t : Nat) :
    Inv X pins σ (upd H p (.lst ys)) { s with heap := s.heap.update p f, toks := t } := by
  have e : (s.heap.update p f).get? p = some { cls := .type "list", data := .seq its'.toArray n' } := by
    rw [Heap.get?_update_self f ho (by rw [hf] <;> rfl), hf]
  refine I.write (x := p) (e := p) (by rw [h]; trivial) (.inl rfl) (fun b u hb q => (Heap.get?_update_other _ _ (Ne.symm hb)).trans q) ⟨_, e⟩ ?_
  exact ⟨hz, its', n', r, e⟩
def rSetL : V → V → V → Hp → (Hp → Prop) → Prop := fun o i v H Q => ∃ p xs k j, o = .ref p ∧ i = .int k ∧ H p = some (.lst xs) ∧ ixN xs.length k = some j ∧ Q (upd H p (.lst (xs.set j v)))
theorem set_list : PSet X rSetL := by
  intro pins s σ H o i v ov iv u Q I ro ri rv h
  obtain ⟨p, xs, k, j, rfl, rfl, hp, hj, q⟩ := h
  cases ro
  obtain ⟨t, rfl⟩ := ri
  obtain ⟨its, n, r, ho, hz⟩ := I.lst hp
  obtain ⟨h1, h2, h3, h4⟩ := ixN_seq hj
  have hl := r.length
  have hn := line63
  have I' : Inv X pins σ (upd H p (.lst (xs.set j v))) { s with heap := s.heap.update p (Obj.mapSeq (·.setIfInBounds j u)) } :=
    I.lstUpd hp ho (mapSeq_set its n j u) (r.set rv j) (by rw [List.length_set]; exact hz) s.toks
  by_cases h0 : 0 ≤ k
  · have hk : k.toNat = j := by
      rw [seqIndex_of h0 h4] at h1
      exact Option.some.inj h1
    exact PySem.W.ki_setAt ho h0 (by omega) (by rw [List.size_toArray, ← hl]; exact h4) (by rw [hk]; exact ⟨_, I', q⟩)
  · have hk : (k + (its.toArray.size : Int)).toNat = j := by
      rw [seqIndex_neg (by omega) h3] at h1
      rw [List.size_toArray, ← hl]
      exact Option.some.inj h1
    exact PySem.W.ki_setBack ho (by omega) (by rw [List.size_toArray, ← hl]; exact h3) (by omega) (by rw [hk]; exact ⟨_, I', q⟩)

/-! ### slices -/
theorem slice_bounds (lo hi : Option Int) (n : Nat) : (sliceBounds lo hi none n).1 = ((HT.sIx n 0 lo : Nat) : Int) ∧ (sliceBounds lo hi none n).2.1 = ((HT.sIx n n hi : Nat) : Int) ∧ (sliceBounds lo hi none n).2.2 = 1 := by
  refine ⟨?_, ?_, rfl⟩
  · cases lo with
    | none => simp [sliceBounds, HT.sIx]
    | some i =>
      simp only [sliceBounds, HT.sIx, Option.getD_none, show (1 : Int) > 0 by decide, if_true]
      by_cases h : i < 0
      · simp only [h, if_true] <;> omega
      · simp only [h, if_false] <;> omega
  · cases hi with
    | none => simp [sliceBounds, HT.sIx]
    | some i =>
      simp only [sliceBounds, HT.sIx, Option.getD_none, show (1 : Int) > 0 by decide, if_true]
      by_cases h : i < 0
      · simp only [h, if_true] <;> omega
      · simp only [h, if_false] <;> omega
theorem slicePick_cut (its : List Value) (lo hi : Option Int) : slicePick its.toArray lo hi none = ((its.drop (HT.sIx its.length 0 lo)).take (HT.sIx its.length its.length hi - HT.sIx its.length 0 lo)).toArray := by
  obtain ⟨h1, h2, h3⟩ := slice_bounds lo hi its.toArray.size
  unfold slicePick
  rw [h1, h2, h3]
  simp only [sliceRange_one, pick_run, List.size_toArray] <;> rfl
/-- xs[lo:hi] of a list: a new list -/
def rSlL (K : PySem.W.Frag) : V → Option Int → Option Int → Hp → VK → Prop := fun x lo hi H Q => ∃ a xs, x = .ref a ∧ SqL K H a xs ∧ ∀ p, H p = none → Q (.ref p) (upd H p (.lst (cutV xs lo hi)))
theorem sl_list : SlR X (rSlL X.K) := by
  intro pins s σ H x v vl vu lo hi sl Q I rx hs pl pu h
  obtain ⟨a, xs, rfl, hx, q⟩ := h
  cases rx
  obtain ⟨its, r, ht, hz⟩ := I.list hx
  have hlen := r.length
  refine ⟨"list", _, slot_list_getitem.lookup, ht.isList.typeIs, ?_⟩
  refine wpAny_getItem_list_slice ht.isList hs pl pu .none (by simp) ?_ (by rw [List.size_toArray] <;> omega)
  rw [slicePick_cut, ← hlen]
  refine ⟨.ref s.heap.objs.size, _, I.laid (t' := s.toks) (o := .lst (cutV xs lo hi)) (fun b ob q => Heap.get?_push_of_some _ q) (Nat.le_refl _) ?_, rfl, q _ (I.hok.fresh (Nat.le_refl _))⟩
  exact ⟨Nat.le_trans (cutV_length xs lo hi) hz, _, 0, (r.drop (HT.sIx xs.length 0 lo)).take (HT.sIx xs.length xs.length hi - HT.sIx xs.length 0 lo), Heap.get?_push_size _ rfl⟩

/-! ### in, not in: flat items -/
def flatV : V → Bool
  | .non => true
  | .bl _ => true
  | .int _ => true
  | .str _ => true
  | _ => false
/-- == of flat values -/
def eqV : V → V → Bool
  | .non, .non => true
  | .bl a, .bl b => a == b
  | .bl a, .int b => (if a then 1 else 0) == b
  | .int a, .bl b => a == (if b then 1 else 0)
  | .int a, .int b => a == b
  | .str a, .str b => a == b
  | _, _ => false
theorem eqAt_V {A : Around} {s : Shared} {y x : V} {u v : Value} (ry : RelV y u) (rx : RelV x v) (fy : flatV y = true) (fx : flatV x = true) : SeqAt.EqAt A s u v (eqV y x) := by
  cases y with
  | non =>
    cases ry
    cases x with
    | non => cases rx; exact SeqAt.EqAt.same _
    | bl b => cases rx; exact SeqAt.EqAt.none_bool b
    | int b => obtain ⟨t, rfl⟩ := rx; exact SeqAt.EqAt.none_int b t
    | str b => obtain ⟨t, rfl⟩ := rx; exact SeqAt.EqAt.none_str b t
    | _ => exact absurd (show false = true from fx) Bool.false_ne_true
  | bl a =>
    cases ry
    cases x with
    | non => cases rx; exact SeqAt.EqAt.bool_none a
    | bl b => cases rx; exact SeqAt.EqAt.bool_bool a b
    | int b => obtain ⟨t, rfl⟩ := rx; exact SeqAt.EqAt.bool_int a b t
    | str b => obtain ⟨t, rfl⟩ := rx; exact SeqAt.EqAt.bool_str a b t
    | _ => exact absurd (show false = true from fx) Bool.false_ne_true
  | int a =>
    obtain ⟨t', rfl⟩ := ry
    cases x with
    | non => cases rx; exact SeqAt.EqAt.int_none a t'
    | bl b => cases rx; exact SeqAt.EqAt.int_bool a t' b
    | int b => obtain ⟨t, rfl⟩ := rx; exact SeqAt.EqAt.int_int a t' b t
    | str b => obtain ⟨t, rfl⟩ := rx; exact SeqAt.EqAt.int_str a t' b t
    | _ => exact absurd (show false = true from fx) Bool.false_ne_true
  | str a =>
    obtain ⟨t', rfl⟩ := ry
    cases x with
    | non => cases rx; exact SeqAt.EqAt.str_none a t'
    | bl b => cases rx; exact SeqAt.EqAt.str_bool a t' b
    | int b => obtain ⟨t, rfl⟩ := rx; exact SeqAt.EqAt.str_int a t' b t
    | str b => obtain ⟨t, rfl⟩ := rx; exact SeqAt.EqAt.str_str a t' b t
    | _ => exact absurd (show false = true from fx) Bool.false_ne_true
  | _ => exact absurd (show false = true from fy) Bool.false_ne_true
/-- the items' answers, read off the values (a value's own answer does not lean on its token) -/
def eqU (x : V) (u : Value) : Bool := match u with
  | .none => eqV .non x
  | .bool b => eqV (.bl b) x
  | .int i _ => eqV (.int i) x
  | .str z _ => eqV (.str z) x
  | _ => false
theorem eqU_of {x y : V} {u : Value} (r : RelV y u) (f : flatV y = true) : eqU x u = eqV y x := by
  cases y with
  | non => cases r; rfl
  | bl b => cases r; rfl
  | int i => obtain ⟨t, rfl⟩ := r; rfl
  | str z => obtain ⟨t, rfl⟩ := r; rfl
  | _ => exact absurd (show false = true from f) Bool.false_ne_true
theorem any_eqU {x : V} : ∀ {xs : List V} {us : List Value}, Vals xs us → xs.all flatV = true → us.any (eqU x) = xs.any fun y => eqV y x
  | _, _, .nil, _ => rfl
  | y :: xs, u :: us, .cons r t, f => by
    rw [List.all_cons, Bool.and_eq_true] at f
    rw [List.any_cons, List.any_cons, eqU_of r f.1, any_eqU t f.2]
theorem mem_eqAt {A : Around} {s : Shared} {x : V} {v : Value} (rx : RelV x v) (fx : flatV x = true) : ∀ {xs : List V} {us : List Value}, Vals xs us → xs.all flatV = true → ∀ u ∈ us, SeqAt.EqAt A s u v (eqU x u)
  | _, _, .nil, _ => fun u hu => by cases hu
  | y :: xs, u :: us, .cons r t, f => fun u' hu => by
    rw [List.all_cons, Bool.and_eq_true] at f
    rcases List.mem_cons.mp hu with rfl | hu
    · rw [eqU_of r f.1]; exact eqAt_V r rx f.1 fx
    · exact mem_eqAt rx fx t f.2 u' hu
def inV (x : V) (xs : List V) : Bool := xs.any fun y => eqV y x
/-- x in a list or tuple of flat items -/
def rIn (K : PySem.W.Frag) (neg : Bool) : R2 := fun x y H Q => ∃ p xs, y = .ref p ∧ (SqL K H p xs ∨ SqT K H p xs) ∧ flatV x = true ∧ xs.all flatV = true ∧ Q (.bl (if neg then !inV x xs else inV x xs)) H
theorem op_in_seq : OpR X (compareOp .In) (rIn X.K false) := by
  intro pins s σ H x y v u Q I rx ry h
  obtain ⟨p, xs, rfl, hq, fx, fs, q⟩ := h
  cases ry
  rcases hq with hq | hq
  · obtain ⟨its, r, pl, hz⟩ := I.list hq
    refine SeqAt.in_listAt (eqU x) pl.isList (fun w hw => mem_eqAt rx fx r fs w (by simpa using hw)) ⟨.bl _, H, I, rfl, ?_⟩
    rw [show its.toArray.any (eqU x) = its.any (eqU x) by simp, any_eqU r fs]
    exact q
  · obtain ⟨its, r, pl, hz⟩ := I.tuple hq
    refine SeqAt.in_tupleAt (eqU x) pl (fun w hw => mem_eqAt rx fx r fs w (by simpa using hw)) ⟨.bl _, H, I, rfl, ?_⟩
    rw [show its.toArray.any (eqU x) = its.any (eqU x) by simp, any_eqU r fs]
    exact q
theorem op_notIn_seq : OpR X (compareOp .NotIn) (rIn X.K true) := by
  intro pins s σ H x y v u Q I rx ry h
  obtain ⟨p, xs, rfl, hq, fx, fs, q⟩ := h
  cases ry
  rcases hq with hq | hq
  · obtain ⟨its, r, pl, hz⟩ := I.list hq
    refine SeqAt.notIn_listAt (eqU x) pl.isList (fun w hw => mem_eqAt rx fx r fs w (by simpa using hw)) ⟨.bl _, H, I, rfl, ?_⟩
    rw [show its.toArray.any (eqU x) = its.any (eqU x) by simp, any_eqU r fs]
    exact q
  · obtain ⟨its, r, pl, hz⟩ := I.tuple hq
    refine SeqAt.notIn_tupleAt (eqU x) pl (fun w hw => mem_eqAt rx fx r fs w (by simpa using hw)) ⟨.bl _, H, I, rfl, ?_⟩
    rw [show its.toArray.any (eqU x) = its.any (eqU x) by simp, any_eqU r fs]
    exact q
theorem op_notIn_str : OpR X (compareOp .NotIn) (fun x y H Q => ∃ i j, x = .str i ∧ y = .str j ∧ Q (.bl (!(!(Builtin.Str.occurrences j i 0 j.length 1).isEmpty))) H) := by
  intro pins s σ H x y v u Q I rx ry h
  obtain ⟨i, j, rfl, rfl, q⟩ := h
  obtain ⟨t, rfl⟩ := rx
  obtain ⟨t', rfl⟩ := ry
  exact notIn_str ⟨.bl _, H, I, rfl, q⟩

/-! ### len, list(x), tuple(x) of any list or tuple that is read -/
theorem call_len_seq : CallR X (.builtin "len") (fun xs H Q => ∃ p ys, xs = [.ref p] ∧ (SqL X.K H p ys ∨ SqT X.K H p ys) ∧ Q (.int ys.length) H) := by
  intro pins s σ H xs us Q I r h
  obtain ⟨p, ys, rfl, hq, q⟩ := h
  obtain ⟨u, rfl, rx⟩ := vals1 r
  cases rx
  have hn := line63
  rcases hq with hq | hq
  · obtain ⟨its, r', pl, hz⟩ := I.list hq
    have hlen := r'.length
    exact Calls.call_len_list pl.isList (by simp only [List.size_toArray] <;> omega) ⟨.int ys.length, H, I.tok _, ⟨s.toks + 1, by rw [List.size_toArray, hlen]⟩, q⟩
  · obtain ⟨its, r', pl, hz⟩ := I.tuple hq
    have hlen := r'.length
    exact len_tuple pl (by simp only [List.size_toArray] <;> omega) ⟨.int ys.length, H, I.tok _, ⟨s.toks + 1, by rw [List.size_toArray, hlen]⟩, q⟩
theorem call_len_str : CallR X (.builtin "len") (fun xs H Q => ∃ z, xs = [.str z] ∧ z.length ≤ sizeLine ∧ Q (.int z.length) H) := by
  intro pins s σ H xs us Q I r h
  obtain ⟨z, rfl, hz, q⟩ := h
  obtain ⟨u, rfl, t, rfl⟩ := vals1 r
  have hn := line63
  exact len_str (by omega) ⟨.int z.length, H, I.tok _, ⟨_, rfl⟩, q⟩
theorem CallR.or {f : Value} {r r' : List V → Hp → VK → Prop} (h : CallR X f r) (h' : CallR X f r') : CallR X f (fun xs H Q => r xs H Q ∨ r' xs H Q) := by
  intro pins s σ H xs us Q I rs q
  rcases q with q | q
  · exact h pins s σ H xs us Q I rs q
  · exact h' pins s σ H xs us Q I rs q
theorem call_list_of : CallR X (.type "list") (fun xs H Q => ∃ p ys, xs = [.ref p] ∧ (SqL X.K H p ys ∨ SqT X.K H p ys) ∧ ∀ l, H l = none → Q (.ref l) (upd H l (.lst ys))) := by
  intro pins s σ H xs us Q I r h
  obtain ⟨p, ys, rfl, hq, q⟩ := h
  obtain ⟨u, rfl, rx⟩ := vals1 r
  cases rx
  have fin : ∀ (its : List Value), Vals ys its → ys.length ≤ sizeLine → ∀ (h' : Heap) (c' : Nat), (∀ b o', s.heap.get? b = some o' → h'.get? b = some o') →
      h'.get? s.heap.objs.size = some { cls := .type "list", dict := none, data := .seq its.toArray c', slots := #[] } → EP X pins σ Q (.ref s.heap.objs.size) { s with heap := h' } := fun its r' hz h' c' kp e =>
    ⟨.ref s.heap.objs.size, _, I.laid (t' := s.toks) kp (Nat.le_refl _) (show ObjOk X.prog X.w _ h' _ (.lst ys) from ⟨hz, its, c', r', e⟩), rfl, q _ (I.hok.fresh (Nat.le_refl _))⟩
  rcases hq with hq | hq
  · obtain ⟨its, r', pl, hz⟩ := I.list hq
    have hlen := r'.length
    obtain ⟨o, ho, hc, n, hd⟩ := pl.isList
    exact call_list_seq p (.inl rfl) ho hc hd (fun h' c' kp e => fin its r' hz h' c' kp e) (by simp only [List.size_toArray] <;> omega)
  · obtain ⟨its, r', pl, hz⟩ := I.tuple hq
    have hlen := r'.length
    obtain ⟨o, ho, hc, n, hd⟩ := pl
    exact call_list_seq p (.inr rfl) ho hc hd (fun h' c' kp e => fin its r' hz h' c' kp e) (by simp only [List.size_toArray] <;> omega)
theorem call_tuple_of : CallR X (.type "tuple") (fun xs H Q => ∃ p ys, xs = [.ref p] ∧ ((SqL X.K H p ys ∧ ∀ l, H l = none → Q (.ref l) (upd H l (.tup ys))) ∨ (SqT X.K H p ys ∧ Q (.ref p) H))) := by
  intro pins s σ H xs us Q I r h
  obtain ⟨p, ys, rfl, h⟩ := h
  obtain ⟨u, rfl, rx⟩ := vals1 r
  cases rx
  rcases h with ⟨hq, q⟩ | ⟨hq, q⟩
  · obtain ⟨its, r', pl, hz⟩ := I.list hq
    have hlen := r'.length
    refine call_tuple_list pl.isList (fun h' kp => ?_) (by simp only [List.size_toArray] <;> omega)
    have I1 : Inv X pins σ H { s with heap := h' } := I.kept (t' := s.toks) kp
    have I2 : Inv X pins σ (upd H h'.objs.size (.tup ys)) { s with heap := h'.push { cls := .type "tuple", data := .seq its.toArray } } :=
      I1.laid (t' := s.toks) (fun b o e => Heap.get?_push_of_some _ e) (Nat.le_refl _) (show ObjOk X.prog X.w _ _ _ (.tup ys) from ⟨hz, its, r', IsTup.new _ _⟩)
    exact ⟨.ref h'.objs.size, _, I2, rfl, q _ (I1.hok.fresh (Nat.le_refl _))⟩
  · obtain ⟨its, r', pl, hz⟩ := I.tuple hq
    exact call_tuple_same pl ⟨.ref p, H, I, rfl, q⟩

/-! ### the call of a builtin's method: o.m(..) -/
/-- the value is of that builtin type -/
def tyV (K : PySem.W.Frag) (T : String) (x : V) (H : Hp) : Prop := match x with
  | .str _ => T = "str"
  | .int _ => T = "int"
  | .ref p => (T = "list" ∧ ∃ xs, SqL K H p xs) ∨ (T = "tuple" ∧ ∃ o, K.lookup p = some o ∧ o.cls = .type "tuple" ∧ o.dict = none) ∨
      (T = "dict" ∧ ((∃ kvs, H p = some (.dK kvs)) ∨ ∃ kvs, H p = some (.dT kvs))) ∨ (T = "set" ∧ ∃ S n, H p = some (.set S n))
  | _ => False
theorem tyV_is {pins : List (Addr × Obj)} {σ : St} {H : Hp} {s : Shared} {T : String} {x : V} {v : Value} (I : Inv X pins σ H s) (r : RelV x v) (ty : tyV X.K T x H) :
    s.TypeIs v T ∧ ∀ a, v = .ref a → ∃ ob, s.heap.get? a = some ob ∧ ob.dict = none := by
  cases x with
  | str z =>
    obtain ⟨t, rfl⟩ := r
    cases (show T = "str" from ty)
    exact ⟨typeIs_str s z t, fun _ e => nomatch e⟩
  | int i =>
    obtain ⟨t, rfl⟩ := r
    cases (show T = "int" from ty)
    exact ⟨typeIs_int s i t, fun _ e => nomatch e⟩
  | ref p =>
    cases r
    rcases ty with ⟨rfl, xs, hq⟩ | ⟨rfl, o, hk, hc, hd⟩ | ⟨rfl, hk⟩ | ⟨rfl, S, n, hk⟩
    · obtain ⟨its, _, pl, _⟩ := I.list hq
      refine ⟨pl.isList.typeIs, fun a e => ?_⟩
      cases e
      obtain ⟨o, n, e, c, hd, _⟩ := pl
      exact ⟨o, e, hd⟩
    · refine ⟨⟨o, I.kIn p o hk, hc⟩, fun a e => ?_⟩
      cases e
      exact ⟨o, I.kIn _ o hk, hd⟩
    · have z : ∃ o, s.heap.get? p = some o ∧ o.ExactDict := by
        rcases hk with ⟨kvs, hk⟩ | ⟨kvs, hk⟩
        · obtain ⟨_, _, _, _, o, _, _, e, ex, _⟩ := I.hok p _ hk
          exact ⟨o, e, ex⟩
        · obtain ⟨_, _, _, _, o, _, _, e, ex, _⟩ := I.hok p _ hk
          exact ⟨o, e, ex⟩
      obtain ⟨o, e, ex⟩ := z
      refine ⟨⟨o, e, ex.1⟩, fun a e2 => ?_⟩
      cases e2
      exact ⟨o, e, ex.2.1⟩
    · obtain ⟨o, _, _, _, e, ex, _⟩ := I.hok p _ hk
      refine ⟨⟨o, e, ex.1⟩, fun a e2 => ?_⟩
      cases e2
      exact ⟨o, e, ex.2.1⟩
  | _ => exact False.elim ty
def tBM0 (K : PySem.W.Frag) (T : String) (r : V → List V → Hp → VK → Prop) (to : TE) : TE := fun σ H Q => to σ H fun x H1 => tyV K T x H1 ∧ r x [] H1 Q
def tBM (K : PySem.W.Frag) (T : String) (r : V → List V → Hp → VK → Prop) (to : TE) (t : TA) : TE := fun σ H Q => to σ H fun x H1 => tyV K T x H1 ∧ t σ H1 fun xs H2 => r x xs H2 Q
variable {o e : Expr} {es : List Expr} {to : TE} {t : TA} {name : Str} {apos cpos : Pos} {T id : String} {r : V → List V → Hp → VK → Prop}
theorem pe_bm0 (pa : PlainAttrs T) (slot : Slot T name id) (hty : typeOf (.builtin id) = pure (.type "method_descriptor")) (hm : MtR X id r) (ho : PE X o to)
    (hbase : attributeBase o name X.env (eval o X.env) = eval o X.env := by rfl) (hline : (apos.endLine == cpos.line) = true := by rfl) : PE X (.Call (.Attribute o name apos) [] [] cpos) (tBM0 X.K T r to) := by
  intro pins s σ H Q I h
  refine wpAny_Call_method0_late hbase hline (thn (ho pins s σ H _ I h) fun v s1 ⟨x, H1, I1, r1, ty, q1⟩ => ?_)
  obtain ⟨h1, h2⟩ := tyV_is I1 r1 ty
  exact ⟨T, id, pa, slot, hty, h1, h2, Calls.callWith_builtin rfl (PySem.evalArgs_none (hm pins s1 σ H1 x [] v [] Q I1 r1 .nil q1))⟩
theorem pe_bm (pa : PlainAttrs T) (slot : Slot T name id) (hty : typeOf (.builtin id) = pure (.type "method_descriptor")) (hm : MtR X id r) (ho : PE X o to) (ha : PA X (e :: es) t)
    (hbase : attributeBase o name X.env (eval o X.env) = eval o X.env := by rfl)
    (hfew : ((backTo cpos (starEach (e :: es) X.env)).all (fun x => !x.1) && (backToKw cpos (keywordEach [] X.env)).all (fun x => x.1.isSome)
      && decide ((e :: es).length + ([] : List Keyword).length + (if ([] : List Keyword).isEmpty then 0 else 1) < 30)) = true := by rfl)
    (hline : (apos.endLine == cpos.line) = true := by rfl) (hs : starEach (e :: es) X.env = (false, eval e X.env) :: starEach es X.env := by rfl) (hplain : (backTo cpos (starEach es X.env)).any (·.1) = false := by rfl) :
    PE X (.Call (.Attribute o name apos) (e :: es) [] cpos) (tBM X.K T r to t) := by
  intro pins s σ H Q I h
  refine wpAny_Call_method_late hbase hfew hline rfl (thn (ho pins s σ H _ I h) fun v s1 ⟨x, H1, I1, r1, ty, q1⟩ => ?_)
  obtain ⟨h1, h2⟩ := tyV_is I1 r1 ty
  refine ⟨T, id, pa, slot, hty, h1, h2, ?_⟩
  have hA := ha cpos pins s1 σ H1 _ I1 q1
  rw [hs] at hA ⊢
  refine Calls.callWith_builtin (by show (false || (backTo cpos (starEach es X.env)).any (·.1)) = false; rw [hplain] <;> rfl) (Calls.evalArgs_plain ?_)
  exact thn hA fun us s2 ⟨vs, H2, I2, r2, q2⟩ => hm pins s2 σ H2 x vs v us Q I2 r1 r2 q2
/- xs.append(e), list.index on a module's tuple .. are MtR facts of 06m -/
end
end L2

namespace L2
open PySem PySem.Spec PyProof.Rows

def MtM (X : Cx) (id : String) (r : V → List V → Hp → VK → Prop) : Prop :=
  ∀ (pins : List (Addr × Obj)) (s : Shared) (σ : St) (H : Hp) (x : V) (xs : List V) (v : Value) (us : List Value) (Q : VK), Inv X pins σ H s → RelV x v → Vals xs us → r x xs H Q →
    wpAny (model X.prog X.w) X.A (call (.builtin id) (v :: us)) (EP X pins σ Q) X.xe s

/-! ### lists of values -/
theorem Vals.one : ∀ {x : V} {us : List Value}, Vals [x] us → ∃ u, us = [u] ∧ RelV x u
  | _, _, .cons r .nil => ⟨_, rfl, r⟩
theorem Vals.two : ∀ {x y : V} {us : List Value}, Vals [x, y] us → ∃ u v, us = [u, v] ∧ RelV x u ∧ RelV y v
  | _, _, _, .cons r (.cons q .nil) => ⟨_, _, rfl, r, q⟩
theorem Vals.zero : ∀ {us : List Value}, Vals [] us → us = []
  | _, .nil => rfl
theorem Vals.dropLast {xs : List V} {us : List Value} (h : Vals xs us) : Vals xs.dropLast us.dropLast := by
  induction h with
  | nil => exact .nil
  | cons r t ih =>
    cases t with
    | nil => exact .nil
    | cons q t' => exact .cons r ih
theorem Vals.eraseIdx : ∀ {xs : List V} {us : List Value} (i : Nat), Vals xs us → Vals (xs.eraseIdx i) (us.eraseIdx i)
  | _, _, _, .nil => .nil
  | _, _, 0, .cons _ t => t
  | _, _, i + 1, .cons r t => .cons r (Vals.eraseIdx i t)
theorem Vals.reverse {xs : List V} {us : List Value} (h : Vals xs us) : Vals xs.reverse us.reverse := by
  induction h with
  | nil => exact .nil
  | cons r t ih => rw [List.reverse_cons, List.reverse_cons]; exact Vals.append ih (.cons r .nil)
theorem Vals.rep {xs : List V} {us : List Value} (h : Vals xs us) : ∀ k : Nat, Vals (List.replicate k xs).flatten (List.replicate k us).flatten
  | 0 => .nil
  | k + 1 => by
    rw [List.replicate_succ, List.replicate_succ, List.flatten_cons, List.flatten_cons]
    exact Vals.append h (Vals.rep h k)
theorem erase_last {α : Type} (l : List α) : l.eraseIdx (l.length - 1) = l.dropLast := by
  induction l with
  | nil => rfl
  | cons a r ih =>
    cases r with
    | nil => rfl
    | cons b r =>
      have e : (a :: b :: r).length - 1 = ((b :: r).length - 1) + 1 := by
        have h1 : (a :: b :: r).length = r.length + 2 := rfl
        have h2 : (b :: r).length = r.length + 1 := rfl
        omega
      rw [e, List.eraseIdx_cons_succ, ih]
      all_goals rfl
theorem len_erase {α : Type} : ∀ (l : List α) (i : Nat), (l.eraseIdx i).length ≤ l.length
  | [], _ => Nat.le_refl _
  | _ :: _, 0 => Nat.le_succ _
  | _ :: r, i + 1 => Nat.succ_le_succ (len_erase r i)
theorem foldl_rep (its : List Value) : ∀ (k : Nat) (acc : List Value),
    List.foldl (fun x1 x2 => x1 ++ x2) acc.toArray (List.replicate k its.toArray) = (acc ++ (List.replicate k its).flatten).toArray
  | 0, acc => by simp
  | k + 1, acc => by
    have e : acc.toArray ++ its.toArray = (acc ++ its).toArray := by simp
    have e2 : (acc ++ its) ++ (List.replicate k its).flatten = acc ++ (List.replicate (k + 1) its).flatten := by
      rw [List.replicate_succ, List.flatten_cons, List.append_assoc]
    rw [← e2, ← foldl_rep its k (acc ++ its), ← e, List.replicate_succ, List.foldl_cons]

section
variable {X : Cx} {pins : List (Addr × Obj)} {σ : St} {H : Hp} {s : Shared} {l b : Addr} {xs ys zs : List V}

/-! ### the two steps: a tracked list is rewritten, a new list is laid -/
theorem Inv.lset {its its' : List Value} {n : Nat} {f : Array Value → Array Value} {t' : Nat} (I : Inv X pins σ H s) (hH : H l = some (.lst xs))
    (e : s.heap.get? l = some { cls := .type "list", data := .seq its.toArray n }) (hf : f its.toArray = its'.toArray) (hv : Vals ys its') (hz : ys.length ≤ sizeLine) :
    Inv X pins σ (upd H l (.lst ys)) { s with heap := s.heap.update l (Obj.mapSeq f), toks := t' } := by
  have q := PySem.IsL.update e f
  rw [hf] at q
  refine I.write (x := l) (e := l) (by rw [hH]; exact trivial) (.inl rfl) (fun b' u hb hu => (Heap.get?_update_other s.heap (Obj.mapSeq f) (Ne.symm hb)).trans hu) ⟨_, q⟩ ?_
  exact ⟨hz, its', _, hv, q⟩
theorem Inv.lnew {its : List Value} {t' : Nat} (I : Inv X pins σ H s) (hv : Vals ys its) (hz : ys.length ≤ sizeLine) :
    Inv X pins σ (upd H s.heap.objs.size (.lst ys)) { s with heap := s.heap.push { cls := .type "list", data := .seq its.toArray }, toks := t' } :=
  I.laid (fun _ _ q => Heap.get?_push_of_some _ q) (Nat.le_refl _) ⟨hz, its, 0, hv, Heap.get?_push_size _ rfl⟩
theorem Inv.fresh (I : Inv X pins σ H s) : H s.heap.objs.size = none := I.hok.fresh (Nat.le_refl _)
theorem Inv.lstM (I : Inv X pins σ H s) (hH : H l = some (.lst xs)) : xs.length ≤ sizeLine ∧ ∃ (its : List Value) (n : Nat), Vals xs its ∧ xs.length = its.length ∧ s.heap.get? l = some { cls := .type "list", data := .seq its.toArray n } := by
  obtain ⟨z, its, n, r, e⟩ := I.hok l _ hH
  exact ⟨z, its, n, r, r.length, e⟩

theorem notLongL {n : Nat} (h : n ≤ sizeLine) : Builtin.List.listTooLong n = false := by
  unfold Builtin.List.listTooLong
  exact decide_eq_false (by omega)
end

section
variable {X : Cx}

/-! ### methods -/
def rAppend : V → List V → Hp → VK → Prop := fun x vs H Q => ∃ l xs y, x = .ref l ∧ vs = [y] ∧ H l = some (.lst xs) ∧ xs.length < sizeLine ∧ Q .non (upd H l (.lst (xs ++ [y])))
theorem mt_append : MtM X "list.append" rAppend := by
  intro pins s σ H x vs v us Q I rx rv h
  obtain ⟨l, xs, y, rfl, rfl, hH, hz, q⟩ := h
  cases rx
  obtain ⟨u, rfl, ru⟩ := rv.one
  obtain ⟨z, its, n, r, hl, e⟩ := I.lstM hH
  refine call_meets F.slot_list_append ⟨_, e, rfl⟩ F.entry_list_append (F.args_list_append_2 _ _) (PySem.list_append l its.toArray n u (by rw [List.size_toArray]; omega)) ⟨e, ?_⟩
  refine ⟨.non, _, I.lset (its' := its ++ [u]) hH e (by simp) (r.append (.cons ru .nil)) ?_, rfl, q⟩
  rw [List.length_append, List.length_singleton]
  omega

def rExtend : V → List V → Hp → VK → Prop := fun x vs H Q => ∃ l b xs zs, x = .ref l ∧ vs = [.ref b] ∧ H l = some (.lst xs) ∧ H b = some (.lst zs) ∧ xs.length + zs.length ≤ sizeLine ∧ Q .non (upd H l (.lst (xs ++ zs)))
theorem mt_extend : MtM X "list.extend" rExtend := by
  intro pins s σ H x vs v us Q I rx rv h
  obtain ⟨l, b, xs, zs, rfl, rfl, hH, hB, hz, q⟩ := h
  cases rx
  obtain ⟨u, rfl, ru⟩ := rv.one
  cases ru
  obtain ⟨z, its, n, r, hl, e⟩ := I.lstM hH
  obtain ⟨z2, its2, n2, r2, hl2, e2⟩ := I.lstM hB
  have hsz : its.toArray.size + its2.toArray.size ≤ sizeLine := by rw [List.size_toArray, List.size_toArray]; omega
  have hlong : ¬ (!its.toArray.isEmpty && Builtin.List.listTooLong (its.toArray.size + its2.toArray.size)) = true := by
    rw [notLongL hsz, Bool.and_false]
    exact Bool.false_ne_true
  refine call_meets F.slot_list_extend ⟨_, e, rfl⟩ F.entry_list_extend (F.args_list_extend_2 _ _)
    (AutoSeq1.list_extend_list_list_0 l its.toArray n b its2.toArray n2 hlong (by rw [List.size_toArray]; omega) (by omega)) ⟨e, e2, ?_⟩
  refine ⟨.non, _, I.lset (its' := its ++ its2) hH e (by simp) (r.append r2) ?_, rfl, q⟩
  rw [List.length_append]
  omega

def rPop : V → List V → Hp → VK → Prop := fun x vs H Q => ∃ l xs y, x = .ref l ∧ vs = [] ∧ H l = some (.lst xs) ∧ xs[xs.length - 1]? = some y ∧ Q y (upd H l (.lst xs.dropLast))
theorem mt_pop : MtM X "list.pop" rPop := by
  intro pins s σ H x vs v us Q I rx rv h
  obtain ⟨l, xs, y, rfl, rfl, hH, hy, q⟩ := h
  cases rx
  have hus := rv.zero
  subst hus
  obtain ⟨z, its, n, r, hl, e⟩ := I.lstM hH
  obtain ⟨u, hu, ru⟩ := r.get hy
  have hy' : its.toArray[its.toArray.size - 1]? = some u := by
    show its.toArray[its.length - 1]? = some u
    rw [← Array.getElem?_toList, ← hl]
    exact hu
  refine call_meets F.slot_list_pop ⟨_, e, rfl⟩ F.entry_list_pop (F.args_list_pop_1 _) (MeetsSeq.list_pop_last l its.toArray n u hy' (by rw [List.size_toArray]; omega)) ⟨e, ?_⟩
  refine ⟨y, _, I.lset (its' := its.dropLast) hH e ?_ r.dropLast ?_, ru, q⟩
  · show its.toArray.eraseIdxIfInBounds (its.toArray.size - 1) = its.dropLast.toArray
    rw [List.size_toArray, List.eraseIdxIfInBounds_toArray, erase_last]
  · rw [List.length_dropLast]
    omega

def rPopAt : V → List V → Hp → VK → Prop := fun x vs H Q => ∃ l xs i k y, x = .ref l ∧ vs = [.int i] ∧ H l = some (.lst xs) ∧ -(2 ^ 63) ≤ i ∧ i < 2 ^ 63 ∧ seqIndex? i xs.length = some k ∧ xs[k]? = some y ∧ Q y (upd H l (.lst (xs.eraseIdx k)))
theorem mt_popAt : MtM X "list.pop" rPopAt := by
  intro pins s σ H x vs v us Q I rx rv h
  obtain ⟨l, xs, i, k, y, rfl, rfl, hH, h1, h2, hk, hy, q⟩ := h
  cases rx
  obtain ⟨u, rfl, ru⟩ := rv.one
  obtain ⟨t, rfl⟩ := ru
  obtain ⟨z, its, n, r, hl, e⟩ := I.lstM hH
  obtain ⟨w, hw, rw'⟩ := r.get hy
  refine call_meets F.slot_list_pop ⟨_, e, rfl⟩ F.entry_list_pop (F.args_list_pop_2 _ _)
    (MeetsSeq.list_pop_at l its.toArray n i t k w (fitsIndex_both h1 h2) (by rw [List.size_toArray, ← hl]; exact hk) (by rw [← Array.getElem?_toList]; exact hw) (by rw [List.size_toArray]; omega)) ⟨e, ?_⟩
  refine ⟨y, _, I.lset (its' := its.eraseIdx k) hH e ?_ (r.eraseIdx k) ?_, rw', q⟩
  · show its.toArray.eraseIdxIfInBounds k = (its.eraseIdx k).toArray
    rw [List.eraseIdxIfInBounds_toArray]
  · have := len_erase xs k
    omega

def rReverse : V → List V → Hp → VK → Prop := fun x vs H Q => ∃ l xs, x = .ref l ∧ vs = [] ∧ H l = some (.lst xs) ∧ Q .non (upd H l (.lst xs.reverse))
theorem mt_reverse : MtM X "list.reverse" rReverse := by
  intro pins s σ H x vs v us Q I rx rv h
  obtain ⟨l, xs, rfl, rfl, hH, q⟩ := h
  cases rx
  have hus := rv.zero
  subst hus
  obtain ⟨z, its, n, r, hl, e⟩ := I.lstM hH
  refine call_meets F.slot_list_reverse ⟨_, e, rfl⟩ F.entry_list_reverse (F.args_list_reverse_1 _) (AutoSeq1.list_reverse_list_0 l its.toArray n (by rw [List.size_toArray]; omega)) ⟨e, ?_⟩
  refine ⟨.non, _, I.lset (its' := its.reverse) hH e (by simp) r.reverse ?_, rfl, q⟩
  rw [List.length_reverse]
  omega

def rClear : V → List V → Hp → VK → Prop := fun x vs H Q => ∃ l xs, x = .ref l ∧ vs = [] ∧ H l = some (.lst xs) ∧ Q .non (upd H l (.lst []))
theorem mt_clear : MtM X "list.clear" rClear := by
  intro pins s σ H x vs v us Q I rx rv h
  obtain ⟨l, xs, rfl, rfl, hH, q⟩ := h
  cases rx
  have hus := rv.zero
  subst hus
  obtain ⟨z, its, n, r, hl, e⟩ := I.lstM hH
  refine call_meets F.slot_list_clear ⟨_, e, rfl⟩ F.entry_list_clear (F.args_list_clear_1 _) (AutoSeq1.list_clear_list_0 l its.toArray n (by rw [List.size_toArray]; omega)) ⟨e, ?_⟩
  exact ⟨.non, _, I.lset (its' := []) (ys := []) hH e rfl .nil (Nat.zero_le _), rfl, q⟩

/-! ### list + list, list += list, list * int -/
def rCat : R2 := fun x y H Q => ∃ l b xs zs, x = .ref l ∧ y = .ref b ∧ H l = some (.lst xs) ∧ H b = some (.lst zs) ∧ xs.length + zs.length ≤ sizeLine ∧ ∀ p, H p = none → Q (.ref p) (upd H p (.lst (xs ++ zs)))
theorem op_cat : OpR X (binaryOp .Add) rCat := by
  intro pins s σ H x y v u Q I rx ry h
  obtain ⟨l, b, xs, zs, rfl, rfl, hH, hB, hz, q⟩ := h
  cases rx
  cases ry
  obtain ⟨z, its, n, r, hl, e⟩ := I.lstM hH
  obtain ⟨z2, its2, n2, r2, hl2, e2⟩ := I.lstM hB
  refine PySem.P.add_list e e2 ?_ (by rw [List.size_toArray, List.size_toArray]; omega)
  have ea : its.toArray ++ its2.toArray = (its ++ its2).toArray := by simp
  rw [ea]
  exact ⟨.ref _, _, I.lnew (t' := s.toks) (r.append r2) (by rw [List.length_append]; omega), rfl, q _ I.fresh⟩
/-- a list times an int (a negative one is nothing) -/
def rRep : R2 := fun x y H Q => ∃ l k xs, x = .ref l ∧ y = .int k ∧ H l = some (.lst xs) ∧ -(2 ^ 63) ≤ k ∧ k < 2 ^ 63 ∧ xs.length * k.toNat ≤ sizeLine ∧
  ∀ p, H p = none → Q (.ref p) (upd H p (.lst (List.replicate k.toNat xs).flatten))
theorem len_rep {α : Type} (xs : List α) (k : Nat) : (List.replicate k xs).flatten.length = k * xs.length := by
  induction k with
  | zero => simp
  | succ k ih => rw [List.replicate_succ, List.flatten_cons, List.length_append, ih, Nat.succ_mul, Nat.add_comm]
theorem op_rep : OpR X (binaryOp .Mult) rRep := by
  intro pins s σ H x y v u Q I rx ry h
  obtain ⟨l, k, xs, rfl, rfl, hH, h1, h2, hz, q⟩ := h
  cases rx
  obtain ⟨t, rfl⟩ := ry
  obtain ⟨z, its, n, r, hl, e⟩ := I.lstM hH
  have hlen : its.toArray.size * k.toNat ≤ sizeLine := by rw [List.size_toArray, ← hl]; exact hz
  have hcap : ¬ its.toArray.size * k.toNat > (2 ^ 63 - 1) / 8 := by
    have : (sizeLine : Nat) ≤ (2 ^ 63 - 1) / 8 := by decide
    omega
  have hfit : ¬ (!Builtin.List.listFitsIndex k) = true := by
    rw [fitsIndex_both h1 h2]
    exact Bool.false_ne_true
  have hlong : ¬ Builtin.List.listTooLong (its.toArray.size * k.toNat) = true := by
    rw [notLongL hlen]
    exact Bool.false_ne_true
  have hnew : List.foldl (fun x1 x2 => x1 ++ x2) #[] (List.replicate (if its.toArray.isEmpty = true then 0 else k.toNat) its.toArray) = (List.replicate k.toNat its).flatten.toArray := by
    have f0 : ∀ m : Nat, List.foldl (fun x1 x2 => x1 ++ x2) #[] (List.replicate m its.toArray) = (List.replicate m its).flatten.toArray := fun m => by
      have := foldl_rep its m []
      rw [List.nil_append] at this
      exact this
    rw [f0]
    cases its with
    | nil => simp
    | cons a r' => rw [if_neg (by simp)]
  refine wpAny_binaryOp_repeat_ref (T := "list") (U := "int") (by decide) ⟨_, e, rfl⟩ (fun s' => typeIs_int s' k t) noFill_list_mul F.fills_int_mul F.slot_int_rmul repeat_list F.slot_int_index.lookup
    (call_meets F.slot_int_rmul (typeIs_int s k t) F.entry_int_rmul (F.args_int_rmul_2 _ _) (int___rmul___int_list k t l its.toArray n)
      ⟨e, rfl, ⟨_, e, rfl⟩, call_meets F.slot_list_mul ⟨_, e, rfl⟩ F.entry_list_mul (F.args_list_mul_2 _ _) (AutoListH.list___mul___list_int_3 l its.toArray n k t hfit hcap hlong) ⟨e, ?_⟩⟩)
  rw [hnew]
  exact ⟨.ref _, _, I.lnew (t' := s.toks) (r.rep k.toNat) (by rw [len_rep, Nat.mul_comm]; exact hz), rfl, q _ I.fresh⟩

/-! ### del xs[i] -/
theorem del_list {pins : List (Addr × Obj)} {s : Shared} {σ : St} {H : Hp} {l : Addr} {xs : List V} {i : Int} {t : Tok} {k : Nat} {Q : Unit → Shared → Prop} (I : Inv X pins σ H s) (hH : H l = some (.lst xs))
    (h1 : -(2 ^ 63) ≤ i) (h2 : i < 2 ^ 63) (hk : seqIndex? i xs.length = some k) (h : ∀ s', Inv X pins σ (upd H l (.lst (xs.eraseIdx k))) s' → Q () s') :
    wpAny (model X.prog X.w) X.A (delItem (.ref l) (.int i t)) Q X.xe s := by
  obtain ⟨z, its, n, r, hl, e⟩ := I.lstM hH
  refine PySem.P.delItem_list (k := k) e (fitsIndex_both h1 h2) (by rw [List.size_toArray, ← hl]; exact hk) (h _ ?_) (by rw [List.size_toArray]; omega)
  refine I.lset (its' := its.eraseIdx k) (t' := s.toks) hH e ?_ (r.eraseIdx k) ?_
  · show its.toArray.eraseIdxIfInBounds k = (its.eraseIdx k).toArray
    rw [List.eraseIdxIfInBounds_toArray]
  · have := len_erase xs k
    omega
end

/-! ### xs[a:b] = ys -/
section
variable {prog : Program} {w : World} {A : Around} {E : Value → Shared → Prop} {s : Shared}
theorem splice_eq (its its2 : List Value) (a c : Nat) : its.toArray.extract 0 a ++ its2.toArray ++ its.toArray.extract c its.toArray.size = (its.take a ++ its2 ++ its.drop c).toArray := by
  apply Array.toList_inj.mp
  first
    | (simp
       exact List.take_of_length_le (by simp))
    | simp [List.take_of_length_le]
    | simp
theorem bounds_run {a c n : Nat} (hac : a ≤ c) (hc : c ≤ n) : sliceBounds (some (a : Int)) (some (c : Int)) none n = ((a : Int), (c : Int), 1) := by
  simp only [sliceBounds, Option.getD_none]
  have h1 : ¬ ((a : Int) < 0) := by omega
  have h2 : ¬ ((c : Int) < 0) := by omega
  simp only [h1, h2, if_false, show (1 : Int) > 0 by decide, if_true]
  congr 1
  · omega
  · congr 1; omega
set_option maxRecDepth 100000 in
/-- list.__setitem__ with a slice of step one and another list -/
theorem setItem_slice {l b sl : Addr} {items new : Array Value} {n n2 : Nat} {vl vu : Value} {a c : Nat} {Q : Unit → Shared → Prop}
    (e : s.heap.get? l = some { cls := .type "list", data := .seq items n }) (e2 : s.heap.get? b = some { cls := .type "list", data := .seq new n2 }) (hne : l ≠ b)
    (hs : s.heap.IsSliceOf sl vl vu .none) (pl : IsPart vl (some (a : Int))) (pu : IsPart vu (some (c : Int))) (hac : a ≤ c) (hc : c ≤ items.size)
    (hsz : items.size + new.size ≤ sizeLine) (h : Q () { s with heap := s.heap.update l (Obj.mapSeq fun xs => xs.extract 0 a ++ new ++ xs.extract c xs.size) }) :
    wpAny (model prog w) A (setItem (.ref l) (.ref sl) (.ref b)) Q E s := by
  have hl : s.heap.IsList l items := PySem.IsL.isList e
  have hb : s.heap.IsList b new := PySem.IsL.isList e2
  obtain ⟨os, hos, hcs, hds⟩ := id hs
  have hTs : s.TypeIs (.ref sl) "slice" := ⟨os, hos, hcs⟩
  have hstep : ¬ ((rawPart none == rawInt 0) = true) := Bool.false_ne_true
  have hsame : Builtin.List.listSameRef (.ref l) (.ref b) = false := by
    unfold Builtin.List.listSameRef
    exact beq_eq_false_iff_ne.mpr hne
  have hmax : (max (a : Int) (c : Int)).toNat = c := by omega
  have hz' : ((fun xs : Array Value => xs.extract 0 a ++ new ++ xs.extract c xs.size) items).size ≤ sizeLine + 1 := by
    simp only [Array.size_append, Array.size_extract]
    omega
  unfold setItem
  try with_reducible refine wpAny_holding ?_
  first | refine wpAny_bind (wpAny_pure ?_) | skip
  refine wpAny_bind (wpAny_sequenceKey hl.typeIs (by decide) ?_)
  refine wpAny_bind (wpAny_callSpecial?_slot (name := Str.ofString "__setitem__") hl.typeIs slot_list_setitem
    (wpAny_call_entry slot_list_setitem hl.typeIs entry_list_setitem ?_ (args_list_setitem _ _ _)))
  show wpAny _ _ (Builtin.List.listSubscript? (.ref sl) >>= _) _ _ s
  refine wpAny_bind ?_
  unfold Builtin.List.listSubscript?
  refine wpAny_bind (wpAny_specialOf hTs slice_no_index ?_)
  simp only [Option.isNone_none, if_true]
  refine wpAny_pure ?_
  show wpAny _ _ (typeOf (.ref sl) >>= _) _ _ s
  refine wpAny_bind (wpAny_typeOf hTs ?_)
  first
    | rw [if_neg (by decide)]
    | refine PySem.W.KFB.if_not (by decide) ?_
  rw [listSliceParts_eq]
  refine wpAny_bind (wpAny_bind (wpAny_field hos hds (x := .none) rfl (wpAny_bind (wpAny_listPart .none ?_))))
  rw [if_neg hstep]
  refine wpAny_bind (wpAny_field hos hds (x := vl) rfl (wpAny_bind (wpAny_listPart pl ?_)))
  refine wpAny_bind (wpAny_field hos hds (x := vu) rfl (wpAny_bind (wpAny_listPart pu (wpAny_pure ?_))))
  first
    | simp only [hsame, Bool.false_eq_true, if_false]
    | refine PySem.W.KFB.if_not hsame ?_
    | (dsimp only
       rw [if_neg (by rw [hsame]; exact Bool.false_ne_true)])
  refine wpAny_bind (m := Builtin.List.listAllItems (.ref b) "must assign iterable to extended slice") ?_
  unfold Builtin.List.listAllItems
  refine wpAny_bind (wpAny_typeOf hb.typeIs ?_)
  first
    | refine PySem.W.KFB.if_so (by decide) ?_
    | rw [if_pos (by decide)]
    | simp only [beq_self_eq_true, Bool.true_or, if_true]
  unfold Builtin.List.listItems
  refine wpAny_bind (wpAny_seqItems e2 rfl (wpAny_pure ?_))
  refine wpAny_bind (wpAny_bind (wpAny_seqItems e rfl (wpAny_pure ?_)))
  refine wpAny_bind (wpAny_of_eq ((sliceIndices_raw (some (a : Int)) (some (c : Int)) none items.size (by simp)).trans (congrArg (pure : Int × Int × Int → Sem (Int × Int × Int)) (bounds_run hac hc))) ?_)
  show wpAny _ _ (if ((1 : Int) == 1) = true then _ else _) _ _ s
  rw [if_pos (by decide)]
  refine wpAny_bind (wpAny_rule ?_)
  first
    | simp only [notLongL hsz, Bool.false_eq_true, if_false]
    | refine PySem.W.KFB.if_not (notLongL hsz) ?_
  first | refine wpAny_bind (wpAny_pure ?_) | skip
  show wpAny _ _ (updateSeq l (fun xs => xs.extract 0 ((a : Int)).toNat ++ new ++ xs.extract (max (a : Int) (c : Int)).toNat xs.size) >>= _) _ _ s
  rw [hmax, Int.toNat_natCast]
  refine wpAny_bind (wpAny_updateSeq (hz := Nat.le_trans (Nat.le_add_right _ _) hsz) (_hz' := hz') e rfl ?_)
  refine wpAny_bind (wpAny_letGo ?_)
  first
    | exact wpAny_bind (wpAny_pure (wpAny_pure ⟨.none, rfl, wpAny_pure h⟩))
    | exact wpAny_pure ⟨.none, rfl, wpAny_pure h⟩
end

section
variable {X : Cx}
/-- xs[a:c] = ys of another list, at the value level: sl is the slice object that was just made -/
theorem set_slice {pins : List (Addr × Obj)} {s : Shared} {σ : St} {H : Hp} {l b sl : Addr} {xs ys : List V} {a c : Int} {vl vu : Value} {Q : Unit → Shared → Prop} (I : Inv X pins σ H s)
    (hH : H l = some (.lst xs)) (hB : H b = some (.lst ys)) (hne : l ≠ b) (hs : s.heap.IsSliceOf sl vl vu .none) (ra : RelV (.int a) vl) (rc : RelV (.int c) vu) (h0 : 0 ≤ a) (hac : a ≤ c) (hc : c ≤ xs.length)
    (hz : xs.length + ys.length ≤ sizeLine) (h : ∀ s', Inv X pins σ (upd H l (.lst (xs.take a.toNat ++ ys ++ xs.drop c.toNat))) s' → Q () s') :
    wpAny (model X.prog X.w) X.A (setItem (.ref l) (.ref sl) (.ref b)) Q X.xe s := by
  obtain ⟨ta, rfl⟩ := ra
  obtain ⟨tc, rfl⟩ := rc
  obtain ⟨z, its, n, r, hl, e⟩ := I.lstM hH
  obtain ⟨z2, its2, n2, r2, hl2, e2⟩ := I.lstM hB
  obtain ⟨a', rfl⟩ := Int.eq_ofNat_of_zero_le h0
  obtain ⟨c', rfl⟩ := Int.eq_ofNat_of_zero_le (Int.le_trans h0 hac)
  simp only [Int.toNat_natCast] at h
  refine setItem_slice (a := a') (c := c') e e2 hne hs (.int _ _) (.int _ _) (by omega) (by rw [List.size_toArray]; omega) (by rw [List.size_toArray, List.size_toArray]; omega) (h _ ?_)
  refine I.lset (its' := its.take a' ++ its2 ++ its.drop c') (t' := s.toks) hH e ?_ (Vals.append (Vals.append (r.take _) r2) (r.drop _)) ?_
  · exact splice_eq its its2 a' c'
  · rw [List.length_append, List.length_append, List.length_take, List.length_drop]
    omega
end
end L2

namespace Att
open PySem PySem.W PySem.Calls PyProof.Rows

/-! ### the script -/
theorem ints_of_wellAll {P : Params} {h : Heap} : ∀ (ns : List Int) (vs : List Value), WellAll P h vs (ns.map WData.int) → IntsAre vs ns := by
  intro ns
  induction ns with
  | nil =>
    intro vs w
    rw [List.map_nil] at w
    cases w
    exact .nil
  | cons n ns ih =>
    intro vs w
    rw [List.map_cons] at w
    cases w with
    | cons a b =>
      cases a
      exact .cons _ _ (ih _ b)

theorem script_of {l : OpenLaw} {n : Nat} (hn : l.most = some n) {P : Params} {h : Heap} {args : List WData} {vals : List Value}
    (hpre : l.row.toRowW.claim.pre args = true) (hwl : WellAll P h vals args) :
    ∃ a vs ns, vals = [Value.ref a] ∧ args = [WData.list (ns.map WData.int)] ∧ h.get? a = some { cls := .type "list", data := .seq vs.toArray } ∧ IntsAre vs ns ∧ ns.length ≤ n := by
  have hsh : WShape.hasAll [] args [.list .int] = true := (pre_splitW hpre).1
  have hc : l.pre.holds [] { args := args } = true := (pre_splitW hpre).2
  obtain ⟨d, r, rfl, h1, h2⟩ := hasAllW_cons hsh
  obtain rfl := hasAllW_nil h2
  obtain ⟨xs, rfl, h3⟩ := hasW_list h1
  obtain ⟨ns, rfl⟩ := items_int h3
  have hlen : ns.length ≤ n := by
    unfold OpenLaw.pre at hc
    have h4 : (WTm.not (.lt (.lit (.int (n : Int))) (.len (.arg 0)))).holds [] { args := [.list (ns.map .int)] } = true := by
      have h4 := (holds_andW hc).1
      rw [hn] at h4
      exact h4
    have h5 := condW_of h4 (w_not (w_lt w_lit (w_len_list (w_arg rfl))))
    rw [List.length_map] at h5
    refine Nat.le_of_not_lt fun q => ?_
    have q' : (n : Int) < ((ns.length : Nat) : Int) := by omega
    first
      | (rw [decide_eq_true q'] at h5; exact absurd h5 (by decide))
      | (simp at h5; omega)
  cases hwl with
  | cons w1 w2 =>
    cases w2
    cases w1 with
    | list ho hall => exact ⟨_, _, ns, rfl, rfl, ho, ints_of_wellAll ns _ hall, hlen⟩

theorem post_true (l : OpenLaw) (args : List WData) : l.row.toRowW.claim.post args (.bool true) args = true :=
  postW_of (r := l.row.toRowW) (X := (true == true))
    (show WShape.has [] (.bool true) .bool = true by first | rfl | decide | simp [WShape.has, WShape.arms, WShape.armsAll])
    (show (WTm.eq .res (.lit (.bool true))).value [] { args := args, res := some (.bool true), after := args } = some (.bool (true == true)) from w_eq_bool (w_res rfl) w_lit) rfl

/-! ### the attachment: holds_open's last premise (the goal 'hc' behind k_head) from a wpAny of the law's body -/
theorem attach {l : OpenLaw} {n : Nat} {q : Program} {loose : List Str} {XP : (Str → Option Value) → Heap → Prop} {YP : World → Heap → Prop} {d : DefRec} {x : Str}
    (hn : l.most = some n) (hdf : d.params.defaults = [])
    (hbind : ∀ pm cd doc v : Value, bindArgs (docDef d.name d.params d.body d.scope pm cd doc) ⟨[v], []⟩ = pure [(x, v)])
    (hx : d.scope.names.lookup x = some .local ∨ d.scope.names.lookup x = some .cell)
    (hk : d.scope.kind = .function) (hco : d.scope.isCoroutine = false) (hgen : d.scope.isGenerator = false)
    (body : ∀ (w : World) (s₀ s₁ s : Shared) (mg mb : Str → Option Value) (fa : Addr) (o : Obj) (pm cd doc : Value) (a : Addr) (vs : List Value) (ns : List Int),
      Ground q loose [] XP w s₀ mg mb s₁.heap → YP w s₁.heap →
      s₁.heap.get? fa = some o → o.data = .func (docDef d.name d.params d.body d.scope pm cd doc) → s₁.heap.CodeRec cd d.name → mg d.name = some (.ref fa) →
      s₁.heap.get? a = some { cls := .type "list", data := .seq vs.toArray } → IntsAre vs ns → ns.length ≤ n →
      s.gens = #[] → s.os = s₁.os →
      Fr s₁.heap s₁.heap.objs.size s.heap (bindL (envOfC d.name d.scope s₁.heap.objs.size fa cd).kindOf [(x, .ref a)] fun _ => none) →
      Cl s₁.heap.objs.size (cellsFrom (s₁.heap.objs.size + 1) d.scope.names []) s.heap (bindC (envOfC d.name d.scope s₁.heap.objs.size fa cd).kindOf [(x, .ref a)] fun _ => none) →
      wpAny (model l.prog w) (callerA.deeper (envOfC d.name d.scope s₁.heap.objs.size fa cd)) (execs d.body (envOfC d.name d.scope s₁.heap.objs.size fa cd))
        (fun f s' => f = .ret (.bool true) ∧ OldK s₁.heap s'.heap ∧ s'.os = s₁.os ∧ AllBare s'.gens) (fun _ _ => False) s) :
    WalkO q loose XP YP l.row.toRowW d [] (fun f vs => PySem.call f vs) := by
  intro w s₀ s₁ mg mb G Y fa o pm cd doc dV kV ho hd hcd hD hmg hg args vals as hpre hlay hrd hwl hlo
  obtain rfl : dV = .none := Dflts.none hD hdf
  obtain rfl : kV = .none := Dflts.noKw hD
  obtain ⟨a, vs, ns, rfl, rfl, hobj, hints, hlen⟩ := script_of hn hpre hwl
  refine enter_call ?_
  refine call_cells_ret (o := o) (by rw [depth_caller]; decide) ho (fd_plain hd) G.T.nolimit hcd (hbind pm cd doc (.ref a)) (fun y hy => ?_) (fun h₁ tk F X => ?_) hco hgen hk
  · obtain rfl : y = (x, Value.ref a) := List.mem_singleton.mp hy
    rcases hx with e | e
    · exact .inl e
    · exact .inr ⟨e, cellsFrom_some _ _ _ (.inl e)⟩
  · refine wpAny_mono (body w s₀ s₁ { s₁ with heap := h₁, toks := tk } mg mb fa o pm cd doc a vs ns G Y ho (fd_plain hd) hcd hmg hobj hints hlen hg rfl F X) (fun f s' hq => ?_) (fun _ _ hq => hq)
    obtain ⟨rfl, h2, h3, h4⟩ := hq
    exact ⟨.inl ⟨.bool true, .bool true, [], rfl, fun _ => rfl, .bool true, post_true l _, fun _ => ⟨List.Pairwise.nil, fun _ hm => (nomatch hm)⟩⟩, h2, h3, h4⟩

/-- the same from a codeAny of the CALL (for a layer whose function contracts speak of calls) -/
theorem attach_call {l : OpenLaw} {n : Nat} {q : Program} {loose : List Str} {XP : (Str → Option Value) → Heap → Prop} {YP : World → Heap → Prop} {d : DefRec}
    (hn : l.most = some n) (hdf : d.params.defaults = [])
    (call : ∀ (w : World) (s₀ s₁ : Shared) (mg mb : Str → Option Value) (fa : Addr) (o : Obj) (pm cd doc : Value) (a : Addr) (vs : List Value) (ns : List Int),
      Ground q loose [] XP w s₀ mg mb s₁.heap → YP w s₁.heap →
      s₁.heap.get? fa = some o → o.data = .func (docDef d.name d.params d.body d.scope pm cd doc) → s₁.heap.CodeRec cd d.name → mg d.name = some (.ref fa) →
      s₁.heap.get? a = some { cls := .type "list", data := .seq vs.toArray } → IntsAre vs ns → ns.length ≤ n → s₁.gens = #[] →
      codeAny (model l.prog w) callerA (.call (.ref fa) ⟨[.ref a], []⟩) (fun r s' => r = .ok (.ret (.bool true)) ∧ OldK s₁.heap s'.heap ∧ s'.os = s₁.os ∧ AllBare s'.gens) s₁) :
    WalkO q loose XP YP l.row.toRowW d [] (fun f vs => PySem.call f vs) := by
  intro w s₀ s₁ mg mb G Y fa o pm cd doc dV kV ho hd hcd hD hmg hg args vals as hpre hlay hrd hwl hlo
  obtain rfl : dV = .none := Dflts.none hD hdf
  obtain rfl : kV = .none := Dflts.noKw hD
  obtain ⟨a, vs, ns, rfl, rfl, hobj, hints, hlen⟩ := script_of hn hpre hwl
  refine enter_call (codeAny_mono (call w s₀ s₁ mg mb fa o pm cd doc a vs ns G Y ho (fd_plain hd) hcd hmg hobj hints hlen hg) fun r s' hq => ?_)
  obtain ⟨rfl, h2, h3, h4⟩ := hq
  exact ⟨.inl ⟨.bool true, .bool true, [], rfl, fun _ => rfl, .bool true, post_true l _, fun _ => ⟨List.Pairwise.nil, fun _ hm => (nomatch hm)⟩⟩, h2, h3, h4⟩

/-- the same where the top left finished generators (o_head chose holds_openN): nothing may have changed at all and no generator may be left -/
theorem attachN {l : OpenLaw} {n : Nat} {q : Program} {loose : List Str} {XP : (Str → Option Value) → Heap → Prop} {YP : World → Heap → Prop} {d : DefRec} {x : Str}
    (hn : l.most = some n) (hdf : d.params.defaults = [])
    (hbind : ∀ pm cd doc v : Value, bindArgs (docDef d.name d.params d.body d.scope pm cd doc) ⟨[v], []⟩ = pure [(x, v)])
    (hx : d.scope.names.lookup x = some .local ∨ d.scope.names.lookup x = some .cell)
    (hk : d.scope.kind = .function) (hco : d.scope.isCoroutine = false) (hgen : d.scope.isGenerator = false)
    (body : ∀ (w : World) (s₀ s₁ s : Shared) (mg mb : Str → Option Value) (fa : Addr) (o : Obj) (pm cd doc : Value) (a : Addr) (vs : List Value) (ns : List Int),
      Ground q loose [] XP w s₀ mg mb s₁.heap → YP w s₁.heap →
      s₁.heap.get? fa = some o → o.data = .func (docDef d.name d.params d.body d.scope pm cd doc) → s₁.heap.CodeRec cd d.name → mg d.name = some (.ref fa) →
      s₁.heap.get? a = some { cls := .type "list", data := .seq vs.toArray } → IntsAre vs ns → ns.length ≤ n →
      s.gens = #[] → s.os = s₁.os →
      Fr s₁.heap s₁.heap.objs.size s.heap (bindL (envOfC d.name d.scope s₁.heap.objs.size fa cd).kindOf [(x, .ref a)] fun _ => none) →
      Cl s₁.heap.objs.size (cellsFrom (s₁.heap.objs.size + 1) d.scope.names []) s.heap (bindC (envOfC d.name d.scope s₁.heap.objs.size fa cd).kindOf [(x, .ref a)] fun _ => none) →
      wpAny (model l.prog w) (callerA.deeper (envOfC d.name d.scope s₁.heap.objs.size fa cd)) (execs d.body (envOfC d.name d.scope s₁.heap.objs.size fa cd))
        (fun f s' => f = .ret (.bool true) ∧ (∀ b o, s₁.heap.get? b = some o → s'.heap.get? b = some o) ∧ s'.os = s₁.os ∧ s'.gens = #[]) (fun _ _ => False) s) :
    WalkN q loose XP YP l.row.toRowW d [] (fun f vs => PySem.call f vs) := by
  intro w s₀ s₁ mg mb G Y fa o pm cd doc dV kV ho hd hcd hD hmg hg args vals as hpre hlay hrd hwl hlo
  obtain rfl : dV = .none := Dflts.none hD hdf
  obtain rfl : kV = .none := Dflts.noKw hD
  obtain ⟨a, vs, ns, rfl, rfl, hobj, hints, hlen⟩ := script_of hn hpre hwl
  refine enter_callW ?_
  refine call_cells_ret (o := o) (by rw [depth_caller]; decide) ho (fd_plain hd) G.T.nolimit hcd (hbind pm cd doc (.ref a)) (fun y hy => ?_) (fun h₁ tk F X => ?_) hco hgen hk
  · obtain rfl : y = (x, Value.ref a) := List.mem_singleton.mp hy
    rcases hx with e | e
    · exact .inl e
    · exact .inr ⟨e, cellsFrom_some _ _ _ (.inl e)⟩
  · refine wpAny_mono (body w s₀ s₁ { s₁ with heap := h₁, toks := tk } mg mb fa o pm cd doc a vs ns G Y ho (fd_plain hd) hcd hmg hobj hints hlen hg rfl F X) (fun f s' hq => ?_) (fun _ _ hq => hq)
    obtain ⟨rfl, h2, h3, h4⟩ := hq
    exact ⟨.inl ⟨.bool true, .bool true, [], rfl, fun _ => rfl, .bool true, post_true l _, fun _ => ⟨List.Pairwise.nil, fun _ hm => (nomatch hm)⟩⟩, h2, h3, h4⟩

/-! ### rules over ANY heap (no ledger) from facts about the written part K: the library's own take a ledger (News) for what they write -/
section
variable {prog : Program} {w : World} {A : Around} {E : Value → Shared → Prop} {s : Shared} {K : Frag}

/-- a def of the module, or a method (qual 'C.m'), entered: the frame is the next address; cells behind it -/
theorem call_fn {R : Result → Shared → Prop} {name qual : Str} {params : Arguments} {body : List Stmt} {scope : Scope} {dV kV doc pm cdv ct oc : Value} {an od : Option Addr} {osl : Array (Option Value)} {f : Addr} {args : Args} {binds : List (Str × Value)}
    (X : K.In s.heap) (hlim : s.heap.NoLimit) (ho : K.lookup f = some ⟨oc, od, .func (fnOf name qual params body scope dV kV doc pm an cdv ct), osl⟩) (hcd : codeIn K cdv qual = true) (hroom : A.depth < recursionLimit)
    (hbind : BindsTo s (fnOf name qual params body scope dV kV doc pm an cdv ct) args binds)
    (hkind : (binds.all fun y => scope.names.lookup y.1 == some .local || scope.names.lookup y.1 == some .cell) = true)
    (h : ∀ s₁, InCallC s s.heap.objs.size (bindL (envOfC qual scope s.heap.objs.size f cdv).kindOf binds fun _ => none) (cellsFrom (s.heap.objs.size + 1) scope.names [])
        (bindC (envOfC qual scope s.heap.objs.size f cdv).kindOf binds fun _ => none) s₁ →
      wpAny (model prog w) (A.deeper (envOfC qual scope s.heap.objs.size f cdv)) (execs body (envOfC qual scope s.heap.objs.size f cdv))
        (fun fl s' => R (.ok (.ret (match fl with | .ret v => v | _ => .none))) s')
        (fun e s' => wpAny (model prog w) (A.deeper (envOfC qual scope s.heap.objs.size f cdv)) (leaving (envOfC qual scope s.heap.objs.size f cdv) e) (fun _ s'' => R (.error e) s'') (fun e' s'' => R (.error e') s'') s') s₁)
    (hco : scope.isCoroutine = false) (hgen : scope.isGenerator = false) (hk : scope.kind = .function) : codeAny (model prog w) A (.call (.ref f) args) R s := by
  refine codeAny_call_function hroom (X _ _ ho) rfl hco hgen rfl (codeRec_of X hcd) (hbind _ _ _ _ ?_)
  refine wpAny_newFunctionEnv_cells hk (kindsX hkind _) fun env he s₁ x => ?_
  subst he
  exact ⟨hlim.keeps x.toInCall.keep, codeAny_func (h s₁ x)⟩

/-- C(..): dict at size, instance at size + 1, then __init__ -/
theorem make_obj {R : Result → Shared → Prop} {C fI : Addr} {rest : List Value} {kw : List (Str × Value)}
    (X : K.In s.heap) (hm : makesIn K C = true) (hi : findIn K (.ref C) "__init__" = some (some (.ref fI))) (hf : isFn K (.ref fI) = true)
    (h : codeAny (model prog w) (A.under (.builtin "type.__call__" ⟨.ref C :: rest, kw⟩)) (.call (.ref fI) ⟨.ref (s.heap.objs.size + 1) :: rest, kw⟩) (InitBack (s.heap.objs.size + 1) R)
      { s with heap := (s.heap.push emptyDict).push (instObj C s.heap.objs.size) }) : codeAny (model prog w) A (.call (.ref C) ⟨rest, kw⟩) R s := by
  obtain ⟨hh, g, d, t, os⟩ := s
  exact make_core (makes_of X hm) (looks_findIn X hi) (fun self => bind_fn X self (beq_iff_eq.mp hf)) (.inl rfl) h

/-- x.name where the instance's dict holds the name and the class does not -/
theorem get_field {x C : Addr} {ox : Obj} {es : List DictEntry} {n : Nat} {name : Str} {expr : Bool} {v : Value} {Q : Value → Shared → Prop}
    (X : K.In s.heap) (I : PySem.W.InstAt s.heap x ox C (some (dictOf es n))) (hg : plainGet K C name = true) (hh : hasDictIn K C = true) (ha : findIn K (.ref C) name = some none)
    (hl : getL name es = some (some v)) (hv : handedIn v = true) (h : Q v { s with toks := s.toks + 1 }) : wpAny (model prog w) A (getAttr (.ref x) name expr) Q E s :=
  get_value X I (plainGet_of hg).1 (findObj_own hh ha rfl hl) hv h

/-- x.m(..): the method found in the class -/
theorem get_method {x C f : Addr} {ox : Obj} {es : List DictEntry} {n : Nat} {name : Str} {pl : Sem Bool} {Q : Value × List Value → Shared → Prop}
    (X : K.In s.heap) (I : PySem.W.InstAt s.heap x ox C (some (dictOf es n))) (hg : plainGet K C name = true) (hf : findIn K (.ref C) name = some (some (.ref f))) (ht : isFn K (.ref f) = true)
    (hl : getL name es = some none) (h : Q (.ref f, [.ref x]) s) : wpAny (model prog w) A (getMethod (.ref x) name pl) Q E s :=
  method_fn X I (plainGet_of hg).1 (plainGet_of hg).2 hf (beq_iff_eq.mp ht) (by show (lookIn name (dictOf es n)).map _ = _; rw [lookIn_dict, hl]; rfl) h

/-! the whole heap as the ledger: makes every rule that writes through a ledger a rule over any heap -/
def noObjs (h : Heap) : Heap := { h with objs := #[] }
theorem noObjs_get (h : Heap) (b : Addr) : (noObjs h).get? b = none := by
  cases e : (noObjs h).get? b with
  | none => rfl
  | some o => exact absurd (Heap.lt_size e) (Nat.not_lt_zero _)
def ledger (h : Heap) (L d : Addr) : List (Addr × Obj) := (List.range h.objs.size).filterMap fun a => if a = L ∨ a = d then none else (h.get? a).map fun o => (a, o)
theorem mem_ledger {h : Heap} {L d a : Addr} {o : Obj} : (a, o) ∈ ledger h L d ↔ a ≠ L ∧ a ≠ d ∧ h.get? a = some o := by
  unfold ledger
  rw [List.mem_filterMap]
  constructor
  · rintro ⟨b, _, e⟩
    split at e
    · cases e
    · rename_i hb
      obtain ⟨o', ho, e'⟩ := Option.map_eq_some_iff.mp e
      cases e'
      exact ⟨fun q => hb (.inl q), fun q => hb (.inr q), ho⟩
  · rintro ⟨n1, n2, ho⟩
    refine ⟨a, List.mem_range.mpr (Heap.lt_size ho), ?_⟩
    rw [if_neg (show ¬ (a = L ∨ a = d) from fun q => q.elim n1 n2), ho] <;> rfl
theorem news_ledger {h : Heap} {L d : Addr} {od : Obj} (hne : d ≠ L) (ho : h.get? d = some od) : News (noObjs h) L h ([] ++ (d, od) :: ledger h L d) := by
  rintro ⟨a, o⟩ hp
  rcases List.mem_cons.mp hp with e | hp
  · cases e
    exact ⟨ho, hne, noObjs_get _ _⟩
  · obtain ⟨n1, n2, e⟩ := mem_ledger.mp hp
    exact ⟨e, n1, noObjs_get _ _⟩
theorem fr_all {h : Heap} {L : Addr} {m : Str → Option Value} (n : h.Ns L m) : Fr (noObjs h) L h m :=
  ⟨n, fun b o e => (by rw [noObjs_get] at e; cases e), Nat.zero_le _⟩
/-- Upd of the head entry (for append_K, setItem_K ..) -/
theorem upd_ledger {h : Heap} {L d : Addr} {o o' : Obj} : Upd d o o' ((d, o) :: ledger h L d) ((d, o') :: ledger h L d) :=
  .head fun ⟨_, _⟩ hp => (mem_ledger.mp hp).2.1

/-- x.name = v over any heap: L is any namespace of the heap (the frame's, say): its map stays, its object is not told; all else but the dict stays -/
theorem set_field {x C dx L : Addr} {ox : Obj} {m : Str → Option Value} {es es' : List DictEntry} {n n' : Nat} {name : Str} {v : Value} {Q : Unit → Shared → Prop}
    (X : K.In s.heap) (I : PySem.W.InstAt s.heap x ox C (some (dictOf es n))) (hd : ox.dict = some dx) (hL : s.heap.Ns L m) (hne : dx ≠ L)
    (hs : findIn K (.ref C) "__setattr__" = some (some (.builtin "object.__setattr__"))) (hp : plainOver K C = true) (ht : takerIn K C name = some none) (hh : hasDictIn K C = true) (hl : (getL name es).isSome = true)
    (e : (putL name (PyData.keyHash w.params name) (.str name (s.toks + 1)) v es, putN name es n) = (es', n')) (hz : es'.length ≤ 1000)
    (h : ∀ h' : Heap, h'.Ns L m → h'.get? dx = some (dictOf es' n') → (∀ b o, b ≠ dx → b ≠ L → s.heap.get? b = some o → h'.get? b = some o) → Q () { s with heap := h', toks := s.toks + 2 }) :
    wpAny (model prog w) A (setAttr (.ref x) name v) Q E s := by
  obtain ⟨e1, e2⟩ := Prod.mk.inj e
  have hdx : s.heap.get? dx = some (dictOf es n) := by
    have := I.dict
    rw [hd] at this
    exact this
  refine set_plain X I hs (osa_dict (s := { s with toks := s.toks + 1 }) (h₀ := noObjs s.heap) (L := L) (m := m) (od := dictOf es n) (od' := dictOf es' n') (es := es') (n := n') (pre := []) (post := ledger s.heap L dx)
    (fr_all hL) (news_ledger hne hdx) X I hd hp ht hh hl (fun _ q => nomatch q) (fun ⟨_, _⟩ q => (mem_ledger.mp q).2.1) (by rw [putName_dict, e1, e2]) rfl hz fun h' F' N' => ?_)
  exact h h' F'.ns (N'.get (List.Mem.head _)) fun b o n1 n2 ho => N'.get (List.Mem.tail _ (mem_ledger.mpr ⟨n2, n1, ho⟩))
end
end Att

namespace L2
open PySem PySem.Spec PyProof.Rows

theorem vals_ints : ∀ {vs : List Value} {ns : List Int}, IntsAre vs ns → Vals (ns.map V.int) vs
  | _, _, .nil => .nil
  | _, _, .cons n t h => .cons ⟨t, rfl⟩ (vals_ints h)

/-- nothing is tracked but the script, known to the object (or it is an object of the module) -/
def Only (H : Hp) : Prop := ∀ b, H b = none ∨ ∃ o xs, H b = some (.frz o (.lst xs))

/-- THE HEAD: the law's promise, at the heap behind the top. F, the promise of the law's def, may use that base is part of the heap (so K.In base, base.Ns mainGlobals mg stand in Mod) -/
theorem law_call {P : Program} {w : World} {K : PySem.W.Frag} {mg mb : Str → Option Value} {CX : CXT} {k : Nat} {fa a : Addr} {fd : FuncData} {x : Str} {sp : Sp} {s₁ : Shared} {vs : List Value} {ns : List Int}
    (KX : K.In s₁.heap) (hns : s₁.heap.Ns mainGlobals mg) (hb : s₁.heap.Ns builtinsNs mb) (hbb : ∀ x : Str, x ≠ "__name__" → mb x = bootBuiltins x) (hlim : s₁.heap.NoLimit) (hg : s₁.gens = #[])
    (ha : s₁.heap.get? a = some { cls := .type "list", data := .seq vs.toArray }) (hi : IntsAre vs ns) (hl : ns.length ≤ sizeLine) (hr : Room k callerA)
    (F : ∀ base : Heap, K.In base → base.Ns mainGlobals mg → FnOk P w K mg base CX k fa fd [x] sp) (hbind : ∀ (s : Shared) (u : Value), BindsTo s fd ⟨[u], []⟩ [(x, u)])
    (hsp : ∀ H : Hp, Only H → SqL K H a (ns.map V.int) → sp [.ref a] H (fun v _ => v = .bl true) fun _ _ _ => False)
    (hCX : ∀ H e s', CX [] H s₁ (fun _ _ _ => False) e s' → False) :
    codeAny (model P w) callerA (.call (.ref fa) ⟨[.ref a], []⟩) (fun r s' => r = .ok (.ret (.bool true)) ∧ OldK s₁.heap s'.heap ∧ s'.os = s₁.os ∧ AllBare s'.gens) s₁ := by
  have rv := vals_ints hi
  have lenV := hi.length
  -- from an abstract heap in which nothing but the script may be tracked
  have core : ∀ H : Hp, Only H → SqL K H a (ns.map V.int) → HOk P w H s₁.heap → (∀ b, H b ≠ none → b = a) → (H a ≠ none → K.lookup a = none) →
      codeAny (model P w) callerA (.call (.ref fa) ⟨[.ref a], []⟩) (fun r s' => r = .ok (.ret (.bool true)) ∧ OldK s₁.heap s'.heap ∧ s'.os = s₁.os ∧ AllBare s'.gens) s₁ := by
    intro H hO hS hok hA hK
    have base_of : ∀ {b : Addr} {o : Obj}, s₁.heap.get? b = some o → H b = none → (hidT s₁.heap H).get? b = some o := fun e n => hidT_get e n
    have noA : ∀ {b : Addr} {o : Obj} {es : Array DictEntry} {ep : Nat}, s₁.heap.get? b = some o → o.data = .dict es ep → H b = none := fun {b o es ep} e d => by
      cases q : H b with
      | none => rfl
      | some u =>
        have e' : b = a := hA b (by rw [q]; simp)
        subst e'
        rw [ha] at e; cases e
        have d' : Data.seq vs.toArray _ = Data.dict es ep := d
        cases d'
    have nsK : ∀ {b : Addr} {m : Str → Option Value}, s₁.heap.Ns b m → (hidT s₁.heap H).Ns b m := fun {b m} ⟨o, es, ep, e, d, r⟩ => ⟨o, es, ep, base_of e (noA e d), d, r⟩
    have hKb : K.In (hidT s₁.heap H) := fun b o e => base_of (KX b o e) (by
      cases q : H b with
      | none => rfl
      | some u =>
        have e' : b = a := hA b (by rw [q]; simp)
        subst e'
        rw [hK (by rw [q]; simp)] at e; cases e)
    have hM : Mod K mg (hidT s₁.heap H) := ⟨hKb, nsK hns, ⟨mb, nsK hb, hbb⟩, let ⟨mc, h1, h2⟩ := hlim; ⟨mc, nsK h1, h2⟩⟩
    have e0 : Env0 P w K mg (hidT s₁.heap H) callerA [] s₁ H := ⟨rfl, hM, fun b o e => of_hidT e, Nat.le_of_eq (hidT_size _ _), trivial, fun b hb => absurd (show b ∈ ([] : List Addr) from hb) (by simp), hok, .of_eq hg⟩
    refine codeAny_mono ((F _ hKb (nsK hns)).run callerA [] s₁ H ⟨[.ref a], []⟩ [.ref a] [.ref a] _ _ hr e0 (hbind s₁ (.ref a)) (.cons rfl .nil) (hsp H hO hS)) fun r s' h => ?_
    cases r with
    | error e => exact (hCX H e s' h).elim
    | ok fl =>
      cases fl with
      | next => exact False.elim h
      | brk => exact False.elim h
      | cont => exact False.elim h
      | ret u =>
        obtain ⟨v, H', os, bare, un, hok', r', q⟩ := h
        have q' : v = .bl true := q
        subst q'
        obtain rfl : u = Value.bool true := r'
        refine ⟨rfl, OldK.of_keep fun b o e => ?_, os, bare⟩
        cases q : H b with
        | none => exact un.keep b o e q (by intro z; exact absurd (show b ∈ ([] : List Addr) from z) (by simp)) (by simp)
        | some u =>
          rcases hO b with z | ⟨ob, xs, z⟩
          · rw [q] at z; cases z
          · have z2 := un.frzs b ob _ z
            obtain ⟨e1, _⟩ := hok b _ z
            obtain ⟨e2, _⟩ := hok' b _ z2
            rw [e] at e1; cases e1
            exact e2
  cases hk : K.lookup a with
  | some o =>
    -- the script is one of the module's own objects
    have e := KX a o hk
    rw [ha] at e
    cases e
    refine core (fun _ => none) (fun _ => .inl rfl) (.inr ⟨_, vs.toArray, _, hk, rfl, rfl, rfl, by rw [List.size_toArray, lenV]; exact hl, by simpa using rv⟩) (fun b u z => by have z' : (none : Option HO) = some u := z; cases z') (fun b z => absurd rfl z) fun z => absurd rfl z
  | none =>
    refine core (fun b => if b = a then some (.frz { cls := .type "list", data := .seq vs.toArray } (.lst (ns.map V.int))) else none) (fun b => ?_) (.inl (.inr ⟨{ cls := .type "list", data := .seq vs.toArray }, if_pos rfl⟩)) (fun b u z => ?_) (fun b z => ?_) fun _ => hk
    · by_cases hb : b = a
      · exact .inr ⟨_, _, if_pos hb⟩
      · exact .inl (if_neg hb)
    · by_cases hb : b = a
      · have z' := (if_pos hb).symm.trans z
        cases z'
        subst hb
        exact ⟨ha, by rw [List.length_map]; exact hl, vs, _, rv, ha⟩
      · have z' := (if_neg hb).symm.trans z
        cases z'
    · by_cases hb : b = a
      · exact hb
      · exact absurd (if_neg hb) z
end L2

namespace L2
open PySem PySem.Spec PyProof.Rows

abbrev KOf {K : PySem.W.Frag} {h : Heap} (_ : K.In h) : PySem.W.Frag := K

/-- the goal that k_head leaves (case hc), from the law's promise. F gives the function object fd (K's own) once, then the promise over every base -/
theorem walk_of {l : PySem.W.OpenLaw} {n k : Nat} {q : Program} {loose : List Str} {XP : (Str → Option Value) → Heap → Prop} {YP : World → Heap → Prop} {d : DefRec} {K : Params → PySem.W.Frag} {CX : World → CXT} {sp : World → Sp} {x : Str}
    (hn : l.most = some n) (hn2 : n ≤ sizeLine) (hdf : d.params.defaults = []) (hr : Room k callerA)
    (hY : ∀ (w : World) (h : Heap), YP w h → (K w.params).In h)
    (F : ∀ (w : World) (mg : Str → Option Value) (fa : Addr) (h : Heap), (K w.params).In h → h.Ns mainGlobals mg → mg d.name = some (.ref fa) →
      ∃ fd : FuncData, (∀ (s : Shared) (u : Value), BindsTo s fd ⟨[u], []⟩ [(x, u)]) ∧
        ∀ base : Heap, (K w.params).In base → base.Ns mainGlobals mg → FnOk l.prog w (K w.params) mg base (CX w) k fa fd [x] (sp w))
    (hsp : ∀ (w : World) (H : Hp) (a : Addr) (ns : List Int), ns.length ≤ n → Only H → SqL (K w.params) H a (ns.map V.int) → sp w [.ref a] H (fun v _ => v = .bl true) fun _ _ _ => False)
    (hCX : ∀ (w : World) (H : Hp) (s : Shared) (e : Value) (s' : Shared), CX w [] H s (fun _ _ _ => False) e s' → False) :
    PySem.W.WalkO q loose XP YP l.row.toRowW d [] (fun f vs => PySem.call f vs) := by
  refine Att.attach_call hn hdf fun w s₀ s₁ mg mb fa o pm cd doc a vs ns G Y ho hd hcd hmg hobj hints hlen hg => ?_
  have KX := hY w _ Y
  obtain ⟨fd, hb, hF⟩ := F w mg fa _ KX G.T.g hmg
  exact law_call KX G.T.g G.T.b G.T.builtins G.T.nolimit hg hobj hints (Nat.le_trans hlen hn2) hr hF hb (fun H hO hS => hsp w H a ns hlen hO hS) fun H e s' => hCX w H s₁ e s'
/-- the same where the promise hangs on the written part alone: (sp := My.sp_law), no hole under a binder -/
theorem walk_ofK {l : PySem.W.OpenLaw} {n k : Nat} {q : Program} {loose : List Str} {XP : (Str → Option Value) → Heap → Prop} {YP : World → Heap → Prop} {d : DefRec} {K : Params → PySem.W.Frag} {CX : CXT} {sp : PySem.W.Frag → Sp} {x : Str}
    (hn : l.most = some n) (hn2 : n ≤ sizeLine) (hdf : d.params.defaults = []) (hr : Room k callerA)
    (hY : ∀ (w : World) (h : Heap), YP w h → (K w.params).In h)
    (F : ∀ (w : World) (mg : Str → Option Value) (fa : Addr) (h : Heap), (K w.params).In h → h.Ns mainGlobals mg → mg d.name = some (.ref fa) →
      ∃ fd : FuncData, (∀ (s : Shared) (u : Value), BindsTo s fd ⟨[u], []⟩ [(x, u)]) ∧
        ∀ base : Heap, (K w.params).In base → base.Ns mainGlobals mg → FnOk l.prog w (K w.params) mg base CX k fa fd [x] (sp (K w.params)))
    (hsp : ∀ (K : PySem.W.Frag) (H : Hp) (a : Addr) (ns : List Int), ns.length ≤ n → Only H → SqL K H a (ns.map V.int) → sp K [.ref a] H (fun v _ => v = .bl true) fun _ _ _ => False)
    (hCX : ∀ (H : Hp) (s : Shared) (e : Value) (s' : Shared), CX [] H s (fun _ _ _ => False) e s' → False) :
    PySem.W.WalkO q loose XP YP l.row.toRowW d [] (fun f vs => PySem.call f vs) :=
  walk_of (K := K) (CX := fun _ => CX) (sp := fun w => sp (K w.params)) hn hn2 hdf hr hY F (fun w H a ns h1 h2 h3 => hsp (K w.params) H a ns h1 h2 h3) fun _ H s e s' => hCX H s e s'
end L2

/- THE LAST THEOREM (shape; LID, My.* are yours):
   My.Adr: a structure of the addresses that your layer names (classes, functions); My.Txt K t: a structure (Prop) of the equations over K;
   My.txt_mk : {K} {implicit addresses ..} (e1 : nsIn K mainGlobals "law" = some (some (.ref f))) (e2 : K.lookup f = some ⟨oc, od, .func (fnOf "law" "law" params body scope dV kV doc pm an cdv ct), sl⟩) (e3 : codeIn K cdv "law" = true) .. : ∃ t, My.Txt K t

set_option maxRecDepth 100000 in
set_option maxHeartbeats 0 in
theorem PySem.Challenge.cw_LID_holds : PySem.Challenge.rw_LID.Holds := by
  w_on; o_law; k_head; (case hw => w_witness2)
  k_fill
  refine L2.walk_of (l := PySem.Challenge.rw_LID) (n := 63) (k := 40) (x := "script") (CX := fun w => ..) (sp := fun _ => My.sp_law) rfl (by decide) rfl ⟨rfl, by decide, by decide⟩ (fun w h Y => PySem.W.kIn_of Y) ?F ?S ?C
  case F =>
    intro w mg fa h KX G hmg
    have T : ∃ t, My.Txt (L2.KOf KX) t := by
      dsimp only [L2.KOf]                          -- K must stand as «<heap const> w.params» for k_is
      refine' My.txt_mk ?e1 ?e2 ?e3 ..
      (case e1 => PySem.W.k_is)                    -- in the order: a name -> its address -> its object -> its parts
      (case e2 => PySem.W.k_is)
      ..
    obtain ⟨t, T⟩ := T
    have e0 := hmg.symm.trans (PySem.W.mg_of KX G T.law)
    cases e0                                       -- fa is the law's own address
    exact ⟨_, fun s u => .of_eq rfl, fun base kb nb => My.law_fn T kb nb⟩     -- if «.of_eq rfl» comes too early: refine' ⟨_, ?b, fun base kb nb => My.law_fn T kb nb⟩; exact fun s u => .of_eq rfl
  case S => exact fun w H a ns hl hO hS => ..
  case C => exact ..
(the tactic k_is has no namespace: write k_is) -/

/-! SHORT WORDS over the layer: a def of the text, its body, what a loop and a test want. -/
namespace L2
open PySem PySem.Spec PyProof.Rows

/-! ### the text by places -/
/-- the j-th statement of a class's body -/
def inClass (s : Stmt) (j : Nat) : Stmt := match s with
  | .ClassDef _ _ _ body _ _ _ _ _ _ _ => body.getD j (.Pass ⟨0, 0, 0, 0⟩)
  | _ => .Pass ⟨0, 0, 0, 0⟩
def defArgs (s : Stmt) : Arguments := match s with
  | .FunctionDef _ a _ _ _ _ _ _ _ _ => a
  | _ => { posonlyargs := [], args := [], vararg := none, kwonlyargs := [], kw_defaults := [], kwarg := none, defaults := [] }
def defBody (s : Stmt) : List Stmt := match s with
  | .FunctionDef _ _ b _ _ _ _ _ _ _ => b
  | _ => []
def defScope (s : Stmt) : Scope := match s with
  | .FunctionDef _ _ _ _ _ _ sc _ _ _ => sc
  | _ => { kind := .function, names := [], isGenerator := false, isCoroutine := false }

/-! ### no exception leaves a def -/
abbrev CX0 : CXT := fun _ _ _ _ _ _ => False
abbrev E0 : XK := fun _ _ _ => False
theorem pass0 {X : Cx} : Passes CX0 X E0 := fun _ _ _ _ _ _ _ h => h.elim

/-! ### a def (or method) of the text as it stands behind the top -/
structure Fun (K : PySem.W.Frag) (x qual : Str) (st : Stmt) (f : Addr) (fd : FuncData) : Prop where
  ex : ∃ (oc : Value) (od : Option Addr) (kV doc pm : Value) (an : Option Addr) (cdv ct : Value) (osl : Array (Option Value)),
    fd = PySem.W.fnOf x qual (defArgs st) (defBody st) (defScope st) .none kV doc pm an cdv ct ∧ K.lookup f = some ⟨oc, od, .func fd, osl⟩ ∧ PySem.W.codeIn K cdv qual = true
  kp : PySem.W.keepIn K (.ref f) = true
section
variable {P : Program} {w : World} {K : PySem.W.Frag} {mg : Str → Option Value} {base : Heap}
/-- THE RULE for a def: its body as a term of rules, and the reading of that term -/
theorem Fun.ok {x qual : Str} {st : Stmt} {f : Addr} {fd : FuncData} {N ps : List Str} {k : Nat} {sp : Sp} (F : Fun K x qual st f fd) (S : FnScope N ps (defScope st)) (len : ∀ vs H Q E, sp vs H Q E → vs.length = ps.length)
    (hbody : ∀ (cdv : Value) (A : Around) (outer : List Env) (s : Shared) (H : Hp) (vs : List V) (Q : VK) (E : XK), Room k (A.deeper (envOfC qual (defScope st) s.heap.objs.size f cdv)) → sp vs H Q E →
      ∃ t, PSs (cxOf CX0 P w K mg base N qual (defScope st) f cdv A outer s H E).nox (defBody st) t ∧ t { nx := fun _ H' => Q .non H', rt := Q } (start N vs) H) : FnOk P w K mg base CX0 (k + 1) f fd ps sp := by
  obtain ⟨oc, od, kV, doc, pm, an, cdv, ct, osl, rfl, lk, hcd⟩ := F.ex
  refine fn_of lk hcd S len fun A outer s H vs Q E hr hsp => ?_
  obtain ⟨t, h, q⟩ := hbody cdv A outer s H vs Q E hr hsp
  exact ⟨t, h.nox, q⟩
/-- how its arguments bind (no defaults): h is «fun _ _ _ _ _ _ us hl => match us, hl with | [_, _], _ => rfl», one _ a parameter -/
theorem Fun.binds {x qual : Str} {st : Stmt} {f : Addr} {fd : FuncData} {ps : List Str} (F : Fun K x qual st f fd)
    (h : ∀ (kV doc pm : Value) (an : Option Addr) (cdv ct : Value) (us : List Value), us.length = ps.length → bindArgs (PySem.W.fnOf x qual (defArgs st) (defBody st) (defScope st) .none kV doc pm an cdv ct) ⟨us, []⟩ = pure (ps.zip us)) : Binds K fd ps [] := by
  obtain ⟨oc, od, kV, doc, pm, an, cdv, ct, osl, rfl, lk, hcd⟩ := F.ex
  exact .all (h kV doc pm an cdv ct)
theorem fun_mk {x qual : Str} {st : Stmt} {f : Addr} {oc : Value} {od an : Option Addr} {osl : Array (Option Value)} {kV doc pm cdv ct : Value} (l : K.lookup f = some ⟨oc, od, .func (PySem.W.fnOf x qual (defArgs st) (defBody st) (defScope st) .none kV doc pm an cdv ct), osl⟩)
    (c : PySem.W.codeIn K cdv qual = true) (k : PySem.W.keepIn K (.ref f) = true) : Fun K x qual st f (PySem.W.fnOf x qual (defArgs st) (defBody st) (defScope st) .none kV doc pm an cdv ct) := ⟨⟨oc, od, kV, doc, pm, an, cdv, ct, osl, rfl, l, c⟩, k⟩
end
theorem hu_of {A : Around} {k : Nat} (hr : Room k A) : A.units + 1 < cLine := Nat.lt_of_le_of_lt (Nat.add_le_add_left (by decide : 1 ≤ 64) _) hr.units
theorem small1000 {n : Nat} (h : n ≤ 1000) : n < sizeLine := Nat.lt_of_le_of_lt h (by decide)

/-! ### expressions in short: the name that stands in the i-th slot -/
section
variable {X : Cx}
theorem pv (i : Nat) {x : Str} {pos : Pos} (hN : X.N[i]? = some x := by rfl) (hv : Vis X.env.scope x := by first | exact Or.inl rfl | exact Or.inr (Or.inl rfl) | exact Or.inr (Or.inr rfl)) (hd : (x == ("__debug__" : Str)) = false := by decide)
    (hcd : (x == ("__classdict__" : Str)) = false := by decide) : PE X (.Name x pos) (tVar i) := pe_var hN hv hd hcd
/-- len of a dict -/
theorem call_lenD : CallR X (.builtin "len") (fun xs H Q => ∃ a kvs, xs = [V.ref a] ∧ H a = some (.dK kvs) ∧ Q (.int kvs.length) H) := by
  intro pins s σ H xs us Q I r h
  obtain ⟨a, kvs, rfl, ha, q⟩ := h
  obtain ⟨u, rfl, ru⟩ := vals1 r
  cases ru
  exact d_len I (.inl ha) fun t s' I' => ⟨.int kvs.length, H, I', ⟨t, rfl⟩, q⟩
end

/-! ### tests -/
theorem iteF {A B : Prop} (h : B) : if false = true then A else B := by
  rw [if_neg Bool.false_ne_true]
  exact h
theorem iteT {A B : Prop} (h : A) : if true = true then A else B := by
  rw [if_pos rfl]
  exact h
theorem ite2 {c A B : Prop} [Decidable c] (h1 : c → A) (h2 : ¬ c → B) : if c then A else B := by
  by_cases h : c
  · rw [if_pos h]
    exact h1 h
  · rw [if_neg h]
    exact h2 h
theorem iteNS {c A B : Prop} [Decidable c] (hc : c) (h : B) : if (!decide c) = true then A else B := by
  rw [decide_eq_true hc]
  exact iteF h

/-! ### heaps -/
/-- all that was tracked is as it was -/
def Same (H H' : Hp) : Prop := ∀ b o, H b = some o → H' b = some o
theorem Same.refl (H : Hp) : Same H H := fun _ _ h => h
theorem Same.trans {H H1 H2 : Hp} (a : Same H H1) (b : Same H1 H2) : Same H H2 := fun c o h => b c o (a c o h)
theorem Same.free {H H' : Hp} (e : Same H H') {l : Addr} (h : H' l = Option.none) : H l = Option.none := by
  cases q : H l with
  | none => rfl
  | some o =>
    rw [e l o q] at h
    cases h
theorem Same.seq {K : PySem.W.Frag} {H H' : Hp} {a : Addr} {xs : List V} (e : Same H H') (h : SqL K H a xs) : SqL K H' a xs := by
  rcases h with (h | ⟨o, h⟩) | h
  · exact .inl (.inl (e _ _ h))
  · exact .inl (.inr ⟨o, e _ _ h⟩)
  · exact .inr h

/-! ### a dict's pairs: keys that differ -/
section
variable {κ : Type} [DecidableEq κ]
theorem valV_not {kvs : List (κ × V)} {k : κ} (h : valV kvs k = none) : ¬ k ∈ kvs.map (·.1) := by
  intro m
  obtain ⟨p, hp, e⟩ := List.mem_map.mp m
  have q : (kvs.any fun kv => decide (kv.1 = k)) = true := List.any_eq_true.mpr ⟨p, hp, decide_eq_true e⟩
  rw [valV_any, h] at q
  exact absurd q (by simp)
theorem valV_in {kvs : List (κ × V)} {k : κ} {v : V} (h : valV kvs k = some v) : k ∈ kvs.map (·.1) := by
  have q : (kvs.any fun kv => decide (kv.1 = k)) = true := by
    rw [valV_any, h]
    all_goals rfl
  obtain ⟨p, hp, e⟩ := List.any_eq_true.mp q
  exact List.mem_map.mpr ⟨p, hp, of_decide_eq_true e⟩
theorem nd_snoc : ∀ {l : List κ} {k : κ}, l.Nodup → ¬ k ∈ l → (l ++ [k]).Nodup
  | [], k, _, _ => by simp
  | a :: r, k, h, hk => by
    obtain ⟨h1, h2⟩ := List.nodup_cons.mp h
    show (a :: (r ++ [k])).Nodup
    refine List.nodup_cons.mpr ⟨fun m => ?_, nd_snoc h2 fun m => hk (List.mem_cons.mpr (Or.inr m))⟩
    rcases List.mem_append.mp m with q | q
    · exact h1 q
    · exact hk (List.mem_cons.mpr (Or.inl (List.mem_singleton.mp q).symm))
theorem nd_putK {kvs : List (κ × V)} {k : κ} (v : V) (hn : (kvs.map (·.1)).Nodup) (h : valV kvs k = none) : ((putK kvs k v).map (·.1)).Nodup := by
  rw [putK_new v h, List.map_append]
  exact nd_snoc hn (valV_not h)
theorem dropK_pos {p : κ × V} {r : List (κ × V)} {k : κ} (e : p.1 = k) : dropK (p :: r) k = dropK r k := by
  unfold dropK
  rw [List.filter_cons, if_neg (by simp [e])]
theorem dropK_neg {p : κ × V} {r : List (κ × V)} {k : κ} (e : ¬ p.1 = k) : dropK (p :: r) k = p :: dropK r k := by
  unfold dropK
  rw [List.filter_cons, if_pos (by simp [e])]
theorem dropK_no : ∀ {kvs : List (κ × V)} {k : κ}, ¬ k ∈ kvs.map (·.1) → dropK kvs k = kvs
  | [], _, _ => rfl
  | p :: r, k, h => by
    have h' : ¬ k ∈ r.map (·.1) := fun m => by
      obtain ⟨q, hq, e⟩ := List.mem_map.mp m
      exact h (List.mem_map.mpr ⟨q, List.mem_cons.mpr (Or.inr hq), e⟩)
    rw [dropK_neg fun e => h (List.mem_map.mpr ⟨p, List.mem_cons.mpr (Or.inl rfl), e⟩), dropK_no h']
theorem dropK_mem {kvs : List (κ × V)} {k : κ} {p : κ × V} (h : p ∈ dropK kvs k) : p ∈ kvs := (List.mem_filter.mp h).1
theorem nd_dropK : ∀ {kvs : List (κ × V)} {k : κ}, (kvs.map (·.1)).Nodup → ((dropK kvs k).map (·.1)).Nodup
  | [], _, _ => List.nodup_nil
  | p :: r, k, h => by
    have h : (p.1 :: r.map (·.1)).Nodup := h
    obtain ⟨h1, h2⟩ := List.nodup_cons.mp h
    by_cases e : p.1 = k
    · rw [dropK_pos e]
      exact nd_dropK h2
    · rw [dropK_neg e]
      show (p.1 :: (dropK r k).map (·.1)).Nodup
      refine List.nodup_cons.mpr ⟨fun m => h1 ?_, nd_dropK h2⟩
      obtain ⟨q, hq, eq⟩ := List.mem_map.mp m
      exact List.mem_map.mpr ⟨q, dropK_mem hq, eq⟩
theorem dropK_len : ∀ {kvs : List (κ × V)} {k : κ}, (kvs.map (·.1)).Nodup → k ∈ kvs.map (·.1) → (dropK kvs k).length + 1 = kvs.length
  | [], _, _, m => by simp at m
  | p :: r, k, h, m => by
    have h : (p.1 :: r.map (·.1)).Nodup := h
    have m : k = p.1 ∨ k ∈ r.map (·.1) := List.mem_cons.mp m
    obtain ⟨h1, h2⟩ := List.nodup_cons.mp h
    by_cases e : p.1 = k
    · subst e
      rw [dropK_pos rfl, dropK_no h1]
      all_goals rfl
    · have m' : k ∈ r.map (·.1) := m.resolve_left fun z => e z.symm
      have q := dropK_len h2 m'
      rw [dropK_neg e, List.length_cons, List.length_cons]
      omega
end
end L2

set_option Elab.async false
set_option linter.all false
set_option maxRecDepth 100000
set_option maxHeartbeats 4000000
namespace PySem

def clOf (names : List (Str × NameKind)) (env : Env) : List (Str × Addr) :=
  names.foldl (fun cs p => if p.2 == NameKind.free then (p.1, (env.cells.lookup p.1).getD 0) :: cs else cs) []

theorem closure_loop {env : Env} : ∀ (l : List (Str × NameKind)) (acc : List (Str × Addr)), (∀ p ∈ l, p.2 = .free → ∃ c, env.cells.lookup p.1 = some c) →
    (forIn l acc (fun (x : Str × NameKind) (cs : List (Str × Addr)) => match x with
      | (name, kind) => if (kind == NameKind.free) = true then (do let a ← cellOf env name; pure (ForInStep.yield ((name, a) :: cs)) : Sem _) else pure (ForInStep.yield cs))) =
    (pure (l.foldl (fun cs p => if p.2 == NameKind.free then (p.1, (env.cells.lookup p.1).getD 0) :: cs else cs) acc) : Sem _)
  | [], acc, _ => by simp
  | (n, k) :: r, acc, h => by
    have ih := fun a => closure_loop r a fun p hp => h p (List.mem_cons_of_mem _ hp)
    rw [List.forIn_cons]
    by_cases hk : k = .free
    · subst hk
      obtain ⟨c, e⟩ := h (n, .free) List.mem_cons_self rfl
      have e' : cellOf env n = pure c := by unfold cellOf; rw [e]
      show (if (NameKind.free == NameKind.free) = true then (do let a ← cellOf env n; pure (ForInStep.yield ((n, a) :: acc)) : Sem _) else pure (ForInStep.yield acc)) >>= _ = _
      rw [if_pos (by rfl), e', pure_bind, pure_bind]
      rw [List.foldl_cons]
      have e2 : (if ((n, NameKind.free).2 == NameKind.free) = true then ((n, NameKind.free).1, (env.cells.lookup (n, NameKind.free).1).getD 0) :: acc else acc) = (n, c) :: acc := by
        rw [if_pos (by rfl), e]; rfl
      rw [e2]
      exact ih _
    · have hb : (k == NameKind.free) = false := by simpa using hk
      simp only [hb, Bool.false_eq_true, if_false, pure_bind, ih, List.foldl_cons]

theorem closureFor_all {scope : Scope} {env : Env} (h : ∀ p ∈ scope.names, p.2 = .free → ∃ c, env.cells.lookup p.1 = some c) : closureFor scope env = pure (clOf scope.names env) := by
  unfold closureFor clOf
  have := closure_loop (env := env) scope.names [] h
  simp only [bind_pure]
  exact this

theorem mem_clOf {env : Env} : ∀ {l : List (Str × NameKind)} {acc : List (Str × Addr)} {y : Str} {c : Addr},
    (y, c) ∈ l.foldl (fun cs p => if p.2 == NameKind.free then (p.1, (env.cells.lookup p.1).getD 0) :: cs else cs) acc ↔ (y, c) ∈ acc ∨ ((y, NameKind.free) ∈ l ∧ c = (env.cells.lookup y).getD 0)
  | [], acc, y, c => by simp
  | (n, k) :: r, acc, y, c => by
    rw [List.foldl_cons, mem_clOf (l := r)]
    by_cases hk : k = .free
    · subst hk
      simp only [beq_self_eq_true, if_true, List.mem_cons, Prod.mk.injEq]
      constructor
      · rintro ((⟨rfl, rfl⟩ | h) | ⟨h1, h2⟩)
        · exact .inr ⟨.inl ⟨rfl, trivial⟩, rfl⟩
        · exact .inl h
        · exact .inr ⟨.inr h1, h2⟩
      · rintro (h | ⟨⟨rfl, _⟩ | h1, h2⟩)
        · exact .inl (.inr h)
        · exact .inl (.inl ⟨rfl, h2⟩)
        · exact .inr ⟨h1, h2⟩
    · have hb : (k == NameKind.free) = false := by simpa using hk
      simp only [hb, Bool.false_eq_true, if_false, List.mem_cons, Prod.mk.injEq]
      constructor
      · rintro (h | ⟨h1, h2⟩)
        · exact .inl h
        · exact .inr ⟨.inr h1, h2⟩
      · rintro (h | ⟨⟨_, h⟩ | h1, h2⟩)
        · exact .inl h
        · exact absurd h.symm hk
        · exact .inr ⟨h1, h2⟩

theorem mem_of_lookupG {β : Type} : ∀ {l : List (Str × β)} {a : Str} {b : β}, l.lookup a = some b → (a, b) ∈ l
  | [], _, _, h => by simp at h
  | (k, v) :: l, a, b, h => by
    rw [List.lookup_cons] at h
    split at h
    · rename_i e
      cases h
      have : a = k := by simpa using e
      subst this
      exact List.mem_cons_self
    · exact List.mem_cons_of_mem _ (mem_of_lookupG h)
theorem lookup_of_mem {β : Type} : ∀ {l : List (Str × β)} {a : Str} {b : β}, (a, b) ∈ l → ∃ b', l.lookup a = some b'
  | [], _, _, h => by simp at h
  | (k, v) :: l, a, b, h => by
    rw [List.lookup_cons]
    split
    · exact ⟨v, rfl⟩
    · rename_i e
      rcases List.mem_cons.mp h with q | q
      · cases q
        simp at e
      · exact lookup_of_mem q

theorem relabel_lookup {env : Env} : ∀ {names : List (Str × NameKind)} {y : Str} {k : NameKind},
    (names.map fun (n, k) => if (k == NameKind.free && env.scope.kind == .function && env.kindOf n == some .cell) then (n, NameKind.cell) else (n, k)).lookup y = some k →
    names.lookup y = some k ∨ (names.lookup y = some .free ∧ k = .cell)
  | [], _, _, h => by simp at h
  | (n, k0) :: r, y, k, h => by
    rw [List.map_cons] at h
    by_cases hc : (k0 == NameKind.free && env.scope.kind == .function && env.kindOf n == some .cell) = true
    · simp only [hc, if_true] at h
      rw [List.lookup_cons] at h ⊢
      cases hy : y == n with
      | true =>
        rw [hy] at h
        cases h
        have : k0 = .free := by
          rw [Bool.and_eq_true, Bool.and_eq_true] at hc
          simpa using hc.1.1
        subst this
        exact .inr ⟨rfl, rfl⟩
      | false =>
        rw [hy] at h
        exact relabel_lookup h
    · rw [Bool.not_eq_true] at hc
      simp only [hc, Bool.false_eq_true, if_false] at h
      rw [List.lookup_cons] at h ⊢
      cases hy : y == n with
      | true =>
        rw [hy] at h
        exact .inl h
      | false =>
        rw [hy] at h
        exact relabel_lookup h
theorem relabel_free {env : Env} : ∀ {names : List (Str × NameKind)} {y : Str}, names.lookup y = some .free →
    (names.map fun (n, k) => if (k == NameKind.free && env.scope.kind == .function && env.kindOf n == some .cell) then (n, NameKind.cell) else (n, k)).lookup y = some .cell ∨
    (names.map fun (n, k) => if (k == NameKind.free && env.scope.kind == .function && env.kindOf n == some .cell) then (n, NameKind.cell) else (n, k)).lookup y = some .free
  | [], _, h => by simp at h
  | (n, k0) :: r, y, h => by
    rw [List.map_cons]
    rw [List.lookup_cons] at h
    cases hy : y == n with
    | true =>
      rw [hy] at h
      cases h
      by_cases hc : (NameKind.free == NameKind.free && env.scope.kind == .function && env.kindOf n == some .cell) = true
      · left; simp only [hc, if_true, List.lookup_cons, hy]
      · rw [Bool.not_eq_true] at hc
        right; simp only [hc, Bool.false_eq_true, if_false, List.lookup_cons, hy]
    | false =>
      rw [hy] at h
      have ih := relabel_free (env := env) h
      by_cases hc : (k0 == NameKind.free && env.scope.kind == .function && env.kindOf n == some .cell) = true
      · simp only [hc, if_true, List.lookup_cons, hy]; exact ih
      · rw [Bool.not_eq_true] at hc
        simp only [hc, Bool.false_eq_true, if_false, List.lookup_cons, hy]; exact ih

section
variable {prog : Program} {w : World} {A : Around} {R : Result → Shared → Prop} {s : Shared}
/-- what one turn of a comprehension over a list asks: the next one, let go, stored, tested, and its element appended -/
def CompAsks (prog : Program) (w : World) (A : Around) (elt target : Expr) (ifs : List Expr) (env : Env) (it acc : Value) (last : Shared → Prop) (on : Shared → Prop) : Shared → Prop :=
  let no : Value → Shared → Prop := fun _ _ => False
  wpAny (model prog w) A (pyNext it) (fun r s1 => match r with
    | none => last s1
    | some v => wpAny (model prog w) A (letOwnedTupleGo target it v) (fun _ => wpAny (model prog w) A (assign target env v) (fun _ => wpAny (model prog w) A
        (forIn ifs true fun c r => if r = true then do let ok ← isTrue c env (eval c env); pure (ForInStep.yield ok) else pure (ForInStep.yield r))
        (fun ok s4 => if ok = true then wpAny (model prog w) A (eval elt env) (fun x => wpAny (model prog w) A (call (.builtin "list.append") [acc, x]) (fun _ => on) no) no s4 else on s4) no) no) no s1) no
theorem comp_turn {elt target iter : Expr} {ifs : List Expr} {acc it : Value} {env : Env} {pos : Pos} {scope : Scope} {last on : Shared → Prop} {s : Shared} (h : CompAsks prog w A elt target ifs env it acc last on s) :
    wpAny (model prog w) A (compTurn (.ListComp elt [⟨target, iter, ifs, 0⟩] scope pos) 0 it acc env) (fun r t => r = .done .next ∧ last t ∨ r = .again (.compLoop (.ListComp elt [⟨target, iter, ifs, 0⟩] scope pos) 0 it acc env) ∧ on t) (fun _ _ => False) s := by
  have off : ∀ {R : Value → Shared → Prop} (e : Value) (t : Shared), False → R e t := fun _ _ f => f.elim
  rw [compTurn_list]
  refine wpAny_bind (wpAny_standAt (wpAny_bind (wpAny_mono h (fun r s1 k => ?_) off)))
  match r, k with
  | none, k => exact wpAny_pure (.inl ⟨rfl, k⟩)
  | some v, k =>
    refine wpAny_bind (wpAny_mono k (fun _ _ k => wpAny_bind (wpAny_mono k (fun _ _ k => wpAny_bind (wpAny_mono k (fun ok s4 k => ?_) off)) off)) off)
    match ok, k with
    | false, k => exact wpAny_pure (.inr ⟨rfl, k⟩)
    | true, k => exact wpAny_bind (wpAny_bind (wpAny_mono k (fun _ _ k => wpAny_bind (wpAny_mono k (fun _ _ k => wpAny_pure (wpAny_pure (.inr ⟨rfl, k⟩))) off)) off))
theorem codeAny_compLoop_any {env : Env} {it acc : Value} {scope : Scope} {pos : Pos} {ifs : List Expr} {elt target iter : Expr} (I : Nat → Shared → Prop) (turn : ∀ n s, I n s → CompAsks prog w A elt target ifs env it acc (R (.ok .next)) (fun t => ∃ m, m < n ∧ I m t) s) (n : Nat) (h : I n s) :
    codeAny (model prog w) A (.compLoop (.ListComp elt [⟨target, iter, ifs, 0⟩] scope pos) 0 it acc env) R s := by
  refine codeAny_loop rfl I (fun n s k => wpAny_noted ?_) n h
  refine wpAny_mono (comp_turn (turn n s k)) (fun r t k => ?_) fun _ _ f => f.elim
  rcases k with ⟨rfl, k⟩ | ⟨rfl, k⟩
  · exact k
  · exact ⟨rfl, k⟩

end
end PySem

namespace L2
open PySem PySem.Spec PyProof.Rows

/-- what a comprehension's block stands on: its iterator's records, the state and the abstract heap ahead of it, its own names' address, the pins -/
structure CompAt where
  fp : List Addr
  s : Shared
  H : Hp
  C : Addr
  pins : List (Addr × Obj)

def compCx (X : Cx) (scope : Scope) (N : List Str) (z : CompAt) : Cx :=
  { X with N := N, s₀ := z.s, H₀ := z.H, env := compEnvC scope (clOf scope.names X.env) z.C X.env, outer := X.stack, ex := z.fp, fn := fun _ => false, pn := X.pn ++ z.pins, xe := fun _ _ => False }

/-- the block's names' values: its own variable first, then what it takes from the def -/
def inSt (ix : List Nat) (σ : St) : St := none :: ix.map fun i => (σ[i]?).getD none

structure CompOk (X : Cx) (scope : Scope) (x : Str) (ys : List Str) (ix : List Nat) : Prop where
  kind : scope.kind = .function
  hx : scope.names.lookup x = some .local
  nocell : ∀ p ∈ scope.names, p.2 ≠ .cell
  names : ∀ p ∈ scope.names, p.2 = .local → scope.names.lookup p.1 = some .local
  fr : ∀ p ∈ scope.names, p.2 = .free → X.env.kindOf p.1 = some .cell ∨ X.env.kindOf p.1 = some .free
  len : ys.length = ix.length
  here : ∀ (j : Nat) (y : Str) (i : Nat), ys[j]? = some y → ix[j]? = some i → scope.names.lookup y = some .free ∧ X.N[i]? = some y
  nd : (x :: ys).Nodup

def compChk (osc : Scope) (N : List Str) (scope : Scope) (x : Str) (ys : List Str) (ix : List Nat) : Bool :=
  decide (scope.kind = .function) && decide (scope.names.lookup x = some .local) && scope.names.all (fun p => decide (p.2 ≠ .cell)) &&
  scope.names.all (fun p => decide (p.2 = .local → scope.names.lookup p.1 = some .local)) &&
  scope.names.all (fun p => decide (p.2 = .free → osc.names.lookup p.1 = some .cell ∨ osc.names.lookup p.1 = some .free)) &&
  decide (ys.length = ix.length) && (ys.zip ix).all (fun p => decide (scope.names.lookup p.1 = some .free ∧ N[p.2]? = some p.1)) && decide ((x :: ys).Nodup)

theorem compOk_of {X : Cx} {osc scope : Scope} {N : List Str} {x : Str} {ys : List Str} {ix : List Nat} (hsc : X.env.scope = osc) (hN : X.N = N) (h : compChk osc N scope x ys ix = true) : CompOk X scope x ys ix := by
  unfold compChk at h
  simp only [Bool.and_eq_true, List.all_eq_true, decide_eq_true_eq] at h
  obtain ⟨⟨⟨⟨⟨⟨⟨h1, h2⟩, h3⟩, h4⟩, h5⟩, h6⟩, h7⟩, h8⟩ := h
  refine ⟨h1, h2, h3, h4, fun p hp hf => ?_, h6, fun j y i e1 e2 => ?_, h8⟩
  · have := h5 p hp hf
    unfold Env.kindOf
    rw [hsc]
    exact this
  · rw [hN]
    refine h7 (y, i) ?_
    have : (ys.zip ix)[j]? = some (y, i) := by rw [List.getElem?_zip_eq_some]; exact ⟨e1, e2⟩
    exact List.mem_of_getElem? this

theorem comp_inv {X : Cx} {scope : Scope} {x : Str} {ys : List Str} {ix : List Nat} (O : CompOk X scope x ys ix) {pins : List (Addr × Obj)} {σ : St} {H : Hp} {s : Shared} {fp : List Addr} {h' : Heap} {t' : Nat}
    (I : Inv X pins σ H s) (hf : ∀ b ∈ fp, FpOk X pins H b) (hfl : ∀ b ∈ fp, b < s.heap.objs.size) (m : Str → Option Value)
    (hns : h'.Ns s.heap.objs.size m) (hk : ∀ b o, s.heap.get? b = some o → h'.get? b = some o) :
    Inv (compCx X scope (x :: ys) ⟨fp, s, H, s.heap.objs.size, pins⟩) [] (inSt ix σ) H { s with heap := h', toks := t' } := by
  have hC : H s.heap.objs.size = none := I.hok.fresh (Nat.le_refl _)
  have cl : ∀ y c, (clOf scope.names X.env).lookup y = some c → X.env.cells.lookup y = some c := fun y c e => by
    rcases (mem_clOf (acc := [])).mp (mem_of_lookupG e) with z | ⟨z, rfl⟩
    · simp at z
    · obtain ⟨c', e'⟩ := I.ok.has y (O.fr _ z rfl)
      rw [e']; rfl
  have clh : ∀ y, (y, NameKind.free) ∈ scope.names → ∃ c, (clOf scope.names X.env).lookup y = some c := fun y z => lookup_of_mem ((mem_clOf (acc := [])).mpr (.inr ⟨z, rfl⟩))
  refine ⟨⟨I.ok.mod, O.kind, I.ok.glob, I.ok.blt, Nat.le_refl _, fun y z c h1 h2 => I.ok.inj y z c (cl y c h1) (cl z c h2), fun y hy => ?_, fun y c h _ => ?_, I.ok.hd, I.ok.frames, .inl rfl,
    fun b hb => ⟨Nat.ne_of_lt (hfl b hb), fun y c e => (hf b hb).2.2.2.2.1 y c (cl y c e)⟩, I.bs, Nat.le_trans I.ok.bsz I.sz, fun b o e hb => ?_, fun b hb hb2 => ?_, I.stack, I.stkFree⟩,
    rfl, I.bare, Un.kept hk, ⟨m, hns, fun i y v e1 e2 vis => ?_⟩, fun y c e => ?_, hC, fun y c e => I.freeC y c (cl y c e), fun p hp => ?_, I.hok.kept hk, ?_⟩
  · rcases hy with h | h
    · rcases relabel_lookup h with q | ⟨q, _⟩
      · exact absurd rfl (O.nocell _ (mem_of_lookupG q))
      · exact clh y (mem_of_lookupG q)
    · rcases relabel_lookup h with q | ⟨q, e⟩
      · exact clh y (mem_of_lookupG q)
      · cases e
  · exact Bool.noConfusion (show false = true from h)
  · rcases (hf b hb).2.2.2.1 with z | z
    · exact I.ok.noex b o e z
    · exact absurd (Nat.lt_of_lt_of_le (Nat.lt_of_lt_of_le (Heap.lt_size e) I.ok.bsz) z) (Nat.lt_irrefl _)
  · exact (List.mem_cons.mp (I.stkSub b hb2)).elim (fun e => (hf b hb).2.1 e) fun z => (hf b hb).2.2.1 z
  · cases i with
    | zero =>
      have : (none : Option V) = some v := Option.some.inj (show some (none : Option V) = some (some v) from e2)
      cases this
    | succ j =>
      have ey : ys[j]? = some y := e1
      have e2' : (ix.map fun i => (σ[i]?).getD none)[j]? = some (some v) := e2
      rw [List.getElem?_map] at e2'
      cases hi : ix[j]? with
      | none => rw [hi] at e2'; cases e2'
      | some i =>
        rw [hi] at e2'
        have e3 : (σ[i]?).getD none = some v := Option.some.inj e2'
        obtain ⟨hfree, hN⟩ := O.here j y i ey hi
        have ev : σ[i]? = some (some v) := by
          cases h : σ[i]? with
          | none => rw [h] at e3; cases e3
          | some q => rw [h] at e3; exact congrArg some e3
        obtain ⟨m', _, hl⟩ := I.loc
        have hkx := O.fr (y, .free) (mem_of_lookupG hfree) rfl
        obtain ⟨u, r, l⟩ := hl i y v hN ev (hkx.elim (fun z => .inr (.inl z)) fun z => .inr (.inr z))
        refine ⟨u, r, .inr ⟨relabel_free hfree, ?_⟩⟩
        obtain ⟨c, ec⟩ := clh y (mem_of_lookupG hfree)
        rcases l with ⟨k, _⟩ | ⟨_, c', ec', z⟩
        · rcases hkx with q | q
          · rw [q] at k; cases k
          · rw [q] at k; cases k
        · have : c = c' := Option.some.inj ((cl y c ec).symm.trans ec')
          subst this
          exact ⟨c, ec, z.keeps hk⟩
  · obtain ⟨v, z⟩ := I.cell y c (cl y c e)
    exact ⟨v, z.keeps hk⟩
  · have hp' : p ∈ (X.pn ++ pins) ++ ([] : List (Addr × Obj)) := hp
    rw [List.append_nil] at hp'
    obtain ⟨e, n, ne, nf, d⟩ := I.pin p hp'
    exact ⟨hk _ _ e, n, Nat.ne_of_lt (Heap.lt_size e), fun z => (List.mem_cons.mp (I.stkSub _ z)).elim ne nf, d⟩
  · show (none :: ix.map _).length = (x :: ys).length
    rw [List.length_cons, List.length_map, List.length_cons, O.len]

/-- the tests of a comprehension -/
def PIfs (X : Cx) (ifs : List Expr) (t : TT) : Prop :=
  ∀ (pins : List (Addr × Obj)) (s : Shared) (σ : St) (H : Hp) (Q : Bool → Hp → Prop), Inv X pins σ H s → t σ H Q →
    wpAny (model X.prog X.w) X.A (forIn ifs true fun c r => if r = true then do let ok ← isTrue c X.env (eval c X.env); pure (ForInStep.yield ok) else pure (ForInStep.yield r)) (TP X pins σ Q) X.xe s
def tNoIf : TT := fun _ H Q => Q true H
theorem noIf {σ : St} {H : Hp} {A B : Hp → Prop} (h : A H) : tNoIf σ H (fun b H4 => if b = true then A H4 else B H4) := by
  show if true = true then A H else B H
  rw [if_pos rfl]; exact h
theorem pifs_nil {X : Cx} : PIfs X [] tNoIf := fun pins s σ H Q I h => wpAny_tests_nil ⟨H, I, h⟩
theorem pifs_one {X : Cx} {c : Expr} {t : TT} (h : PT X c t) : PIfs X [c] t := fun pins s σ H Q I q => wpAny_tests_one (h pins s σ H Q I q)

/-- W: the invariant by the turn, a measure and the list so far -/
def CompW (ix : List Nat) (J : It) (tt : CompAt → TT) (te : CompAt → TE) (σ : St) (Q : VK) (H1 : Hp) : Prop :=
  ∀ D, H1 D = none → ∃ W : Nat → Nat → List V → Hp → Prop, (∃ m, W 0 m [] (upd H1 D (.lst []))) ∧ ∀ i m ys H2, W i m ys H2 → H2 D = some (.lst ys) ∧
    ((J.stop i H2 ∧ Q (.ref D) H2) ∨ (J.go i H2 ∧ ys.length < sizeLine ∧ ∃ N : List V → Hp → Prop, (∀ ys' H', N ys' H' → ∃ m', m' < m ∧ W (i + 1) m' ys' H') ∧
      ∀ x H3, J.yld i H2 x H3 → ∀ z, tt z ((inSt ix σ).set 0 (some x)) H3 fun b H4 =>
        if b = true then te z ((inSt ix σ).set 0 (some x)) H4 fun y H5 => H5 D = some (.lst ys) ∧ N (ys ++ [y]) (upd H5 D (.lst (ys ++ [y]))) else N ys H4))

theorem comp_block {X : Cx} {scope : Scope} {x : Str} {ys : List Str} {ix : List Nat} (O : CompOk X scope x ys ix) (hc : X.calm = true) {elt iter : Expr} {ifs : List Expr} {px pos : Pos} {tt : CompAt → TT} {te : CompAt → TE}
    (hi : ∀ z, PIfs (compCx X scope (x :: ys) z) ifs (tt z)) (he : ∀ z, PE (compCx X scope (x :: ys) z) elt (te z))
    {pins : List (Addr × Obj)} {σ : St} {H : Hp} {s2 : Shared} {J : It} {fp : List Addr} {it : Addr} {tn : Nat → Heap → Prop} (I2 : Inv X pins σ H s2) (T : Turn X.prog X.w X.K (.Name x px) J fp it tn) (st : tn 0 s2.heap)
    (hf : ∀ b ∈ fp, FpOk X pins H b) {Q : VK} (hw : CompW ix J tt te σ Q H) {RR : Value → Addr → Result → Shared → Prop} {E : Value → Shared → Prop}
    (hRR : ∀ D C m' H' s', Inv X pins σ H' s' → s'.heap.Ns C m' → FpOk X pins H' C → Q (.ref D) H' → RR (.ref D) C (.ok .next) s') :
    wpAny (model X.prog X.w) X.A (newList []) (fun acc s₃ => wpAny (model X.prog X.w) X.A (newFunctionEnv scope X.env.globals (clOf scope.names X.env) [] X.env.qual none .none (some X.env)) (fun cenv s₄ =>
      codeAny (model X.prog X.w) X.A (.compStart (.ListComp elt [⟨.Name x px, iter, ifs, 0⟩] scope pos) 0 (.ref it) acc { cenv with scope := relabel scope X.env }) (RR acc cenv.locals) s₄) E s₃) E s2 := by
  refine wpAny_newObj_type (wpAny_newFunctionEnv O.nocell (by intro y hy; simp at hy) (fun h₁ hns₁ hsb₁ => ?_) O.kind)
  dsimp only at hns₁ hsb₁ ⊢
  have hDn : H s2.heap.objs.size = none := I2.hok.fresh (Nat.le_refl _)
  obtain ⟨W, ⟨m0, w0⟩, turn⟩ := hw s2.heap.objs.size hDn
  have flt : ∀ b ∈ fp, b < s2.heap.objs.size := fun b hb => by
    obtain ⟨o, e, _⟩ := T.obj 0 _ st b hb
    exact Heap.lt_size e
  obtain ⟨s3, hs3⟩ : ∃ s3 : Shared, s3 = { s2 with heap := s2.heap.push { cls := .type "list", data := .seq ([] : List Value).toArray } } := ⟨_, rfl⟩
  have hh3 : s3.heap = s2.heap.push { cls := .type "list", data := .seq ([] : List Value).toArray } := by rw [hs3]
  have I3 : Inv X pins σ (upd H s2.heap.objs.size (.lst [])) s3 := by
    rw [hs3]
    exact I2.laid (t' := s2.toks) (fun b u e => Heap.get?_push_of_some _ e) (Nat.le_refl _) (show ObjOk X.prog X.w _ _ _ (.lst []) from ⟨Nat.zero_le _, [], 0, .nil, Heap.get?_push_size _ rfl⟩)
  have hns₂ : h₁.Ns s3.heap.objs.size fun x => ([] : List (Str × Value)).reverse.lookup x := by rw [hh3]; exact hns₁
  have hsb₂ : Heap.SameBut s3.heap.objs.size (s3.heap.push { cls := .type (if (some X.env).isSome then "dict" else "frame"), data := .dict #[] }) h₁ := by rw [hh3]; exact hsb₁
  have hf3 : ∀ b ∈ fp, FpOk X pins (upd H s2.heap.objs.size (.lst [])) b := fun b hb => ⟨by rw [upd_ne (Nat.ne_of_lt (flt b hb))]; exact (hf b hb).1, (hf b hb).2⟩
  have hsz : s3.heap.objs.size = s2.heap.objs.size + 1 := by rw [hh3, Heap.size_push]
  have flt3 : ∀ b ∈ fp, b < s3.heap.objs.size := fun b hb => by rw [hsz]; exact Nat.lt_succ_of_lt (flt b hb)
  have hk : ∀ b o, s3.heap.get? b = some o → h₁.get? b = some o := fun b o e => hsb₂.extBut b o (Nat.ne_of_lt (Heap.lt_size e)) (Heap.get?_push_of_some _ e)
  have hk2 : ∀ b o, s2.heap.get? b = some o → h₁.get? b = some o := fun b o e => hk b o (by rw [hh3]; exact Heap.get?_push_of_some _ e)
  have st1 : tn 0 h₁ := T.keep _ _ _ st fun b hb o e => hk2 b o e
  let z : CompAt := ⟨fp, s3, upd H s2.heap.objs.size (.lst []), s3.heap.objs.size, pins⟩
  have cl : ∀ y c, (clOf scope.names X.env).lookup y = some c → X.env.cells.lookup y = some c := fun y c e => by
    rcases (mem_clOf (acc := [])).mp (mem_of_lookupG e) with q | ⟨q, rfl⟩
    · simp at q
    · obtain ⟨c', e'⟩ := I2.ok.has y (O.fr _ q rfl)
      rw [e']; rfl
  -- the iterator's records, as the block sees them
  have fpy : ∀ {H' : Hp}, (∀ b ∈ fp, H' b = none) → ∀ b ∈ fp, FpOk (compCx X scope (x :: ys) z) [] H' b := fun hn b hb => by
    refine ⟨hn b hb, Nat.ne_of_lt (flt3 b hb), fun hb2 => ?_, .inl hb, fun y c e => (hf b hb).2.2.2.2.1 y c (cl y c e), fun p hp => ?_⟩
    · exact (List.mem_cons.mp (I3.stkSub b hb2)).elim (fun e => (hf b hb).2.1 e) fun q => (hf b hb).2.2.1 q
    · have hp' : p ∈ (X.pn ++ pins) ++ ([] : List (Addr × Obj)) := hp
      rw [List.append_nil] at hp'
      exact (hf b hb).2.2.2.2.2 p hp'
  -- back to the def
  have back : ∀ {pl : List (Addr × Obj)} {σ' : St} {H' : Hp} {s' : Shared}, Inv (compCx X scope (x :: ys) z) pl σ' H' s' → Inv X pins σ H' s' ∧ FpOk X pins H' s3.heap.objs.size := fun {pl σ' H' s'} IY => by
    have I' : Inv X pins σ H' s' := I3.call' (ch := fp) IY.os IY.base IY.hok IY.bare fun b hb => ⟨(hf b hb).2.2.2.1, (hf b hb).2.1, (hf b hb).2.2.2.2.1, (hf b hb).2.2.2.2.2⟩
    exact ⟨I', I3.fpOk (Nat.le_refl _) IY.free⟩
  have loop : ∀ t' : Nat, codeAny (model X.prog X.w) X.A (.compLoop (.ListComp elt [⟨.Name x px, iter, ifs, 0⟩] scope pos) 0 (.ref it) (.ref s2.heap.objs.size) (compCx X scope (x :: ys) z).env) (RR (.ref s2.heap.objs.size) s3.heap.objs.size) { s3 with heap := h₁, toks := t' } := by
    intro t'
    have IY := comp_inv (t' := t') O I3 hf3 flt3 _ hns₂ hk
    refine codeAny_compLoop_any (fun n s' => ∃ i vs H', Inv (compCx X scope (x :: ys) z) [] (inSt ix σ) H' s' ∧ tn i s'.heap ∧ (∀ b ∈ fp, H' b = none) ∧ W i n vs H') ?_ m0 ⟨0, [], _, IY, st1, fun b hb => (hf3 b hb).1, w0⟩
    rintro n s5 ⟨i, vs, H5, I5, st5, fr5, w5⟩
    obtain ⟨hD, stop | go⟩ := turn i n vs H5 w5
    · refine thn (T.done (compCx X scope (x :: ys) z) rfl rfl rfl hc i [] s5 _ H5 _ I5 (fpy fr5) st5 stop.1) fun r s6 ⟨hr, I6⟩ => ?_
      subst hr
      obtain ⟨m6, n6, _⟩ := I6.loc
      exact hRR _ _ m6 H5 s6 (back I6).1 n6 (back I6).2 stop.2
    · obtain ⟨hgo, hl, N, hN, step⟩ := go
      refine thn (T.item (compCx X scope (x :: ys) z) rfl rfl rfl hc i [] s5 _ H5 _ I5 (fpy fr5) st5 hgo) fun r s6 ⟨u, hr, h6⟩ => ?_
      subst hr
      refine thn h6 fun _ s7 ⟨xv, H7, I7, r7, y7, st7, fr7⟩ => ?_
      have I7' := I7.pinned (fpy fr7) (T.obj _ _ st7)
      have gx : PG (compCx X scope (x :: ys) z) (.Name x px) (gName 0) := pg_name (X := compCx X scope (x :: ys) z) O.nd rfl (.inl (lookup_relabel_local O.hx)) (.inr (lookup_relabel_local O.hx))
      have q7 := step xv H7 y7 z
      refine thn (gx _ s7 _ H7 xv u (fun σ' H' => σ' = (inSt ix σ).set 0 (some xv) ∧ tt z σ' H' fun b H4 =>
        if b = true then te z σ' H4 fun y H5 => H5 s2.heap.objs.size = some (.lst vs) ∧ N (vs ++ [y]) (upd H5 s2.heap.objs.size (.lst (vs ++ [y]))) else N vs H4) I7' r7 ⟨rfl, q7⟩) fun _ s8 q8 => ?_
      obtain ⟨σ8, H8, I8, e8, q8⟩ := q8
      subst e8
      have wk : ∀ {H' : Hp} {s' : Shared}, Inv (compCx X scope (x :: ys) z) ([] ++ pinsAt fp s7.heap) ((inSt ix σ).set 0 (some xv)) H' s' → Inv (compCx X scope (x :: ys) z) [] (inSt ix σ) H' s' ∧ tn (i + 1) s'.heap ∧ ∀ b ∈ fp, H' b = none := fun {H' s'} IW => by
        refine ⟨(IW.unpinned).weak (by simp) fun j v e => ?_, T.keep _ _ _ st7 fun b hb o e => (IW.pin (b, o) (List.mem_append_right _ (List.mem_append_right _ (mem_pinsAt hb e)))).1, fun b hb => ?_⟩
        · cases j with
          | zero =>
            have : (none : Option V) = some v := Option.some.inj (show some (none : Option V) = some (some v) from e)
            cases this
          | succ j => rw [List.getElem?_set_ne (Nat.succ_ne_zero j).symm]; exact e
        · obtain ⟨o, e, d⟩ := T.obj _ _ st7 b hb
          exact (IW.pin (b, o) (List.mem_append_right _ (List.mem_append_right _ (mem_pinsAt hb e)))).2.1
      refine thn (hi z _ s8 _ H8 _ I8 q8) fun ok s9 ⟨H9, I9, q9⟩ => ?_
      cases ok with
      | false =>
        rw [if_neg Bool.false_ne_true] at q9
        rw [if_neg Bool.false_ne_true]
        obtain ⟨m', hm, w9⟩ := hN _ _ q9
        exact ⟨m', hm, i + 1, vs, H9, (wk I9).1, (wk I9).2.1, (wk I9).2.2, w9⟩
      | true =>
        rw [if_pos rfl] at q9
        rw [if_pos rfl]
        refine thn (he z _ s9 _ H9 _ I9 q9) fun yv s10 ⟨y, H10, I10, r10, hD10, n10⟩ => ?_
        obtain ⟨m', hm, w10⟩ := hN _ _ n10
        have ap := mt_append (X := compCx X scope (x :: ys) z) _ s10 _ H10 (.ref s2.heap.objs.size) [y] (.ref s2.heap.objs.size) [yv] (fun v H' => H' = upd H10 s2.heap.objs.size (.lst (vs ++ [y]))) I10 rfl (.cons r10 .nil) ⟨s2.heap.objs.size, vs, y, rfl, rfl, hD10, hl, rfl⟩
        refine thn ap fun _ s11 ⟨_, H11, I11, _, e11⟩ => ?_
        subst e11
        exact ⟨m', hm, i + 1, vs ++ [y], _, (wk I11).1, (wk I11).2.1, (wk I11).2.2, w10⟩
  subst hs3
  exact codeAny_compStart_list (loop _) (T.self X.A 0 _ _ _ st1 (loop _))

/-- [elt for x in iter if ..], as a value -/
def tComp (ix : List Nat) (wi : TI) (tt : CompAt → TT) (te : CompAt → TE) : TE := fun σ H Q => wi σ H fun J H1 => CompW ix J tt te σ Q H1
section
variable {X : Cx} {scope : Scope} {x : Str} {ys : List Str} {ix : List Nat} {elt iter : Expr} {ifs : List Expr} {px pos : Pos} {wi : TI} {tt : CompAt → TT} {te : CompAt → TE}
theorem comp_clos (O : CompOk X scope x ys ix) (ok : X.Ok) : closureFor scope X.env = pure (clOf scope.names X.env) := closureFor_all fun p hp hf => ok.has p.1 (O.fr p hp hf)
theorem comp_turned {pins : List (Addr × Obj)} {σ : St} {H : Hp} {s : Shared} {C : Addr} {h' : Heap} (I : Inv X pins σ H s) (f : FpOk X pins H C) (hs : Heap.SameBut C s.heap h') : Inv X pins σ H { s with heap := h' } :=
  I.turned (t' := s.toks) (fun b o hb e => (hs.2 b hb).trans e) f.1 f.2.1 f.2.2.2.1 f.2.2.2.2.1 f.2.2.2.2.2
theorem pe_comp (O : CompOk X scope x ys ix) (hc : X.calm = true) (hit : PI X (.Name x px) iter wi)
    (hi : ∀ z, PIfs (compCx X scope (x :: ys) z) ifs (tt z)) (he : ∀ z, PE (compCx X scope (x :: ys) z) elt (te z)) (hs : ∀ v, foldedSetIterable iter X.env v = pure v := by intro _; rfl) :
    PE X (.ListComp elt [⟨.Name x px, iter, ifs, 0⟩] scope pos) (tComp ix wi tt te) := by
  intro pins s σ H Q I h
  rw [eval_ListComp]
  refine wpAny_comprehension_free (use := none) rfl hs (comp_clos O I.ok) O.kind O.names (thn (hit pins s σ H _ I h) fun v s1 h1 => thn h1 fun itv s2 h2 => ?_)
  obtain ⟨it, fp, tn, J, H2, e, I2, T, st2, f2, hw⟩ := h2
  subst e
  refine comp_block (RR := fun acc C => compPost (model X.prog X.w) X.A X.xe none (EP X pins σ Q) acc C) O hc hi he I2 T st2 f2 hw ?_
  intro D C m' H' s' I' n' fC q
  exact ⟨m', n', fun h' hs' => ⟨.ref D, H', comp_turned I' fC hs', rfl, q⟩⟩
/-- y = [elt for x in iter if ..], y a plain local name: the store is done within -/
def tCompS (ix : List Nat) (i : Nat) (wi : TI) (tt : CompAt → TT) (te : CompAt → TE) : TS := fun D σ H => tComp ix wi tt te σ H fun v H1 => D.nx (σ.set i (some v)) H1
theorem ps_comp {y : Str} {i : Nat} {py spos : Pos} (O : CompOk X scope x ys ix) (hc : X.calm = true) (hN : X.N.Nodup) (hy : X.N[i]? = some y) (hl : X.env.scope.names.lookup y = some .local) (hit : PI X (.Name x px) iter wi)
    (hi : ∀ z, PIfs (compCx X scope (x :: ys) z) ifs (tt z)) (he : ∀ z, PE (compCx X scope (x :: ys) z) elt (te z))
    (hsw : swapsWith (.ListComp elt [⟨.Name x px, iter, ifs, 0⟩] scope pos) (some (.Name y py)) spos.line X.env = pure true := by rfl) (hs : ∀ v, foldedSetIterable iter X.env v = pure v := by intro _; rfl) :
    PS X (.Assign [.Name y py] (.ListComp elt [⟨.Name x px, iter, ifs, 0⟩] scope pos) spos) (tCompS ix i wi tt te) := by
  intro pins s σ H D I h
  rw [exec_Assign_Name_used _ _ _ _ hsw]
  refine wpAny_bind (wpAny_standAt (wpAny_bind ?_))
  show wpAny _ _ (do let _ ← comprehension (.ListComp elt [⟨.Name x px, iter, ifs, 0⟩] scope pos) scope X.env _ (newList []) false (eval iter X.env) (some (assign (.Name y py) X.env))) _ _ s
  refine wpAny_bind (wpAny_mono (wpAny_comprehension_free (use := some (assign (.Name y py) X.env)) (Q := fun _ s' => SP X pins D .next s') rfl hs (comp_clos O I.ok) O.kind O.names (thn (hit pins s σ H _ I h) fun v s1 h1 => thn h1 fun itv s2 h2 => ?_))
    (fun _ s' hq => wpAny_pure (wpAny_pure hq)) fun _ _ e => e)
  obtain ⟨it, fp, tn, J, H2, e, I2, T, st2, f2, hw⟩ := h2
  subst e
  refine comp_block (RR := fun acc C => compPost (model X.prog X.w) X.A X.xe (some (assign (.Name y py) X.env)) (fun _ s' => SP X pins D .next s') acc C) O hc hi he I2 T st2 f2 hw ?_
  intro E C m' H' s' I' n' fC q
  show wpAny _ _ (assign (.Name y py) X.env (.ref E)) _ _ s'
  refine wpAny_assign_Name (store_ok2 (v := .ref E) I' hN hy (.inl hl) rfl (fun s'' I'' ⟨a, sb, ha⟩ => ?_) (.inr hl))
  have hCa : C ≠ a := by
    rcases ha with rfl | ha
    · exact fC.2.1
    · exact fun z => fC.2.2.2.2.1 _ _ ha z.symm
  exact ⟨m', n'.sameBut sb hCa, fun h' hs' => ⟨_, H', comp_turned I'' fC hs', q⟩⟩
end

/-! ### the forms one uses: Pv D i ys H, D the new list's address -/
section
variable {ix : List Nat} {tt : CompAt → TT} {te : CompAt → TE} {σ : St} {Q : VK} {H1 : Hp}
theorem compw_list {K : PySem.W.Frag} {a : Addr} {xs : List V} (Pv : Addr → Nat → List V → Hp → Prop) (h0 : ∀ D, H1 D = none → Pv D 0 [] (upd H1 D (.lst [])))
    (hl : ∀ D i ys H, i ≤ xs.length → Pv D i ys H → SqL K H a xs ∧ H D = some (.lst ys) ∧ ys.length < sizeLine)
    (hs : ∀ D i x ys H, xs[i]? = some x → Pv D i ys H → ∀ z, tt z ((inSt ix σ).set 0 (some x)) H fun b H4 =>
      if b = true then te z ((inSt ix σ).set 0 (some x)) H4 fun y H5 => H5 D = some (.lst ys) ∧ Pv D (i + 1) (ys ++ [y]) (upd H5 D (.lst (ys ++ [y]))) else Pv D (i + 1) ys H4)
    (hd : ∀ D ys H, Pv D xs.length ys H → Q (.ref D) H) : CompW ix (Itl K a) tt te σ Q H1 := by
  intro D hD
  refine ⟨fun i m ys H => m = xs.length - i ∧ i ≤ xs.length ∧ Pv D i ys H, ⟨xs.length, by simp, Nat.zero_le _, h0 D hD⟩, ?_⟩
  rintro i m ys H ⟨rfl, hi, p⟩
  obtain ⟨q, hD', hz⟩ := hl D i ys H hi p
  refine ⟨hD', ?_⟩
  by_cases hlt : i < xs.length
  · refine .inr ⟨⟨xs, xs[i], q, by simp [hlt]⟩, hz, Pv D (i + 1), fun ys' H' p' => ⟨xs.length - (i + 1), by omega, rfl, hlt, p'⟩, fun x H' y => ?_⟩
    obtain ⟨e, y⟩ := y
    subst e
    exact hs D i x ys _ (y xs q) p
  · have e : i = xs.length := by omega
    subst e
    exact .inl ⟨⟨xs, q, Nat.le_refl _⟩, hd D ys H p⟩
theorem compw_range {lo : Int} {n : Nat} (Pv : Addr → Nat → List V → Hp → Prop) (h0 : ∀ D, H1 D = none → Pv D 0 [] (upd H1 D (.lst [])))
    (hl : ∀ D i ys H, i ≤ n → Pv D i ys H → H D = some (.lst ys) ∧ ys.length < sizeLine)
    (hs : ∀ D i ys H, i < n → Pv D i ys H → ∀ z, tt z ((inSt ix σ).set 0 (some (.int (lo + i)))) H fun b H4 =>
      if b = true then te z ((inSt ix σ).set 0 (some (.int (lo + i)))) H4 fun y H5 => H5 D = some (.lst ys) ∧ Pv D (i + 1) (ys ++ [y]) (upd H5 D (.lst (ys ++ [y]))) else Pv D (i + 1) ys H4)
    (hd : ∀ D ys H, Pv D n ys H → Q (.ref D) H) : CompW ix (Itr lo n) tt te σ Q H1 := by
  intro D hD
  refine ⟨fun i m ys H => m = n - i ∧ i ≤ n ∧ Pv D i ys H, ⟨n, by simp, Nat.zero_le _, h0 D hD⟩, ?_⟩
  rintro i m ys H ⟨rfl, hi, p⟩
  obtain ⟨hD', hz⟩ := hl D i ys H hi p
  refine ⟨hD', ?_⟩
  by_cases hlt : i < n
  · refine .inr ⟨hlt, hz, Pv D (i + 1), fun ys' H' p' => ⟨n - (i + 1), by omega, rfl, hlt, p'⟩, fun x H' y => ?_⟩
    obtain ⟨e, y⟩ := y
    subst e y
    exact hs D i ys _ hlt p
  · have e : i = n := by omega
    subst e
    exact .inl ⟨Nat.le_refl _, hd D ys H p⟩
end

/-! ### over the signs of a text -/
def Its (z : Str) : It := ⟨fun i _ => i < z.cps.size, fun i H x H' => H' = H ∧ ∃ c, z.cps[i]? = some c ∧ x = .str ⟨#[c]⟩, fun i _ => z.cps.size ≤ i⟩
theorem turn_str {P : Program} {w : World} {K : PySem.W.Frag} {tg : Expr} {ty : String} (hty : ty = "str_ascii_iterator" ∨ ty = "str_iterator") (z : Str) (t : Tok) (it : Addr) : Turn P w K tg (Its z) [it] it (fun i h => h.IsStrIter it ty z t i) where
  mem := by simp
  obj := fun i h st b hb => by
    have e : b = it := by simpa using hb
    subst e
    obtain ⟨o, e, c, d⟩ := st
    exact ⟨o, e, fun v q => by rw [d] at q; cases q⟩
  keep := fun i h h' st k => by
    obtain ⟨o, e, r⟩ := st
    exact ⟨o, k it (by simp) o e, r⟩
  item := by
    intro X hP hw hK hc i pins s σ H E I hf st hg
    subst hP hw hK
    obtain ⟨f0, f1, f2, f3, f4, f5⟩ := hf it (by simp)
    have hn : ["enumerate", "zip", "dict_itemiterator", "dict_reverseitemiterator", "odict_iterator", "itertools.zip_longest", "itertools.pairwise"].contains ty = false := by rcases hty with rfl | rfl <;> decide
    have fin : ∀ (v : Value) (h' : Heap) (tk : Nat), SignAt z i v → h'.IsStrIter it ty z t (i + 1) → (∀ b o, b ∉ [it] → s.heap.get? b = some o → h'.get? b = some o) →
        ∃ u, some v = some u ∧ wpAny (model X.prog X.w) X.A (letOwnedTupleGo tg (.ref it) u) (fun _ s2 => ∃ x H', Inv X pins σ H' s2 ∧ RelV x u ∧ (Its z).yld i H x H' ∧ s2.heap.IsStrIter it ty z t (i + 1) ∧ ∀ b ∈ [it], H' b = none) E { s with heap := h', toks := tk } := by
      intro v h' tk hv st' kk
      obtain ⟨c, u, hc', rfl⟩ := hv
      have I1 : Inv X pins σ H { s with heap := h', toks := tk } := I.turned (fun b o hb e => kk b o (by simpa using hb) e) f0 f1 f3 f4 f5
      obtain ⟨o, e, c1, d⟩ := id st'
      exact ⟨_, rfl, go_of (s := { s with heap := h', toks := tk }) e c1 d hn ⟨.str ⟨#[c]⟩, H, I1, ⟨u, rfl⟩, ⟨rfl, c, hc', rfl⟩, st', fun b hb => (hf b hb).1⟩⟩
    rcases hty with rfl | rfl
    · exact (Walks.strAscii (prog := X.prog) (w := X.w) (I.ok.hd hc) it z t).item i s _ _ hg st fin
    · exact (Walks.strWide (prog := X.prog) (w := X.w) (I.ok.hd hc) it z t).item i s _ _ hg st fin
  done := by
    intro X hP hw hK hc i pins s σ H E I hf st hg
    subst hP hw hK
    obtain ⟨f0, f1, f2, f3, f4, f5⟩ := hf it (by simp)
    have hx : z.cps[i]? = none := Array.getElem?_eq_none hg
    rcases hty with rfl | rfl
    · exact wpAny_pyNext_ascii_end (I.ok.hd hc) st hx fun h' eb => ⟨rfl, I.turned (t' := s.toks) (fun b o hb e => eb b o hb e) f0 f1 f3 f4 f5⟩
    · exact wpAny_pyNext_wide_end (I.ok.hd hc) st hx fun h' eb => ⟨rfl, I.turned (t' := s.toks) (fun b o hb e => eb b o hb e) f0 f1 f3 f4 f5⟩
  self := fun _ _ _ _ _ st h => by
    rcases hty with rfl | rfl
    · exact wpAny_pyIter_striter_ascii st h
    · exact wpAny_pyIter_striter_wide st h
section
variable {X : Cx} {tg : Expr}
def iStr (tl : TE) : TI := fun σ H R => tl σ H fun x H1 => ∃ z, x = .str z ∧ R (Its z) H1
theorem pi_str {l : Expr} {tl : TE} (hl : PE X l tl) : PI X tg l (iStr tl) := by
  intro pins s σ H R I h
  refine thn (hl pins s σ H _ I h) fun v s1 ⟨x, H1, I1, r1, q1⟩ => ?_
  obtain ⟨z, e, q⟩ := q1
  subst e
  obtain ⟨t, rfl⟩ := r1
  have fin : ∀ ty : String, (ty = "str_ascii_iterator" ∨ ty = "str_iterator") → PIE X pins σ tg R (.ref s1.heap.objs.size) { s1 with heap := s1.heap.push { cls := .type ty, data := .fields #[.str z t, .int 0 0] } } := fun ty hty => by
    refine ⟨s1.heap.objs.size, [s1.heap.objs.size], _, _, H1, rfl, I1.kept (t' := s1.toks) fun b o e => Heap.get?_push_of_some _ e, turn_str hty z t _, ⟨_, Heap.get?_push_size _ rfl, rfl, rfl⟩, fun b hb => ?_, q⟩
    have e : b = s1.heap.objs.size := by simpa using hb
    subst e
    exact I1.fpOk (Nat.le_refl _) (I1.hok.fresh (Nat.le_refl _))
  cases ha : z.cps.all (· < 128)
  · exact wpAny_pyIter_wide ha (fin _ (.inr rfl))
  · exact wpAny_pyIter_ascii ha (fin _ (.inl rfl))
end
theorem for_str {z : Str} {g : TG} {tb : TS} {D : Ends} {σ : St} {H : Hp} (Pv : Nat → St → Hp → Prop) (h0 : Pv 0 σ H)
    (hs : ∀ i c σ H, z.cps[i]? = some c → Pv i σ H → g (.str ⟨#[c]⟩) σ H fun σ2 H2 => tb { D with nx := Pv (i + 1), ct := Pv (i + 1), bk := D.nx } σ2 H2) (hd : ∀ σ H, Pv z.cps.size σ H → D.nx σ H) :
    ∃ W : Nat → Nat → St → Hp → Prop, (∃ m, W 0 m σ H) ∧ ∀ i m σ H, W i m σ H →
      ((Its z).stop i H ∧ D.nx σ H) ∨ ((Its z).go i H ∧ ∃ N : St → Hp → Prop, (∀ σ' H', N σ' H' → ∃ m', m' < m ∧ W (i + 1) m' σ' H') ∧ ∀ x H', (Its z).yld i H x H' → g x σ H' fun σ2 H2 => tb { D with nx := N, ct := N, bk := D.nx } σ2 H2) := by
  refine ⟨fun i m σ H => m = z.cps.size - i ∧ i ≤ z.cps.size ∧ Pv i σ H, ⟨z.cps.size, by simp, Nat.zero_le _, h0⟩, ?_⟩
  rintro i m σ H ⟨rfl, hi, p⟩
  by_cases hlt : i < z.cps.size
  · refine .inr ⟨hlt, Pv (i + 1), fun σ' H' p' => ⟨z.cps.size - (i + 1), by omega, rfl, hlt, p'⟩, fun x H' y => ?_⟩
    obtain ⟨e, c, ec, ex⟩ := y
    subst e ex
    exact hs i c σ _ ec p
  · have e : i = z.cps.size := by omega
    subst e
    exact .inl ⟨Nat.le_refl _, hd σ H p⟩
section
variable {ix : List Nat} {tt : CompAt → TT} {te : CompAt → TE} {σ : St} {Q : VK} {H1 : Hp}
theorem compw_str {t : Str} (Pv : Addr → Nat → List V → Hp → Prop) (h0 : ∀ D, H1 D = none → Pv D 0 [] (upd H1 D (.lst [])))
    (hl : ∀ D i ys H, i ≤ t.cps.size → Pv D i ys H → H D = some (.lst ys) ∧ ys.length < sizeLine)
    (hs : ∀ D i c ys H, t.cps[i]? = some c → Pv D i ys H → ∀ z, tt z ((inSt ix σ).set 0 (some (.str ⟨#[c]⟩))) H fun b H4 =>
      if b = true then te z ((inSt ix σ).set 0 (some (.str ⟨#[c]⟩))) H4 fun y H5 => H5 D = some (.lst ys) ∧ Pv D (i + 1) (ys ++ [y]) (upd H5 D (.lst (ys ++ [y]))) else Pv D (i + 1) ys H4)
    (hd : ∀ D ys H, Pv D t.cps.size ys H → Q (.ref D) H) : CompW ix (Its t) tt te σ Q H1 := by
  intro D hD
  refine ⟨fun i m ys H => m = t.cps.size - i ∧ i ≤ t.cps.size ∧ Pv D i ys H, ⟨t.cps.size, by simp, Nat.zero_le _, h0 D hD⟩, ?_⟩
  rintro i m ys H ⟨rfl, hi, p⟩
  obtain ⟨hD', hz⟩ := hl D i ys H hi p
  refine ⟨hD', ?_⟩
  by_cases hlt : i < t.cps.size
  · refine .inr ⟨hlt, hz, Pv D (i + 1), fun ys' H' p' => ⟨t.cps.size - (i + 1), by omega, rfl, hlt, p'⟩, fun x H' y => ?_⟩
    obtain ⟨e, c, ec, ex⟩ := y
    subst e ex
    exact hs D i c ys _ ec p
  · have e : i = t.cps.size := by omega
    subst e
    exact .inl ⟨Nat.le_refl _, hd D ys H p⟩
end
end L2

set_option Elab.async false
set_option linter.all false
set_option maxRecDepth 100000
set_option maxHeartbeats 4000000
namespace PySem
open PyProof.Rows
theorem lri_no_len : typeLookup (.type "list_reverseiterator") "__len__" = pure none := by rw [typeLookup_type, builtinLookup_eq_fast]; kernel_rfl
theorem lri_hint : typeLookup (.type "list_reverseiterator") "__length_hint__" = pure (some (.builtin "list_reverseiterator.__length_hint__")) := by rw [typeLookup_type, builtinLookup_eq_fast]; kernel_rfl
section
variable {prog : Program} {w : World} {A : Around} {E : Value → Shared → Prop} {s : Shared}
/-- a reversed list's iterator: how long it is isn't asked at once -/
theorem rev_hint {r : Addr} {Q : Bool → Shared → Prop} (hT : s.TypeIs (.ref r) "list_reverseiterator") (h : Q false s) : wpAny (model prog w) A (Builtin.List.listLengthHint (.ref r)) Q E s := by
  have isa : isSubtype (.type "list_reverseiterator") (.type "list_reverseiterator") = pure true := by rw [isSubtype_type]; kernel_rfl
  have cut : splitId "list_reverseiterator.__length_hint__" = some ("list_reverseiterator", "__length_hint__") := by decide +kernel
  unfold Builtin.List.listLengthHint
  refine wpAny_bind (wpAny_specialOf hT lri_no_len (wpAny_bind (wpAny_specialOf hT lri_hint ?_)))
  dsimp only
  rw [cut]
  refine wpAny_bind (wpAny_isInstance hT isa ?_)
  rw [if_neg (by decide), if_pos (by decide +kernel), if_neg (by decide +kernel)]
  exact wpAny_pure h
/-- a list, new -/
def NewList (s : Shared) : Value → Shared → Prop := fun v t => v = .ref s.heap.objs.size ∧ t = { s with heap := s.heap.push { cls := .type "list", data := .seq #[] } }
/-- list(reversed(l)), the second call -/
theorem call_list_rev {l it : Addr} {items : Array Value} {Q : Value → Shared → Prop} (hh : A.handled = none) (hl : s.heap.IsList l items) (hne : l ≠ it) (hi : s.heap.IsRevIter it l ((items.size : Int) - 1)) (hn : items.size ≤ sizeLine)
    (hQ : ∀ h' tk acc c, (∀ b o, b ≠ it → s.heap.get? b = some o → h'.get? b = some o) → h'.get? s.heap.objs.size = some { cls := .type "list", dict := none, data := .seq acc c, slots := #[] } →
      ItemsOf (fun i v => items[items.size - 1 - i]? = some v) acc items.size → Q (.ref s.heap.objs.size) { s with heap := h', toks := tk }) :
    wpAny (model prog w) A (call (.type "list") [.ref it]) Q E s := by
  refine callType_codes (Q₁ := NewList s) PySem.F.called_list (PySem.F.typeCall_list_1 _) PySem.F.entry_list_init (code_list_new _ ⟨rfl, rfl⟩) ?_
  rintro _ _ ⟨rfl, rfl⟩
  have hS := Heap.get?_push_size s.heap (o := { cls := .type "list", data := .seq #[] }) rfl
  have below : ∀ {b o}, s.heap.get? b = some o → b < s.heap.objs.size := Heap.lt_size
  have hlt : l < s.heap.objs.size := hl.elim fun _ q => below q.1
  have hit : it < s.heap.objs.size := hi.elim fun _ q => below q.1
  refine ⟨⟨_, hS, rfl⟩, PySem.F.args_list_init_2 _ _, ?_⟩
  show wpAny _ _ (do let old ← Builtin.List.listItems (.ref s.heap.objs.size); Builtin.List.listUpdate (.ref s.heap.objs.size) (fun _ => #[]); letGo old.toList.reverse; Builtin.List.listExtendWith (.ref s.heap.objs.size) (.ref it) .none) _ _ _
  refine wpAny_bind ?_
  unfold Builtin.List.listItems
  refine wpAny_bind (wpAny_seqItems hS rfl (wpAny_pure ?_))
  show wpAny _ _ (updateSeq s.heap.objs.size (fun _ => #[]) >>= fun _ => letGo (#[] : Array Value).toList.reverse >>= fun _ => Builtin.List.listExtendWith (.ref s.heap.objs.size) (.ref it) .none) _ _ _
  refine wpAny_bind (wpAny_updateSeq hS rfl ?_)
  have hS₂ := Heap.get?_update_self (Obj.mapSeq (fun _ => (#[] : Array Value))) hS rfl
  generalize hh2 : (s.heap.push { cls := .type "list", data := .seq #[] }).update s.heap.objs.size (Obj.mapSeq (fun _ => (#[] : Array Value))) = h2 at hS₂ ⊢
  have oth : ∀ b o, s.heap.get? b = some o → h2.get? b = some o := fun b o e => by
    rw [← hh2]
    exact (Heap.get?_update_other _ _ (Nat.ne_of_gt (Heap.lt_size e))).trans (Heap.get?_push_of_some _ e)
  refine wpAny_bind (wpAny_letGo ?_)
  have hl2 : h2.IsList l items := hl.at fun o e => oth l o e
  have hi2 : h2.IsRevIter it l ((items.size : Int) - 1) := hi.at fun o e => oth it o e
  have hSI : s.heap.objs.size ≠ it := Nat.ne_of_gt hit
  have W := Walks.listRev (prog := prog) (w := w) (A := A.in1.in1) hh it l hne items
  have st : (fun i (h : Heap) => i ≤ items.size ∧ h.IsRevIter it l ((items.size : Int) - 1 - (i : Int)) ∧ h.IsList l items) 0 h2 := ⟨Nat.zero_le _, by simpa using hi2, hl2⟩
  unfold Builtin.List.listExtendWith
  have hT : ({ s with heap := h2 } : Shared).TypeIs (.ref it) "list_reverseiterator" := hi2.typeIs
  refine wpAny_bind (wpAny_typeOf hT ?_)
  have h1 : Builtin.List.listSameRef (.ref s.heap.objs.size) (.ref it) = false := by simp [Builtin.List.listSameRef, hSI]
  have h2' : (Value.type "list_reverseiterator" == Value.type "list") = false := by decide
  have h3 : (Value.type "list_reverseiterator" == Value.type "tuple") = false := by decide
  simp only [h1, h2', h3, Bool.or_false, Bool.false_eq_true, if_false]
  refine wpAny_bind (wpAny_pyIter_revIter hi2 ?_)
  refine wpAny_bind (wpAny_holding (rev_hint hT ?_))
  have hSf : s.heap.objs.size ∉ [it, l] := by simp only [List.mem_cons, List.not_mem_nil, or_false, not_or]; exact ⟨hSI, Nat.ne_of_gt hlt⟩
  have key : ∀ (h : Heap) (c₁ : Nat), (fun i (h : Heap) => i ≤ items.size ∧ h.IsRevIter it l ((items.size : Int) - 1 - (i : Int)) ∧ h.IsList l items) 0 h → (∀ b o, s.heap.get? b = some o → h.get? b = some o) →
      h.get? s.heap.objs.size = some { cls := .type "list", data := .seq #[] c₁ } → codeAny (model prog w) A.in1 (.builtin "list.extend.loop" ⟨[.ref s.heap.objs.size, .ref it, .none], []⟩) (wants (fun r s₂ => r = .none ∧ Q (.ref s.heap.objs.size) s₂) E) { s with heap := h } := by
    intro h c₁ hst hk hS₁
    refine codeAny_extend_loopS W.toS hn s.heap.objs.size hSf .none items.size 0 _ #[] c₁ rfl (Nat.zero_le _) hst hS₁ (ItemsOf.nil _) fun s' acc' c' hm hS' hacc => ?_
    rw [Moved.eq_with hm]
    refine ⟨rfl, hQ s'.heap s'.toks acc' c' (fun b o hb e => hm.heap b o (fun hmem => ?_) (hk b o e)) hS' hacc⟩
    rcases List.mem_cons.mp hmem with e' | hmem
    · exact absurd (Heap.lt_size e) (by rw [e']; exact Nat.lt_irrefl _)
    · exact hb (List.mem_singleton.mp hmem)
  refine wpAny_ite_split (fun _ => ?_) (fun _ => wpAny_pure ⟨plainId_quiet PySem.F.plain_extend_loop _, key _ _ st oth hS₂⟩)
  refine wpAny_bind (wpAny_rule ?_)
  refine wpAny_bind ?_
  show wpAny _ _ (updateSeq s.heap.objs.size (·.push .none) >>= fun _ => updateSeq s.heap.objs.size (·.pop)) _ _ _
  refine wpAny_bind (wpAny_updateSeq hS₂ rfl ?_)
  have hS₃ := Heap.get?_update_self (Obj.mapSeq (·.push Value.none)) hS₂ rfl
  refine wpAny_updateSeq (hz := by seq_fits) hS₃ rfl ?_
  have hS₄ := Heap.get?_update_self (Obj.mapSeq (·.pop)) hS₃ rfl
  have oth2 := ((Heap.SameBut.update h2 s.heap.objs.size (Obj.mapSeq (·.push Value.none))).trans (Heap.SameBut.update _ _ (Obj.mapSeq (·.pop)))).extBut
  refine wpAny_pure ⟨plainId_quiet PySem.F.plain_extend_loop _, key _ _ ?_ (fun b o e => oth2 b o (Nat.ne_of_lt (Heap.lt_size e)) (oth b o e)) hS₄⟩
  exact W.frame 0 _ _ st fun b hb o e => oth2 b o (fun z => hSf (z ▸ hb)) e
end
end PySem

namespace L2
open PySem PySem.Spec PyProof.Rows
section
variable {X : Cx} {e : Expr} {te : TE}
/-- list(reversed(e)) -/
theorem pe_listrev {p1 p2 q1 q2 : Pos} (hc : X.calm = true) (gl : Gl X "list") (ml : X.mg "list" = none) (gr : Gl X "reversed") (mr : X.mg "reversed" = none) (he : PE X e te)
    (hs1 : starEach [e] X.env = [(false, eval e X.env)] := by rfl)
    (hs2 : starEach [.Call (.Name "reversed" p2) [e] [] q2] X.env = [(false, eval (.Call (.Name "reversed" p2) [e] [] q2) X.env)] := by rfl) :
    PE X (.Call (.Name "list" p1) [.Call (.Name "reversed" p2) [e] [] q2] [] q1) (fun σ H Q => te σ H fun x H1 => ∃ l ys, x = .ref l ∧ SqL X.K H1 l ys ∧ ∀ p, H1 p = none → Q (.ref p) (upd H1 p (.lst ys.reverse))) := by
  intro pins s σ H Q I h
  refine Call_ (ld_blt I gl ml PyProof.Rows.boot_list (PyProof.Rows.callWith_type1 ?_ (by rw [hs2]; rfl) rfl))
  rw [hs2]
  show wpAny _ _ (spliced ((false, eval (.Call (.Name "reversed" p2) [e] [] q2) X.env) :: backTo q1 [])) _ _ s
  refine Calls.spliced_cons ?_
  refine Call_ (ld_blt I gr mr PyProof.Rows.boot_reversed (PyProof.Rows.callWith_type1 ?_ (by rw [hs1]; rfl) rfl))
  rw [hs1]
  show wpAny _ _ (spliced ((false, eval e X.env) :: backTo q2 [])) _ _ s
  refine Calls.spliced_cons (thn (he pins s σ H _ I h) fun u s1 ⟨x, H1, I1, r1, q1⟩ => Calls.spliced_nil ?_)
  obtain ⟨l, ys, e1, hq, q⟩ := q1
  subst e1
  cases r1
  obtain ⟨its, rv, p, hz⟩ := I1.list hq
  have hlen := rv.length
  refine call_reversed_list p.isList (Calls.spliced_nil ?_)
  have hl1 : (s1.heap.push (revObj l ((its.toArray.size : Int) - 1))).IsList l its.toArray := p.isList.push _
  have hlt : l < s1.heap.objs.size := by obtain ⟨_, e, _⟩ := p.isList; exact Heap.lt_size e
  refine call_list_rev (I1.ok.hd hc) hl1 (Nat.ne_of_lt hlt) ⟨_, Heap.get?_push_size _ rfl, rfl, rfl⟩ (by rw [List.size_toArray, ← hlen]; exact hz) fun h' tk acc c hk hD hacc => ?_
  have hk' : ∀ b o, s1.heap.get? b = some o → h'.get? b = some o := fun b o e => hk b o (Nat.ne_of_lt (Heap.lt_size e)) (Heap.get?_push_of_some _ e)
  have hsz : s1.heap.objs.size ≤ (s1.heap.push (revObj l ((its.toArray.size : Int) - 1))).objs.size := by rw [Heap.size_push]; exact Nat.le_succ _
  have hv : acc.toList = its.reverse := by
    refine List.ext_getElem? fun i => ?_
    by_cases hi : i < its.length
    · have hi2 : i < acc.size := by rw [hacc.1, List.size_toArray]; exact hi
      have e := hacc.2 i acc[i] (Array.getElem?_eq_getElem hi2)
      rw [List.getElem?_reverse hi, Array.getElem?_toList, Array.getElem?_eq_getElem hi2]
      simpa using e.symm
    · rw [List.getElem?_eq_none (by rw [Array.length_toList, hacc.1, List.size_toArray]; omega), List.getElem?_eq_none (by rw [List.length_reverse]; omega)]
  refine ⟨.ref _, _, I1.laid (t' := tk) (o := .lst ys.reverse) hk' hsz ?_, rfl, q _ (I1.hok.fresh hsz)⟩
  exact ⟨by rw [List.length_reverse]; exact hz, acc.toList, c, by rw [hv]; exact rv.reverse, by rw [Array.toArray_toList]; exact hD⟩

/-! ### // by a number that is not small -/
theorem op_fdivB : OpR X (binaryOp .FloorDiv) (rI (fun _ j => 0 < j ∧ j < 2 ^ 200) fun i j => .int (i / j)) := opI fun i j _ _ _ _ _ hc q => by
  have h0 : j ≠ 0 := by omega
  refine floordiv_int h0 ?_ (.inl (PyProof.noPylong_of_log2 ?_))
  · rw [Int.fdiv_eq_ediv_of_nonneg _ (by omega)]; exact q
  · have : j.natAbs < 2 ^ 200 := by omega
    have h1 : j.natAbs ≠ 0 := by omega
    exact Nat.lt_trans ((Nat.log2_lt h1).mpr this) (by decide)

/-! ### all(bools) -/
theorem bools_of : ∀ {bs : List Bool} {us : List Value}, Vals (bs.map V.bl) us → us = bs.map Value.bool
  | [], _, r => by rw [List.map_nil] at r; cases r; rfl
  | b :: bs, _, r => by
    rw [List.map_cons] at r
    cases r with
    | cons r1 r2 => rw [List.map_cons, ← bools_of r2]; cases (show _ = Value.bool b from r1); rfl
theorem call_all (hc : X.calm = true) : CallR X (.builtin "all") (fun xs H Q => ∃ (p : Addr) (bs : List Bool), xs = [.ref p] ∧ SqL X.K H p (bs.map V.bl) ∧ Q (.bl (bs.all id)) H) := by
  intro pins s σ H xs us Q I r h
  obtain ⟨p, bs, rfl, hq, q⟩ := h
  obtain ⟨u, rfl, ru⟩ := vals1 r
  cases ru
  obtain ⟨its, rv, pl, hz⟩ := I.list hq
  have hits := bools_of rv
  have hlt : p < s.heap.objs.size := by obtain ⟨_, e, _⟩ := pl.isList; exact Heap.lt_size e
  refine call_all_walk (wpAny_pyIter_list pl.isList ?_)
  refine ⟨s.heap.objs.size, [s.heap.objs.size, p], [s.heap.objs.size], its.toArray.size, _, _, fun i => (bs[i]?).getD true, rfl, Walks.list (A := X.A.in1) (I.ok.hd hc) _ p (Nat.ne_of_lt hlt) its.toArray,
    ⟨⟨_, Heap.get?_push_size _ rfl, rfl, rfl⟩, pl.isList.push _⟩, fun i v s' Q' E' hP hQ => ?_, fun h' tk hk => ?_⟩
  · have e : (bs.map Value.bool)[i]? = some v := by rw [← hits]; simpa using hP
    rw [List.getElem?_map] at e
    cases eb : bs[i]? with
    | none => rw [eb] at e; cases e
    | some b =>
      rw [eb] at e
      cases (show Value.bool b = v from Option.some.inj e)
      simp only [eb, Option.getD_some] at hQ
      exact wpAny_truthy_bool hQ
  · have e : ((List.range its.toArray.size).all fun i => (bs[i]?).getD true) = bs.all id := by
      rw [List.size_toArray, hits, List.length_map]; exact PyProof.Rows.LSm.range_all bs
    rw [e]
    refine ⟨.bl (bs.all id), H, I.kept fun b o eo => hk b o (fun hm => ?_) (Heap.get?_push_of_some _ eo), rfl, q⟩
    rw [List.mem_singleton.mp hm] at eo
    exact Nat.lt_irrefl _ (Heap.lt_size eo)

/-! ### texts -/
theorem op_gt_str : OpR X (compareOp .Gt) (fun x y H Q => ∃ i j, x = .str i ∧ y = .str j ∧ Q (.bl (decide (j.cps.toList < i.cps.toList))) H) := by
  intro pins s σ H x y v u Q I rx ry h
  obtain ⟨i, j, rfl, rfl, q⟩ := h
  obtain ⟨t, rfl⟩ := rx
  obtain ⟨t', rfl⟩ := ry
  exact PySem.P.gt_str (fin_bl I q rfl)
theorem strs_of : ∀ {ys : List Str} {us : List Value}, Vals (ys.map V.str) us → StrsAre us ys
  | [], _, r => by rw [List.map_nil] at r; cases r; exact .nil
  | y :: ys, _, r => by
    rw [List.map_cons] at r
    cases r with
    | cons r1 r2 =>
      obtain ⟨t, rfl⟩ := r1
      exact .cons y t (strs_of r2)
def rJoin (K : PySem.W.Frag) : V → List V → Hp → VK → Prop := fun x vs H Q => ∃ (z : Str) (p : Addr) (ys : List Str), x = .str z ∧ vs = [.ref p] ∧ SqL K H p (ys.map V.str) ∧ (ys.map (·.length)).sum + ys.length * z.length ≤ 16777216 ∧ Q (.str (Txt.join z ys)) H
theorem mt_join : MtR X "str.join" (rJoin X.K) := by
  intro pins s σ H x xs v us Q I rx r h
  obtain ⟨z, p, ys, rfl, rfl, hq, hz, q⟩ := h
  obtain ⟨t, rfl⟩ := rx
  obtain ⟨u, rfl, ru⟩ := vals1 r
  cases ru
  obtain ⟨its, rv, pl, _⟩ := I.list hq
  exact join_list pl.isList (strs_of (by simpa using rv)) hz fun t' k => ⟨.str (Txt.join z ys), H, I.tok _, ⟨_, rfl⟩, q⟩
end
end L2

set_option Elab.async false
set_option linter.all false
set_option maxRecDepth 100000
set_option maxHeartbeats 4000000
namespace L2
open PySem PySem.Spec PyProof.Rows Builtin.Str
section
variable {X : Cx} {e : Expr} {es : List Expr} {te : TE} {t : TA}

/-! ### displays of texts -/
def strsOf : List Expr → Option (List Str)
  | [] => some []
  | .Constant (.str x) _ _ :: r => (strsOf r).map (x :: ·)
  | _ => none
def tStrs (ys : List Str) : TA := fun _ H Q => Q (ys.map V.str) H
theorem pa_strs : ∀ {es : List Expr} {ys : List Str}, strsOf es = some ys → PA X es (tStrs ys)
  | [], ys, h => by
    cases h
    exact pa_nil
  | .Constant (.str x) k p :: r, ys, h => by
    have h' : (strsOf r).map (x :: ·) = some ys := h
    cases e : strsOf r with
    | none => rw [e] at h'; cases h'
    | some zs =>
      rw [e] at h'
      cases h'
      intro pos pins s σ H Q I q
      exact pa_cons (X := X) (pe_str (x := x) (j := k) (pos := p)) (pa_strs e) rfl pos pins s σ H Q I q

/-! ### texts -/
def rSlS : V → Option Int → Option Int → Hp → VK → Prop := fun x lo hi H Q => ∃ z, x = .str z ∧ z.length ≤ sizeLine ∧ Q (.str (Txt.slice z lo hi)) H
theorem sl_str : SlR X rSlS := by
  intro pins s σ H x v vl vu lo hi sl Q I rx hs pl pu h
  obtain ⟨z, rfl, hz, q⟩ := h
  obtain ⟨t, rfl⟩ := rx
  refine ⟨"str", _, PySem.F.slot_str_getitem.lookup, typeIs_str _ _ _, ?_⟩
  cases pl with
  | none =>
    cases pu with
    | none => exact wpAny_getItem_str_slice (l := none) (u := none) (st := none) hs rfl (post_val_or_str ⟨Nat.le_trans (Txt.slice_le z _ _) hz, fun t' k => ⟨.str (Txt.slice z none none), H, I.tok _, ⟨_, rfl⟩, q⟩⟩)
    | int j uj => exact wpAny_getItem_str_slice (l := none) (u := some (j, uj)) (st := none) hs rfl (post_val_or_str ⟨Nat.le_trans (Txt.slice_le z _ _) hz, fun t' k => ⟨.str (Txt.slice z none (some j)), H, I.tok _, ⟨_, rfl⟩, q⟩⟩)
  | int i ui =>
    cases pu with
    | none => exact wpAny_getItem_str_slice (l := some (i, ui)) (u := none) (st := none) hs rfl (post_val_or_str ⟨Nat.le_trans (Txt.slice_le z _ _) hz, fun t' k => ⟨.str (Txt.slice z (some i) none), H, I.tok _, ⟨_, rfl⟩, q⟩⟩)
    | int j uj => exact wpAny_getItem_str_slice (l := some (i, ui)) (u := some (j, uj)) (st := none) hs rfl (post_val_or_str ⟨Nat.le_trans (Txt.slice_le z _ _) hz, fun t' k => ⟨.str (Txt.slice z (some i) (some j)), H, I.tok _, ⟨_, rfl⟩, q⟩⟩)
theorem op_mul_str : OpR X (binaryOp .Mult) (fun x y H Q => ∃ z n, x = .str z ∧ y = .int n ∧ MulOk z n ∧ Q (.str (Txt.mul z n)) H) := by
  intro pins s σ H x y v u Q I rx ry h
  obtain ⟨z, n, rfl, rfl, hm, q⟩ := h
  obtain ⟨t, rfl⟩ := rx
  obtain ⟨t', rfl⟩ := ry
  exact SB.mul hm fun t' k => ⟨.str (Txt.mul z n), H, I.tok _, ⟨_, rfl⟩, q⟩
theorem mt_upper : MtR X "str.upper" (fun x vs H Q => ∃ z, x = .str z ∧ vs = [] ∧ tooLong (Txt.upper z).length = false ∧ Q (.str (Txt.upper z)) H) := by
  intro pins s σ H x xs v us Q I rx r h
  obtain ⟨z, rfl, rfl, hz, q⟩ := h
  obtain ⟨t, rfl⟩ := rx
  cases r
  exact SC.upper hz ⟨.str (Txt.upper z), H, I.tok _, ⟨_, rfl⟩, q⟩

/-! ### isinstance(x, a built-in class) -/
theorem call_isinst : CallR X (.builtin "isinstance") (fun xs H Q => ∃ x t n b, xs = [x, .ty n] ∧ TyOf X.K H x t ∧ PySem.W.kitOne X.K t (.type n) = some b ∧ Q (.bl b) H) := by
  intro pins s σ H xs us Q I r h
  obtain ⟨x, t, n, b, rfl, ty, hk, q⟩ := h
  obtain ⟨u, w', rfl, ru, rw'⟩ := vals2 r
  cases (show w' = Value.type n from rw')
  exact isinst_ok I ru ty hk fun tk => ⟨.bl b, H, I.tok _, rfl, q⟩

/-! ### == and != of two lists, of two tuples, with flat items -/
def eqVs : List V → List V → Bool
  | [], [] => true
  | x :: xs, y :: ys => eqV x y && eqVs xs ys
  | _, _ => false
theorem eqVs_len : ∀ {xs ys : List V}, xs.length ≠ ys.length → eqVs xs ys = false
  | [], [], h => absurd rfl h
  | [], _ :: _, _ => rfl
  | _ :: _, [], _ => rfl
  | x :: xs, y :: ys, h => by
    show (eqV x y && eqVs xs ys) = false
    rw [eqVs_len (xs := xs) (ys := ys) (fun z => h (by simp [z])), Bool.and_false]
def eqAtN (xs ys : List V) (j : Nat) : Bool := match xs[j]?, ys[j]? with
  | some x, some y => eqV x y
  | _, _ => true
theorem range_succ_all (n : Nat) (f : Nat → Bool) : (List.range (n + 1)).all f = (f 0 && (List.range n).all fun j => f (j + 1)) := by
  rw [List.range_succ_eq_map, List.all_cons, List.all_map]; rfl
theorem eqVs_range : ∀ {xs ys : List V}, xs.length = ys.length → (List.range xs.length).all (eqAtN xs ys) = eqVs xs ys
  | [], [], _ => rfl
  | x :: xs, y :: ys, h => by
    rw [List.length_cons, range_succ_all]
    have ih := eqVs_range (xs := xs) (ys := ys) (by simpa using h)
    show (eqAtN (x :: xs) (y :: ys) 0 && (List.range xs.length).all fun j => eqAtN (x :: xs) (y :: ys) (j + 1)) = (eqV x y && eqVs xs ys)
    rw [← ih]
    rfl
theorem eqAtN_at {A : Around} {s : Shared} {xs ys : List V} {us vs : List Value} (r1 : Vals xs us) (r2 : Vals ys vs) (f1 : xs.all flatV = true) (f2 : ys.all flatV = true) (j : Nat) (h1 : j < us.toArray.size) (h2 : j < vs.toArray.size) :
    SeqAt.EqAt A s us.toArray[j] vs.toArray[j] (eqAtN xs ys j) := by
  have l1 := r1.length
  have l2 := r2.length
  have h1' : j < xs.length := by rw [l1]; simpa using h1
  have h2' : j < ys.length := by rw [l2]; simpa using h2
  obtain ⟨u, eu, ru⟩ := r1.get (List.getElem?_eq_getElem h1')
  obtain ⟨v, ev, rv⟩ := r2.get (List.getElem?_eq_getElem h2')
  have e1 : us.toArray[j] = u := by
    have : us.toArray[j]? = some u := by simpa using eu
    rw [Array.getElem?_eq_getElem h1] at this
    exact Option.some.inj this
  have e2 : vs.toArray[j] = v := by
    have : vs.toArray[j]? = some v := by simpa using ev
    rw [Array.getElem?_eq_getElem h2] at this
    exact Option.some.inj this
  rw [e1, e2]
  have e3 : eqAtN xs ys j = eqV xs[j] ys[j] := by
    unfold eqAtN
    rw [List.getElem?_eq_getElem h1', List.getElem?_eq_getElem h2']
  rw [e3]
  exact eqAt_V ru rv (List.all_eq_true.mp f1 _ (List.getElem_mem h1')) (List.all_eq_true.mp f2 _ (List.getElem_mem h2'))
def rEqL (K : PySem.W.Frag) (neg : Bool) : R2 := fun x y H Q => ∃ a b xs ys, x = .ref a ∧ y = .ref b ∧ SqL K H a xs ∧ SqL K H b ys ∧ xs.all flatV = true ∧ ys.all flatV = true ∧ Q (.bl (if neg then !eqVs xs ys else eqVs xs ys)) H
def rEqT (K : PySem.W.Frag) (neg : Bool) : R2 := fun x y H Q => ∃ a b xs ys, x = .ref a ∧ y = .ref b ∧ SqT K H a xs ∧ SqT K H b ys ∧ xs.all flatV = true ∧ ys.all flatV = true ∧ Q (.bl (if neg then !eqVs xs ys else eqVs xs ys)) H
theorem op_eqL (hu : X.A.units < cLine) : OpR X (compareOp .Eq) (rEqL X.K false) := by
  intro pins s σ H x y v u Q I rx ry h
  obtain ⟨a, b, xs, ys, rfl, rfl, ha, hb, f1, f2, q⟩ := h
  cases rx
  cases ry
  obtain ⟨its, r1, p1, _⟩ := I.list ha
  obtain ⟨its2, r2, p2, _⟩ := I.list hb
  have l1 := r1.length
  have l2 := r2.length
  by_cases hl : xs.length = ys.length
  · refine SeqAt.eq_listAt p1.isList p2.isList (by simp; omega) hu (eqAtN_at r1 r2 f1 f2) ?_
    rw [List.size_toArray, ← l1, eqVs_range hl]
    exact ⟨.bl _, H, I, rfl, q⟩
  · rw [eqVs_len hl] at q
    exact SeqAt.RcAt.lists_lengths p1.isList p2.isList (by simp; omega) hu X.prog X.w X.xe _ ⟨.bl _, H, I, rfl, q⟩
theorem op_neL (hu : X.A.units < cLine) : OpR X (compareOp .NotEq) (rEqL X.K true) := by
  intro pins s σ H x y v u Q I rx ry h
  obtain ⟨a, b, xs, ys, rfl, rfl, ha, hb, f1, f2, q⟩ := h
  cases rx
  cases ry
  obtain ⟨its, r1, p1, _⟩ := I.list ha
  obtain ⟨its2, r2, p2, _⟩ := I.list hb
  have l1 := r1.length
  have l2 := r2.length
  by_cases hl : xs.length = ys.length
  · refine SeqAt.RcNeAt.lists p1.isList p2.isList (by simp; omega) hu (eqAtN_at r1 r2 f1 f2) X.prog X.w X.xe _ ?_
    rw [List.size_toArray, ← l1, eqVs_range hl]
    exact ⟨.bl _, H, I, rfl, q⟩
  · rw [eqVs_len hl] at q
    exact SeqAt.RcNeAt.lists_lengths p1.isList p2.isList (by simp; omega) hu X.prog X.w X.xe _ ⟨.bl _, H, I, rfl, q⟩
theorem eqVs_tup {xs ys : List V} : ((List.range (min xs.length ys.length)).all (eqAtN xs ys) && xs.length == ys.length) = eqVs xs ys := by
  by_cases hl : xs.length = ys.length
  · rw [← hl, Nat.min_self, eqVs_range hl]; simp
  · rw [eqVs_len hl]
    have : (xs.length == ys.length) = false := by simpa using hl
    rw [this, Bool.and_false]
theorem op_eqT (hu : X.A.units < cLine) : OpR X (compareOp .Eq) (rEqT X.K false) := by
  intro pins s σ H x y v u Q I rx ry h
  obtain ⟨a, b, xs, ys, rfl, rfl, ha, hb, f1, f2, q⟩ := h
  cases rx
  cases ry
  obtain ⟨its, r1, p1, _⟩ := I.tuple ha
  obtain ⟨its2, r2, p2, _⟩ := I.tuple hb
  refine SeqAt.eq_tupleAt (show s.heap.IsTuple a its.toArray from p1) (show s.heap.IsTuple b its2.toArray from p2) hu (eqAtN_at r1 r2 f1 f2) ?_
  rw [List.size_toArray, List.size_toArray, ← r1.length, ← r2.length, eqVs_tup]
  exact ⟨.bl _, H, I, rfl, q⟩
theorem op_neT (hu : X.A.units < cLine) : OpR X (compareOp .NotEq) (rEqT X.K true) := by
  intro pins s σ H x y v u Q I rx ry h
  obtain ⟨a, b, xs, ys, rfl, rfl, ha, hb, f1, f2, q⟩ := h
  cases rx
  cases ry
  obtain ⟨its, r1, p1, _⟩ := I.tuple ha
  obtain ⟨its2, r2, p2, _⟩ := I.tuple hb
  refine SeqAt.RcNeAt.tuples (show s.heap.IsTuple a its.toArray from p1) (show s.heap.IsTuple b its2.toArray from p2) hu (eqAtN_at r1 r2 f1 f2) X.prog X.w X.xe _ ?_
  rw [List.size_toArray, List.size_toArray, ← r1.length, ← r2.length, eqVs_tup]
  exact ⟨.bl _, H, I, rfl, q⟩
end

/-! ### an own def, by its name -/
def Has (P : Program) (w : World) (K : PySem.W.Frag) (mg : Str → Option Value) (base : Heap) (x : Str) (k : Nat) (ps : List Str) (sp : Sp) : Prop :=
  ∃ (f : Addr) (fd : FuncData), mg x = some (.ref f) ∧ PySem.W.keepIn K (.ref f) = true ∧ Binds K fd ps [] ∧ FnOk P w K mg base CX0 k f fd ps sp
theorem pe_has {X : Cx} {x : Str} {k : Nat} {ps : List Str} {sp : Sp} {p pos : Pos} {e : Expr} {es : List Expr} {t : TA} (h : Has X.prog X.w X.K X.mg X.base x k ps sp) (hr : Room k X.A) (hg : Gl X x) (ha : PA X (e :: es) t)
    (hdb : (x == ("__debug__" : Str)) = false := by decide) (he : starEach (e :: es) X.env = (false, eval e X.env) :: starEach es X.env := by rfl) (hpl : (backTo pos (starEach es X.env)).any (·.1) = false := by rfl) :
    PE X (.Call (.Name x p) (e :: es) [] pos) (tCall sp [] E0 t) := by
  obtain ⟨f, fd, hm, hk, hb, G⟩ := h
  exact pe_call G hr hg hm hk hb .nil pass0 ha hdb he hpl
theorem pe_has0 {X : Cx} {x : Str} {k : Nat} {ps : List Str} {sp : Sp} {p pos : Pos} (h : Has X.prog X.w X.K X.mg X.base x k ps sp) (hr : Room k X.A) (hg : Gl X x)
    (hdb : (x == ("__debug__" : Str)) = false := by decide) :
    PE X (.Call (.Name x p) [] [] pos) (tCall sp [] E0 tNil) := by
  obtain ⟨f, fd, hm, hk, hb, G⟩ := h
  exact pe_call0 G hr hg hm hk hb .nil pass0 hdb
theorem atI_in {α : Type} {xs : List α} {i : Int} (h0 : 0 ≤ i) (h1 : i < xs.length) : ∃ v, atI xs i = some v ∧ v ∈ xs := by
  obtain ⟨j, rfl⟩ := Int.eq_ofNat_of_zero_le h0
  have hj : j < xs.length := by omega
  exact ⟨xs[j], atI_nat (List.getElem?_eq_getElem hj), List.getElem_mem hj⟩
end L2

set_option Elab.async false
set_option linter.all false
set_option maxRecDepth 100000
set_option maxHeartbeats 4000000
namespace L2
open PySem PySem.Spec PyProof.Rows

/-! ### comprehensions with any target: xs the block's own names -/
def inStN (n : Nat) (ix : List Nat) (σ : St) : St := List.replicate n none ++ ix.map fun i => (σ[i]?).getD none
structure CompOkN (X : Cx) (scope : Scope) (xs ys : List Str) (ix : List Nat) : Prop where
  kind : scope.kind = .function
  hx : ∀ x ∈ xs, scope.names.lookup x = some .local
  nocell : ∀ p ∈ scope.names, p.2 ≠ .cell
  names : ∀ p ∈ scope.names, p.2 = .local → scope.names.lookup p.1 = some .local
  fr : ∀ p ∈ scope.names, p.2 = .free → X.env.kindOf p.1 = some .cell ∨ X.env.kindOf p.1 = some .free
  len : ys.length = ix.length
  here : ∀ (j : Nat) (y : Str) (i : Nat), ys[j]? = some y → ix[j]? = some i → scope.names.lookup y = some .free ∧ X.N[i]? = some y
  nd : (xs ++ ys).Nodup
def compChkN (osc : Scope) (N : List Str) (scope : Scope) (xs ys : List Str) (ix : List Nat) : Bool :=
  decide (scope.kind = .function) && xs.all (fun x => decide (scope.names.lookup x = some .local)) && scope.names.all (fun p => decide (p.2 ≠ .cell)) &&
  scope.names.all (fun p => decide (p.2 = .local → scope.names.lookup p.1 = some .local)) &&
  scope.names.all (fun p => decide (p.2 = .free → osc.names.lookup p.1 = some .cell ∨ osc.names.lookup p.1 = some .free)) &&
  decide (ys.length = ix.length) && (ys.zip ix).all (fun p => decide (scope.names.lookup p.1 = some .free ∧ N[p.2]? = some p.1)) && decide ((xs ++ ys).Nodup)
theorem compOkN_of {X : Cx} {osc scope : Scope} {N : List Str} {xs ys : List Str} {ix : List Nat} (hsc : X.env.scope = osc) (hN : X.N = N) (h : compChkN osc N scope xs ys ix = true) : CompOkN X scope xs ys ix := by
  unfold compChkN at h
  simp only [Bool.and_eq_true, List.all_eq_true, decide_eq_true_eq] at h
  obtain ⟨⟨⟨⟨⟨⟨⟨h1, h2⟩, h3⟩, h4⟩, h5⟩, h6⟩, h7⟩, h8⟩ := h
  refine ⟨h1, h2, h3, h4, fun p hp hf => ?_, h6, fun j y i e1 e2 => ?_, h8⟩
  · have := h5 p hp hf
    unfold Env.kindOf
    rw [hsc]
    exact this
  · rw [hN]
    refine h7 (y, i) ?_
    have : (ys.zip ix)[j]? = some (y, i) := by rw [List.getElem?_zip_eq_some]; exact ⟨e1, e2⟩
    exact List.mem_of_getElem? this
/-- a state that keeps what the block took from the def -/
def KeepN (n : Nat) (ix : List Nat) (σ σ' : St) : Prop := σ'.length = n + ix.length ∧ ∀ (j : Nat) v, (inStN n ix σ)[j]? = some (some v) → σ'[j]? = some (some v)
theorem inStN_len (n : Nat) (ix : List Nat) (σ : St) : (inStN n ix σ).length = n + ix.length := by
  unfold inStN
  rw [List.length_append, List.length_replicate, List.length_map]
theorem inStN_lt {n : Nat} {ix : List Nat} {σ : St} {j : Nat} (h : j < n) (v : V) : (inStN n ix σ)[j]? ≠ some (some v) := by
  unfold inStN
  rw [List.getElem?_append_left (by rw [List.length_replicate]; exact h), List.getElem?_replicate, if_pos h]
  intro e
  have : (none : Option V) = some v := Option.some.inj e
  cases this
theorem KeepN.refl (n : Nat) (ix : List Nat) (σ : St) : KeepN n ix σ (inStN n ix σ) := ⟨inStN_len n ix σ, fun _ _ e => e⟩
theorem KeepN.set {n : Nat} {ix : List Nat} {σ σ' : St} {i : Nat} {x : Option V} (k : KeepN n ix σ σ') (h : i < n) : KeepN n ix σ (σ'.set i x) := by
  refine ⟨by rw [List.length_set]; exact k.1, fun j v e => ?_⟩
  by_cases q : i = j
  · subst q
    exact absurd e (inStN_lt h v)
  · rw [List.getElem?_set_ne q]
    exact k.2 j v e
theorem comp_invN {X : Cx} {scope : Scope} {xs ys : List Str} {ix : List Nat} (O : CompOkN X scope xs ys ix) {pins : List (Addr × Obj)} {σ : St} {H : Hp} {s : Shared} {fp : List Addr} {h' : Heap} {t' : Nat}
    (I : Inv X pins σ H s) (hf : ∀ b ∈ fp, FpOk X pins H b) (hfl : ∀ b ∈ fp, b < s.heap.objs.size) (m : Str → Option Value)
    (hns : h'.Ns s.heap.objs.size m) (hk : ∀ b o, s.heap.get? b = some o → h'.get? b = some o) :
    Inv (compCx X scope (xs ++ ys) ⟨fp, s, H, s.heap.objs.size, pins⟩) [] (inStN xs.length ix σ) H { s with heap := h', toks := t' } := by
  have hC : H s.heap.objs.size = none := I.hok.fresh (Nat.le_refl _)
  have cl : ∀ y c, (clOf scope.names X.env).lookup y = some c → X.env.cells.lookup y = some c := fun y c e => by
    rcases (mem_clOf (acc := [])).mp (mem_of_lookupG e) with z | ⟨z, rfl⟩
    · simp at z
    · obtain ⟨c', e'⟩ := I.ok.has y (O.fr _ z rfl)
      rw [e']; rfl
  have clh : ∀ y, (y, NameKind.free) ∈ scope.names → ∃ c, (clOf scope.names X.env).lookup y = some c := fun y z => lookup_of_mem ((mem_clOf (acc := [])).mpr (.inr ⟨z, rfl⟩))
  refine ⟨⟨I.ok.mod, O.kind, I.ok.glob, I.ok.blt, Nat.le_refl _, fun y z c h1 h2 => I.ok.inj y z c (cl y c h1) (cl z c h2), fun y hy => ?_, fun y c h _ => ?_, I.ok.hd, I.ok.frames, .inl rfl,
    fun b hb => ⟨Nat.ne_of_lt (hfl b hb), fun y c e => (hf b hb).2.2.2.2.1 y c (cl y c e)⟩, I.bs, Nat.le_trans I.ok.bsz I.sz, fun b o e hb => ?_, fun b hb hb2 => ?_, I.stack, I.stkFree⟩,
    rfl, I.bare, Un.kept hk, ⟨m, hns, fun i y v e1 e2 vis => ?_⟩, fun y c e => ?_, hC, fun y c e => I.freeC y c (cl y c e), fun p hp => ?_, I.hok.kept hk, ?_⟩
  · rcases hy with h | h
    · rcases relabel_lookup h with q | ⟨q, _⟩
      · exact absurd rfl (O.nocell _ (mem_of_lookupG q))
      · exact clh y (mem_of_lookupG q)
    · rcases relabel_lookup h with q | ⟨q, e⟩
      · exact clh y (mem_of_lookupG q)
      · cases e
  · exact Bool.noConfusion (show false = true from h)
  · rcases (hf b hb).2.2.2.1 with z | z
    · exact I.ok.noex b o e z
    · exact absurd (Nat.lt_of_lt_of_le (Nat.lt_of_lt_of_le (Heap.lt_size e) I.ok.bsz) z) (Nat.lt_irrefl _)
  · exact (List.mem_cons.mp (I.stkSub b hb2)).elim (fun e => (hf b hb).2.1 e) fun z => (hf b hb).2.2.1 z
  · have hil : xs.length ≤ i := Nat.le_of_not_lt fun q => inStN_lt q v e2
    obtain ⟨j, rfl⟩ := Nat.exists_eq_add_of_le hil
    have ey : ys[j]? = some y := by
      have e1' : (xs ++ ys)[xs.length + j]? = some y := e1
      rw [List.getElem?_append_right (Nat.le_add_right _ _), Nat.add_sub_cancel_left] at e1'
      exact e1'
    have e2' : (ix.map fun i => (σ[i]?).getD none)[j]? = some (some v) := by
      have e2'' : (inStN xs.length ix σ)[xs.length + j]? = some (some v) := e2
      unfold inStN at e2''
      rw [List.getElem?_append_right (by rw [List.length_replicate]; exact Nat.le_add_right _ _), List.length_replicate, Nat.add_sub_cancel_left] at e2''
      exact e2''
    rw [List.getElem?_map] at e2'
    cases hi : ix[j]? with
    | none => rw [hi] at e2'; cases e2'
    | some i =>
      rw [hi] at e2'
      have e3 : (σ[i]?).getD none = some v := Option.some.inj e2'
      obtain ⟨hfree, hN⟩ := O.here j y i ey hi
      have ev : σ[i]? = some (some v) := by
        cases h : σ[i]? with
        | none => rw [h] at e3; cases e3
        | some q => rw [h] at e3; exact congrArg some e3
      obtain ⟨m', _, hl⟩ := I.loc
      have hkx := O.fr (y, .free) (mem_of_lookupG hfree) rfl
      obtain ⟨u, r, l⟩ := hl i y v hN ev (hkx.elim (fun z => .inr (.inl z)) fun z => .inr (.inr z))
      refine ⟨u, r, .inr ⟨relabel_free hfree, ?_⟩⟩
      obtain ⟨c, ec⟩ := clh y (mem_of_lookupG hfree)
      rcases l with ⟨k, _⟩ | ⟨_, c', ec', z⟩
      · rcases hkx with q | q
        · rw [q] at k; cases k
        · rw [q] at k; cases k
      · have : c = c' := Option.some.inj ((cl y c ec).symm.trans ec')
        subst this
        exact ⟨c, ec, z.keeps hk⟩
  · obtain ⟨v, z⟩ := I.cell y c (cl y c e)
    exact ⟨v, z.keeps hk⟩
  · have hp' : p ∈ (X.pn ++ pins) ++ ([] : List (Addr × Obj)) := hp
    rw [List.append_nil] at hp'
    obtain ⟨e, n, ne, nf, d⟩ := I.pin p hp'
    exact ⟨hk _ _ e, n, Nat.ne_of_lt (Heap.lt_size e), fun z => (List.mem_cons.mp (I.stkSub _ z)).elim ne nf, d⟩
  · show (inStN xs.length ix σ).length = (xs ++ ys).length
    rw [inStN_len, List.length_append, O.len]

/-- W: the invariant by the turn, a measure and the list so far -/
def CompWG (n : Nat) (ix : List Nat) (J : It) (g : CompAt → TG) (tt : CompAt → TT) (te : CompAt → TE) (σ : St) (Q : VK) (H1 : Hp) : Prop :=
  ∀ D, H1 D = none → ∃ W : Nat → Nat → List V → Hp → Prop, (∃ m, W 0 m [] (upd H1 D (.lst []))) ∧ ∀ i m ys H2, W i m ys H2 → H2 D = some (.lst ys) ∧
    ((J.stop i H2 ∧ Q (.ref D) H2) ∨ (J.go i H2 ∧ ys.length < sizeLine ∧ ∃ N : List V → Hp → Prop, (∀ ys' H', N ys' H' → ∃ m', m' < m ∧ W (i + 1) m' ys' H') ∧
      ∀ x H3, J.yld i H2 x H3 → ∀ z, g z x (inStN n ix σ) H3 fun σ' H3' => KeepN n ix σ σ' ∧ tt z σ' H3' fun b H4 =>
        if b = true then te z σ' H4 fun y H5 => H5 D = some (.lst ys) ∧ N (ys ++ [y]) (upd H5 D (.lst (ys ++ [y]))) else N ys H4))

theorem comp_blockN {X : Cx} {scope : Scope} {xs ys : List Str} {ix : List Nat} (O : CompOkN X scope xs ys ix) (hc : X.calm = true) {elt iter : Expr} {ifs : List Expr} {tg : Expr} {pos : Pos} {g : CompAt → TG} {tt : CompAt → TT} {te : CompAt → TE}
    (hg : ∀ z, PG (compCx X scope (xs ++ ys) z) tg (g z)) (hi : ∀ z, PIfs (compCx X scope (xs ++ ys) z) ifs (tt z)) (he : ∀ z, PE (compCx X scope (xs ++ ys) z) elt (te z))
    {pins : List (Addr × Obj)} {σ : St} {H : Hp} {s2 : Shared} {J : It} {fp : List Addr} {it : Addr} {tn : Nat → Heap → Prop} (I2 : Inv X pins σ H s2) (T : Turn X.prog X.w X.K tg J fp it tn) (st : tn 0 s2.heap)
    (hf : ∀ b ∈ fp, FpOk X pins H b) {Q : VK} (hw : CompWG xs.length ix J g tt te σ Q H) {RR : Value → Addr → Result → Shared → Prop} {E : Value → Shared → Prop}
    (hRR : ∀ D C m' H' s', Inv X pins σ H' s' → s'.heap.Ns C m' → FpOk X pins H' C → Q (.ref D) H' → RR (.ref D) C (.ok .next) s') :
    wpAny (model X.prog X.w) X.A (newList []) (fun acc s₃ => wpAny (model X.prog X.w) X.A (newFunctionEnv scope X.env.globals (clOf scope.names X.env) [] X.env.qual none .none (some X.env)) (fun cenv s₄ =>
      codeAny (model X.prog X.w) X.A (.compStart (.ListComp elt [⟨tg, iter, ifs, 0⟩] scope pos) 0 (.ref it) acc { cenv with scope := relabel scope X.env }) (RR acc cenv.locals) s₄) E s₃) E s2 := by
  refine wpAny_newObj_type (wpAny_newFunctionEnv O.nocell (by intro y hy; simp at hy) (fun h₁ hns₁ hsb₁ => ?_) O.kind)
  dsimp only at hns₁ hsb₁ ⊢
  have hDn : H s2.heap.objs.size = none := I2.hok.fresh (Nat.le_refl _)
  obtain ⟨W, ⟨m0, w0⟩, turn⟩ := hw s2.heap.objs.size hDn
  have flt : ∀ b ∈ fp, b < s2.heap.objs.size := fun b hb => by
    obtain ⟨o, e, _⟩ := T.obj 0 _ st b hb
    exact Heap.lt_size e
  obtain ⟨s3, hs3⟩ : ∃ s3 : Shared, s3 = { s2 with heap := s2.heap.push { cls := .type "list", data := .seq ([] : List Value).toArray } } := ⟨_, rfl⟩
  have hh3 : s3.heap = s2.heap.push { cls := .type "list", data := .seq ([] : List Value).toArray } := by rw [hs3]
  have I3 : Inv X pins σ (upd H s2.heap.objs.size (.lst [])) s3 := by
    rw [hs3]
    exact I2.laid (t' := s2.toks) (fun b u e => Heap.get?_push_of_some _ e) (Nat.le_refl _) (show ObjOk X.prog X.w _ _ _ (.lst []) from ⟨Nat.zero_le _, [], 0, .nil, Heap.get?_push_size _ rfl⟩)
  have hns₂ : h₁.Ns s3.heap.objs.size fun x => ([] : List (Str × Value)).reverse.lookup x := by rw [hh3]; exact hns₁
  have hsb₂ : Heap.SameBut s3.heap.objs.size (s3.heap.push { cls := .type (if (some X.env).isSome then "dict" else "frame"), data := .dict #[] }) h₁ := by rw [hh3]; exact hsb₁
  have hf3 : ∀ b ∈ fp, FpOk X pins (upd H s2.heap.objs.size (.lst [])) b := fun b hb => ⟨by rw [upd_ne (Nat.ne_of_lt (flt b hb))]; exact (hf b hb).1, (hf b hb).2⟩
  have hsz : s3.heap.objs.size = s2.heap.objs.size + 1 := by rw [hh3, Heap.size_push]
  have flt3 : ∀ b ∈ fp, b < s3.heap.objs.size := fun b hb => by rw [hsz]; exact Nat.lt_succ_of_lt (flt b hb)
  have hk : ∀ b o, s3.heap.get? b = some o → h₁.get? b = some o := fun b o e => hsb₂.extBut b o (Nat.ne_of_lt (Heap.lt_size e)) (Heap.get?_push_of_some _ e)
  have hk2 : ∀ b o, s2.heap.get? b = some o → h₁.get? b = some o := fun b o e => hk b o (by rw [hh3]; exact Heap.get?_push_of_some _ e)
  have st1 : tn 0 h₁ := T.keep _ _ _ st fun b hb o e => hk2 b o e
  let z : CompAt := ⟨fp, s3, upd H s2.heap.objs.size (.lst []), s3.heap.objs.size, pins⟩
  have cl : ∀ y c, (clOf scope.names X.env).lookup y = some c → X.env.cells.lookup y = some c := fun y c e => by
    rcases (mem_clOf (acc := [])).mp (mem_of_lookupG e) with q | ⟨q, rfl⟩
    · simp at q
    · obtain ⟨c', e'⟩ := I2.ok.has y (O.fr _ q rfl)
      rw [e']; rfl
  -- the iterator's records, as the block sees them
  have fpy : ∀ {H' : Hp}, (∀ b ∈ fp, H' b = none) → ∀ b ∈ fp, FpOk (compCx X scope (xs ++ ys) z) [] H' b := fun hn b hb => by
    refine ⟨hn b hb, Nat.ne_of_lt (flt3 b hb), fun hb2 => ?_, .inl hb, fun y c e => (hf b hb).2.2.2.2.1 y c (cl y c e), fun p hp => ?_⟩
    · exact (List.mem_cons.mp (I3.stkSub b hb2)).elim (fun e => (hf b hb).2.1 e) fun q => (hf b hb).2.2.1 q
    · have hp' : p ∈ (X.pn ++ pins) ++ ([] : List (Addr × Obj)) := hp
      rw [List.append_nil] at hp'
      exact (hf b hb).2.2.2.2.2 p hp'
  -- back to the def
  have back : ∀ {pl : List (Addr × Obj)} {σ' : St} {H' : Hp} {s' : Shared}, Inv (compCx X scope (xs ++ ys) z) pl σ' H' s' → Inv X pins σ H' s' ∧ FpOk X pins H' s3.heap.objs.size := fun {pl σ' H' s'} IY => by
    have I' : Inv X pins σ H' s' := I3.call' (ch := fp) IY.os IY.base IY.hok IY.bare fun b hb => ⟨(hf b hb).2.2.2.1, (hf b hb).2.1, (hf b hb).2.2.2.2.1, (hf b hb).2.2.2.2.2⟩
    exact ⟨I', I3.fpOk (Nat.le_refl _) IY.free⟩
  have loop : ∀ t' : Nat, codeAny (model X.prog X.w) X.A (.compLoop (.ListComp elt [⟨tg, iter, ifs, 0⟩] scope pos) 0 (.ref it) (.ref s2.heap.objs.size) (compCx X scope (xs ++ ys) z).env) (RR (.ref s2.heap.objs.size) s3.heap.objs.size) { s3 with heap := h₁, toks := t' } := by
    intro t'
    have IY := comp_invN (t' := t') O I3 hf3 flt3 _ hns₂ hk
    refine codeAny_compLoop_any (fun n s' => ∃ i vs H', Inv (compCx X scope (xs ++ ys) z) [] (inStN xs.length ix σ) H' s' ∧ tn i s'.heap ∧ (∀ b ∈ fp, H' b = none) ∧ W i n vs H') ?_ m0 ⟨0, [], _, IY, st1, fun b hb => (hf3 b hb).1, w0⟩
    rintro n s5 ⟨i, vs, H5, I5, st5, fr5, w5⟩
    obtain ⟨hD, stop | go⟩ := turn i n vs H5 w5
    · refine thn (T.done (compCx X scope (xs ++ ys) z) rfl rfl rfl hc i [] s5 _ H5 _ I5 (fpy fr5) st5 stop.1) fun r s6 ⟨hr, I6⟩ => ?_
      subst hr
      obtain ⟨m6, n6, _⟩ := I6.loc
      exact hRR _ _ m6 H5 s6 (back I6).1 n6 (back I6).2 stop.2
    · obtain ⟨hgo, hl, N, hN, step⟩ := go
      refine thn (T.item (compCx X scope (xs ++ ys) z) rfl rfl rfl hc i [] s5 _ H5 _ I5 (fpy fr5) st5 hgo) fun r s6 ⟨u, hr, h6⟩ => ?_
      subst hr
      refine thn h6 fun _ s7 ⟨xv, H7, I7, r7, y7, st7, fr7⟩ => ?_
      have I7' := I7.pinned (fpy fr7) (T.obj _ _ st7)
      have q7 := step xv H7 y7 z
      refine thn (hg z _ s7 _ H7 xv u _ I7' r7 q7) fun _ s8 q8 => ?_
      obtain ⟨σ8, H8, I8, k8, q8⟩ := q8
      have wk : ∀ {H' : Hp} {s' : Shared}, Inv (compCx X scope (xs ++ ys) z) ([] ++ pinsAt fp s7.heap) σ8 H' s' → Inv (compCx X scope (xs ++ ys) z) [] (inStN xs.length ix σ) H' s' ∧ tn (i + 1) s'.heap ∧ ∀ b ∈ fp, H' b = none := fun {H' s'} IW => by
        refine ⟨(IW.unpinned).weak (by rw [inStN_len]; exact k8.1.symm) k8.2, T.keep _ _ _ st7 fun b hb o e => (IW.pin (b, o) (List.mem_append_right _ (List.mem_append_right _ (mem_pinsAt hb e)))).1, fun b hb => ?_⟩
        obtain ⟨o, e, d⟩ := T.obj _ _ st7 b hb
        exact (IW.pin (b, o) (List.mem_append_right _ (List.mem_append_right _ (mem_pinsAt hb e)))).2.1
      refine thn (hi z _ s8 _ H8 _ I8 q8) fun ok s9 ⟨H9, I9, q9⟩ => ?_
      cases ok with
      | false =>
        rw [if_neg Bool.false_ne_true] at q9
        rw [if_neg Bool.false_ne_true]
        obtain ⟨m', hm, w9⟩ := hN _ _ q9
        exact ⟨m', hm, i + 1, vs, H9, (wk I9).1, (wk I9).2.1, (wk I9).2.2, w9⟩
      | true =>
        rw [if_pos rfl] at q9
        rw [if_pos rfl]
        refine thn (he z _ s9 _ H9 _ I9 q9) fun yv s10 ⟨y, H10, I10, r10, hD10, n10⟩ => ?_
        obtain ⟨m', hm, w10⟩ := hN _ _ n10
        have ap := mt_append (X := compCx X scope (xs ++ ys) z) _ s10 _ H10 (.ref s2.heap.objs.size) [y] (.ref s2.heap.objs.size) [yv] (fun v H' => H' = upd H10 s2.heap.objs.size (.lst (vs ++ [y]))) I10 rfl (.cons r10 .nil) ⟨s2.heap.objs.size, vs, y, rfl, rfl, hD10, hl, rfl⟩
        refine thn ap fun _ s11 ⟨_, H11, I11, _, e11⟩ => ?_
        subst e11
        exact ⟨m', hm, i + 1, vs ++ [y], _, (wk I11).1, (wk I11).2.1, (wk I11).2.2, w10⟩
  subst hs3
  exact codeAny_compStart_list (loop _) (T.self X.A 0 _ _ _ st1 (loop _))


/-- [elt for TARGET in iter if ..], as a value -/
def tCompG (n : Nat) (ix : List Nat) (wi : TI) (g : CompAt → TG) (tt : CompAt → TT) (te : CompAt → TE) : TE := fun σ H Q => wi σ H fun J H1 => CompWG n ix J g tt te σ Q H1
section
variable {X : Cx} {scope : Scope} {xs ys : List Str} {ix : List Nat} {elt iter tg : Expr} {ifs : List Expr} {pos : Pos} {wi : TI} {g : CompAt → TG} {tt : CompAt → TT} {te : CompAt → TE}
theorem pe_compG (O : CompOkN X scope xs ys ix) (hc : X.calm = true) (hit : PI X tg iter wi) (hg : ∀ z, PG (compCx X scope (xs ++ ys) z) tg (g z))
    (hi : ∀ z, PIfs (compCx X scope (xs ++ ys) z) ifs (tt z)) (he : ∀ z, PE (compCx X scope (xs ++ ys) z) elt (te z)) (hs : ∀ v, foldedSetIterable iter X.env v = pure v := by intro _; rfl) :
    PE X (.ListComp elt [⟨tg, iter, ifs, 0⟩] scope pos) (tCompG xs.length ix wi g tt te) := by
  intro pins s σ H Q I h
  rw [eval_ListComp]
  refine wpAny_comprehension_free (use := none) rfl hs (closureFor_all fun p hp hf => I.ok.has p.1 (O.fr p hp hf)) O.kind O.names (thn (hit pins s σ H _ I h) fun v s1 h1 => thn h1 fun itv s2 h2 => ?_)
  obtain ⟨it, fp, tn, J, H2, e, I2, T, st2, f2, hw⟩ := h2
  subst e
  refine comp_blockN (RR := fun acc C => compPost (model X.prog X.w) X.A X.xe none (EP X pins σ Q) acc C) O hc hg hi he I2 T st2 f2 hw ?_
  intro D C m' H' s' I' n' fC q
  exact ⟨m', n', fun h' hs' => ⟨.ref D, H', comp_turned I' fC hs', rfl, q⟩⟩
theorem pg_own {z : CompAt} {i : Nat} {x : Str} {p : Pos} (O : CompOkN X scope xs ys ix) (hi : xs[i]? = some x) : PG (compCx X scope (xs ++ ys) z) (.Name x p) (gName i) := by
  have hm : x ∈ xs := List.mem_of_getElem? hi
  have hl : i < xs.length := (List.getElem?_eq_some_iff.mp hi).1
  exact pg_name (X := compCx X scope (xs ++ ys) z) O.nd (by show (xs ++ ys)[i]? = some x; rw [List.getElem?_append_left hl]; exact hi) (.inl (lookup_relabel_local (O.hx x hm))) (.inr (lookup_relabel_local (O.hx x hm)))
end
theorem compwg_tup {n : Nat} {ix : List Nat} {g : CompAt → TG} {tt : CompAt → TT} {te : CompAt → TE} {σ : St} {Q : VK} {H1 : Hp} {K : PySem.W.Frag} {a : Addr} {xs : List V} (Pv : Addr → Nat → List V → Hp → Prop) (h0 : ∀ D, H1 D = none → Pv D 0 [] (upd H1 D (.lst [])))
    (hl : ∀ D i ys H, i ≤ xs.length → Pv D i ys H → SqT K H a xs ∧ H D = some (.lst ys) ∧ ys.length < sizeLine)
    (hs : ∀ D i x ys H, xs[i]? = some x → Pv D i ys H → ∀ z, g z x (inStN n ix σ) H fun σ' H3 => KeepN n ix σ σ' ∧ tt z σ' H3 fun b H4 =>
      if b = true then te z σ' H4 fun y H5 => H5 D = some (.lst ys) ∧ Pv D (i + 1) (ys ++ [y]) (upd H5 D (.lst (ys ++ [y]))) else Pv D (i + 1) ys H4)
    (hd : ∀ D ys H, Pv D xs.length ys H → Q (.ref D) H) : CompWG n ix (Itt K a) g tt te σ Q H1 := by
  intro D hD
  refine ⟨fun i m ys H => m = xs.length - i ∧ i ≤ xs.length ∧ Pv D i ys H, ⟨xs.length, by simp, Nat.zero_le _, h0 D hD⟩, ?_⟩
  rintro i m ys H ⟨rfl, hi, p⟩
  obtain ⟨q, hD', hz⟩ := hl D i ys H hi p
  refine ⟨hD', ?_⟩
  by_cases hlt : i < xs.length
  · refine .inr ⟨⟨xs, xs[i], q, by simp [hlt]⟩, hz, Pv D (i + 1), fun ys' H' p' => ⟨xs.length - (i + 1), by omega, rfl, hlt, p'⟩, fun x H' y => ?_⟩
    obtain ⟨e, y⟩ := y
    subst e
    exact hs D i x ys _ (y xs q) p
  · have e : i = xs.length := by omega
    subst e
    exact .inl ⟨⟨xs, q, Nat.le_refl _⟩, hd D ys H p⟩
theorem compwg_list {n : Nat} {ix : List Nat} {g : CompAt → TG} {tt : CompAt → TT} {te : CompAt → TE} {σ : St} {Q : VK} {H1 : Hp} {K : PySem.W.Frag} {a : Addr} {xs : List V} (Pv : Addr → Nat → List V → Hp → Prop) (h0 : ∀ D, H1 D = none → Pv D 0 [] (upd H1 D (.lst [])))
    (hl : ∀ D i ys H, i ≤ xs.length → Pv D i ys H → SqL K H a xs ∧ H D = some (.lst ys) ∧ ys.length < sizeLine)
    (hs : ∀ D i x ys H, xs[i]? = some x → Pv D i ys H → ∀ z, g z x (inStN n ix σ) H fun σ' H3 => KeepN n ix σ σ' ∧ tt z σ' H3 fun b H4 =>
      if b = true then te z σ' H4 fun y H5 => H5 D = some (.lst ys) ∧ Pv D (i + 1) (ys ++ [y]) (upd H5 D (.lst (ys ++ [y]))) else Pv D (i + 1) ys H4)
    (hd : ∀ D ys H, Pv D xs.length ys H → Q (.ref D) H) : CompWG n ix (Itl K a) g tt te σ Q H1 := by
  intro D hD
  refine ⟨fun i m ys H => m = xs.length - i ∧ i ≤ xs.length ∧ Pv D i ys H, ⟨xs.length, by simp, Nat.zero_le _, h0 D hD⟩, ?_⟩
  rintro i m ys H ⟨rfl, hi, p⟩
  obtain ⟨q, hD', hz⟩ := hl D i ys H hi p
  refine ⟨hD', ?_⟩
  by_cases hlt : i < xs.length
  · refine .inr ⟨⟨xs, xs[i], q, by simp [hlt]⟩, hz, Pv D (i + 1), fun ys' H' p' => ⟨xs.length - (i + 1), by omega, rfl, hlt, p'⟩, fun x H' y => ?_⟩
    obtain ⟨e, y⟩ := y
    subst e
    exact hs D i x ys _ (y xs q) p
  · have e : i = xs.length := by omega
    subst e
    exact .inl ⟨⟨xs, q, Nat.le_refl _⟩, hd D ys H p⟩
theorem compw_tup {ix : List Nat} {tt : CompAt → TT} {te : CompAt → TE} {σ : St} {Q : VK} {H1 : Hp} {K : PySem.W.Frag} {a : Addr} {xs : List V} (Pv : Addr → Nat → List V → Hp → Prop) (h0 : ∀ D, H1 D = none → Pv D 0 [] (upd H1 D (.lst [])))
    (hl : ∀ D i ys H, i ≤ xs.length → Pv D i ys H → SqT K H a xs ∧ H D = some (.lst ys) ∧ ys.length < sizeLine)
    (hs : ∀ D i x ys H, xs[i]? = some x → Pv D i ys H → ∀ z, tt z ((inSt ix σ).set 0 (some x)) H fun b H4 =>
      if b = true then te z ((inSt ix σ).set 0 (some x)) H4 fun y H5 => H5 D = some (.lst ys) ∧ Pv D (i + 1) (ys ++ [y]) (upd H5 D (.lst (ys ++ [y]))) else Pv D (i + 1) ys H4)
    (hd : ∀ D ys H, Pv D xs.length ys H → Q (.ref D) H) : CompW ix (Itt K a) tt te σ Q H1 := by
  intro D hD
  refine ⟨fun i m ys H => m = xs.length - i ∧ i ≤ xs.length ∧ Pv D i ys H, ⟨xs.length, by simp, Nat.zero_le _, h0 D hD⟩, ?_⟩
  rintro i m ys H ⟨rfl, hi, p⟩
  obtain ⟨q, hD', hz⟩ := hl D i ys H hi p
  refine ⟨hD', ?_⟩
  by_cases hlt : i < xs.length
  · refine .inr ⟨⟨xs, xs[i], q, by simp [hlt]⟩, hz, Pv D (i + 1), fun ys' H' p' => ⟨xs.length - (i + 1), by omega, rfl, hlt, p'⟩, fun x H' y => ?_⟩
    obtain ⟨e, y⟩ := y
    subst e
    exact hs D i x ys _ (y xs q) p
  · have e : i = xs.length := by omega
    subst e
    exact .inl ⟨⟨xs, q, Nat.le_refl _⟩, hd D ys H p⟩
end L2

namespace PySem
open Sem
open PySem.AutoSeq1 in
/-- l.extend(t): the tuple may carry a dict and slots of its own -/
theorem extend_tuple_any (p : Addr) (xs : Array Value) (m : Nat) (q : Addr) (ys : Array Value) (m2 : Nat) (qd : Option Addr) (qs : Array (Option Value))
    (short : ¬(!xs.isEmpty && Builtin.List.listTooLong (xs.size + ys.size)) = true) (hx : xs.size ≤ sizeLine) (hxy : xs.size + ys.size ≤ sizeLine + 1) :
    Meets (Builtin.«list.extend» ⟨[.ref p, .ref q], []⟩) (fun _ R st =>
      st.heap.get? p = some { cls := .type "list", dict := none, data := .seq xs m, slots := #[] } ∧
      st.heap.get? q = some { cls := .type "tuple", dict := qd, data := .seq ys m2, slots := qs } ∧
      R (.ok (.ret Value.none)) { st with heap := st.heap.update p (Obj.mapSeq fun zs => zs ++ ys), toks := st.toks }) := by
  refine .of_wp fun prog w A R st g => ?_
  obtain ⟨heap0, gens0, drawn0, toks0, os0⟩ := st
  obtain ⟨gp, gq, gR⟩ := g
  have a1 := idx_int
  have a2 := sub_tuple_tuple
  have a3 := sub_list_list
  have a4 := sub_tuple_list
  have a5 := sub_list_tuple
  have both : (xs ++ ys).size ≤ sizeLine + 1 := by
    rw [Array.size_append]
    exact hxy
  wp_walk using (wpAny_updateSeq gp rfl (hz := hx) (_hz' := both)), wpAny_loadPart' gp, wpAny_loadPart' gq
  exact ⟨_, rfl, gR⟩
end PySem
namespace HT
open PySem PySem.Spec PyProof.Rows
section
variable {prog : Program} {w : World} {A : Around} {E : Value → Shared → Prop} {s : Shared}
theorem adjust_rev (n : Nat) : Builtin.Slice.sliceAdjust none none (-1) (n : Int) = ((n : Int) - 1, -1) := rfl
theorem places_rev (n : Nat) : Builtin.Slice.slicePlaces ((n : Int) - 1) (-1) (-1) = n := by
  unfold Builtin.Slice.slicePlaces
  rw [if_neg (by decide)]
  by_cases h : n = 0
  · subst h; decide
  · rw [if_pos (by omega)]
    have : ((n : Int) - 1 - -1 - 1) / (- -1) = (n : Int) - 1 := by
      have e : (- -1 : Int) = 1 := by decide
      rw [e, Int.ediv_one]; omega
    rw [this]; omega
theorem sliceApplied_rev {sl : Addr} {n : Nat} {t : Tok} {Q : Int × Int × Nat → Shared → Prop} (hs : s.heap.IsSliceOf sl .none .none (.int (-1) t))
    (h : Q ((n : Int) - 1, -1, n) s) : wpAny (model prog w) A (Builtin.Slice.sliceApplied (.ref sl) (pure (n : Int))) Q E s := by
  obtain ⟨os, hos, hcs, hds⟩ := id hs
  unfold Builtin.Slice.sliceApplied Builtin.Slice.sliceFields
  refine wpAny_bind (wpAny_bind (wpAny_field hos hds (x := .none) rfl (wpAny_bind (wpAny_field hos hds (x := .none) rfl (wpAny_bind (wpAny_field hos hds (x := .int (-1) t) rfl (wpAny_pure ?_)))))))
  refine wpAny_bind (slicePart_int ?_)
  show wpAny _ _ (if ((-1 : Int) == 0) = true then _ else _) _ _ s
  rw [if_neg (by decide)]
  refine wpAny_bind (slicePart_none (wpAny_bind (slicePart_none (wpAny_bind (wpAny_pure ?_)))))
  show wpAny _ _ (match Builtin.Slice.sliceAdjust none none (-1) (n : Int) with | (lo, hi) => pure (lo, (-1 : Int), Builtin.Slice.slicePlaces lo hi (-1))) _ _ s
  rw [adjust_rev n]
  show wpAny _ _ (pure ((n : Int) - 1, (-1 : Int), Builtin.Slice.slicePlaces ((n : Int) - 1) (-1) (-1))) _ _ s
  rw [places_rev]
  exact wpAny_pure h
theorem fm_congr {α β : Type} {f g : α → Option β} : ∀ {l : List α}, (∀ a ∈ l, f a = g a) → l.filterMap f = l.filterMap g
  | [], _ => rfl
  | a :: r, h => by
    rw [List.filterMap_cons, List.filterMap_cons, h a List.mem_cons_self, fm_congr (l := r) fun b hb => h b (List.mem_cons_of_mem _ hb)]
theorem pick_rev (xs : Array Value) : ((List.range xs.size).filterMap fun (m : Nat) => xs[((xs.size : Int) - 1 + (m : Int) * -1).toNat]?).toArray = xs.toList.reverse.toArray := by
  congr 1
  have e : ∀ m ∈ List.range xs.size, xs[((xs.size : Int) - 1 + (m : Int) * -1).toNat]? = xs.toList.reverse[m]? := by
    intro m hm
    have hm' := List.mem_range.mp hm
    have : ((xs.size : Int) - 1 + (m : Int) * -1).toNat = xs.size - 1 - m := by omega
    rw [this, List.getElem?_reverse (by rw [Array.length_toList]; exact hm'), Array.length_toList, Array.getElem?_toList]
  rw [fm_congr e]
  have hl : xs.size = xs.toList.reverse.length := by rw [List.length_reverse, Array.length_toList]
  rw [hl]
  generalize xs.toList.reverse = zs
  induction zs with
  | nil => rfl
  | cons z r ih =>
    rw [List.length_cons, List.range_succ_eq_map, List.filterMap_cons]
    show z :: _ = _
    rw [List.filterMap_map]
    show z :: List.filterMap (fun m => (z :: r)[m + 1]?) (List.range r.length) = _
    have : (fun m => (z :: r)[m + 1]?) = fun m => r[m]? := by funext m; rfl
    rw [this, ih]
theorem getItem_tuple_rev {t sl : Addr} {items : Array Value} {tk : Tok} {Q : Value → Shared → Prop} (ht : IsTup s.heap t items) (hs : s.heap.IsSliceOf sl .none .none (.int (-1) tk))
    (h : Q (.ref s.heap.objs.size) { s with heap := s.heap.push { cls := .type "tuple", data := .seq items.toList.reverse.toArray } })
    (hsz : items.size ≤ sizeLine) : wpAny (model prog w) A (getItem (.ref t) (.ref sl)) Q E s := by
  have htake : sizeOk (.seq items.toList.reverse.toArray) := by
    show items.toList.reverse.toArray.size ≤ sizeLine
    rw [List.size_toArray, List.length_reverse, Array.length_toList]
    exact hsz
  obtain ⟨os, hos, hcs, hds⟩ := id hs
  have hTs : s.TypeIs (.ref sl) "slice" := ⟨os, hos, hcs⟩
  unfold getItem
  try with_reducible refine wpAny_holding ?_
  first | refine wpAny_bind (wpAny_pure ?_) | skip
  refine wpAny_bind (wpAny_sequenceKey ht.typeIs (by decide) ?_)
  refine wpAny_bind (wpAny_callSpecial?_slot (name := Str.ofString "__getitem__") ht.typeIs PyProof.Rows.slot_tuple_getitem
    (wpAny_call_entry PyProof.Rows.slot_tuple_getitem ht.typeIs entry_tuple_getitem ?_ (args_tuple_getitem _ _)))
  show wpAny _ _ (Builtin.Tuple.tupleItemsOf (.ref t) >>= _) _ _ s
  refine wpAny_bind (tupleItemsOf_ ht ?_)
  refine wpAny_bind (wpAny_typeOf hTs ?_)
  rw [if_pos (by decide)]
  refine wpAny_bind (sliceApplied_rev hs ?_)
  have hno : ¬ ((((items.size : Int) - 1) == 0 && (-1 : Int) == 1 && items.size == items.size) = true) := by
    intro q
    rw [Bool.and_eq_true, Bool.and_eq_true] at q
    exact absurd q.1.2 (by decide)
  show wpAny _ _ (if (((items.size : Int) - 1) == 0 && (-1 : Int) == 1 && items.size == items.size) = true then _ else _) _ _ s
  rw [if_neg hno, pick_rev]
  first
    | exact wpAny_bind (m := Builtin.Tuple.tupleExact _) (wpAny_newObj_type (wpAny_pure ⟨_, rfl, wpAny_pure h⟩) htake)
    | exact wpAny_bind (m := Builtin.Tuple.tupleExact _) (wpAny_newObj_type (wpAny_bind (wpAny_pure (wpAny_pure ⟨_, rfl, wpAny_pure h⟩))) htake)
    | exact wpAny_bind (wpAny_bind (m := Builtin.Tuple.tupleExact _) (wpAny_newObj_type (wpAny_pure (wpAny_pure ⟨_, rfl, wpAny_pure h⟩)) htake))
    | exact wpAny_bind (wpAny_bind (m := Builtin.Tuple.tupleExact _) (wpAny_newObj_type (wpAny_pure ⟨_, rfl, wpAny_pure h⟩) htake))
end
end HT
namespace L2
open PySem PySem.Spec PyProof.Rows
section
variable {X : Cx} {e st : Expr} {te : TE} {p2 pos : Pos}
/-- t[::-1] of a tuple; the step by any expression that tells -1 -/
def tRevT (K : PySem.W.Frag) (te : TE) : TE := fun σ H Q => te σ H fun x H1 => ∃ a xs, x = .ref a ∧ SqT K H1 a xs ∧ ∀ p, H1 p = none → Q (.ref p) (upd H1 p (.tup xs.reverse))
theorem pe_revT {ts : TE} (he : PE X e te) (hst : PE X st ts) (hv : ∀ σ H Q, Q (.int (-1)) H → ts σ H Q) : PE X (.Subscript e (.Slice none none (some st) p2) pos) (tRevT X.K te) := by
  intro pins s σ H Q I h
  refine Subscript_ (thn (he pins s σ H _ I h) fun v s1 ⟨x, H1, I1, r1, q1⟩ => ?_)
  obtain ⟨a, xs, rfl, hq, q⟩ := q1
  cases r1
  refine wpAny_Slice ?_
  rw [evalPart_none]
  refine wpAny_pure (wpAny_pure ?_)
  rw [evalPart_some]
  refine thn (hst pins s1 σ H1 (fun v H' => v = .int (-1) ∧ H' = H1) I1 (hv _ _ _ ⟨rfl, rfl⟩)) fun vs s2 ⟨y, H2, I2, r2, e2, e3⟩ => ?_
  subst e2 e3
  obtain ⟨tk, rfl⟩ := r2
  have I4 : Inv X pins σ _ { s2 with heap := s2.heap.push { cls := .type "slice", data := .fields #[.none, .none, .int (-1) tk] } } := I2.kept (t' := s2.toks) fun b ob q => Heap.get?_push_of_some _ q
  obtain ⟨its, r, ht, hz⟩ := I4.tuple hq
  have hlen : its.toArray.size = xs.length := by rw [List.size_toArray]; exact r.length.symm
  show wpAny (model X.prog X.w) X.A (subscriptTail e (.Slice none none (some st) p2) (.ref a) (.ref s2.heap.objs.size)) (EP X pins σ Q) X.xe { s2 with heap := s2.heap.push { cls := .type "slice", data := .fields #[.none, .none, .int (-1) tk] } }
  refine tail_any (ops := [.ref a, .ref s2.heap.objs.size]) ht.typeIs PyProof.Rows.slot_tuple_getitem.lookup ?_ (by with_unfolding_all rfl)
  refine HT.getItem_tuple_rev ht (Heap.IsSliceOf.new ..) ?_ (by rw [hlen]; exact hz)
  refine ⟨.ref _, _, I4.laid (t' := s2.toks) (o := .tup xs.reverse) (fun b ob q => Heap.get?_push_of_some _ q) (Nat.le_refl _) ?_, rfl, q _ (I4.hok.fresh (Nat.le_refl _))⟩
  exact ⟨by rw [List.length_reverse]; exact hz, _, r.reverse, IsTup.new _ _⟩
/-- l.extend(t), t a tuple -/
def rExtendT (K : PySem.W.Frag) : V → List V → Hp → VK → Prop := fun x vs H Q => ∃ l b xs zs, x = .ref l ∧ vs = [.ref b] ∧ H l = some (.lst xs) ∧ SqT K H b zs ∧ xs.length + zs.length ≤ sizeLine ∧ Q .non (upd H l (.lst (xs ++ zs)))
theorem mt_extendT : MtM X "list.extend" (rExtendT X.K) := by
  intro pins s σ H x vs v us Q I rx rv h
  obtain ⟨l, b, xs, zs, rfl, rfl, hH, hB, hz, q⟩ := h
  cases rx
  obtain ⟨u, rfl, ru⟩ := rv.one
  cases ru
  obtain ⟨z, its, n, r, hl, e⟩ := I.lstM hH
  obtain ⟨its2, r2, ht, hl2⟩ := I.tuple hB
  obtain ⟨⟨oc, od, oda, os⟩, e2, rfl, n2, rfl⟩ := id ht
  have hsz : its.toArray.size + its2.toArray.size ≤ sizeLine := by rw [List.size_toArray, List.size_toArray, ← r.length, ← r2.length]; omega
  have hlong : ¬ (!its.toArray.isEmpty && Builtin.List.listTooLong (its.toArray.size + its2.toArray.size)) = true := by
    rw [notLongL hsz, Bool.and_false]
    exact Bool.false_ne_true
  refine call_meets F.slot_list_extend ⟨_, e, rfl⟩ F.entry_list_extend (F.args_list_extend_2 _ _)
    (PySem.extend_tuple_any l its.toArray n b its2.toArray n2 od os hlong (by rw [List.size_toArray]; omega) (by omega)) ⟨e, e2, ?_⟩
  refine ⟨.non, _, I.lset (its' := its ++ its2) hH e (by simp) (r.append r2) ?_, rfl, q⟩
  rw [List.length_append]
  omega
end
end L2
namespace L2
open PySem PySem.Spec PyProof.Rows
theorem op_isnot_bl {X : Cx} : OpR X (compareOp .IsNot) (fun x y H Q => ∃ b c, x = .bl b ∧ y = .bl c ∧ Q (.bl (b != c)) H) := by
  intro pins s σ H x y v u Q I rx ry h
  obtain ⟨b, c, rfl, rfl, q⟩ := h
  cases rx
  cases ry
  exact PyProof.Rows.isnot_bool (fin_bl I q rfl)
end L2
namespace My
/-! ### one by one -/
inductive F2 {α β : Type} (R : α → β → Prop) : List α → List β → Prop
  | nil : F2 R [] []
  | cons {a : α} {b : β} {as : List α} {bs : List β} : R a b → F2 R as bs → F2 R (a :: as) (b :: bs)
theorem F2.mono {α β : Type} {R S : α → β → Prop} (h : ∀ a b, R a b → S a b) {as : List α} {bs : List β} (f : F2 R as bs) : F2 S as bs := by
  induction f with
  | nil => exact .nil
  | cons r _ ih => exact .cons (h _ _ r) ih
theorem F2.app {α β : Type} {R : α → β → Prop} {as as' : List α} {bs bs' : List β} (f : F2 R as bs) (g : F2 R as' bs') : F2 R (as ++ as') (bs ++ bs') := by
  induction f with
  | nil => exact g
  | cons r _ ih => exact .cons r ih
theorem F2.len {α β : Type} {R : α → β → Prop} {as : List α} {bs : List β} (f : F2 R as bs) : bs.length = as.length := by
  induction f with
  | nil => rfl
  | cons _ _ ih => rw [List.length_cons, List.length_cons, ih]
theorem F2.get {α β : Type} {R : α → β → Prop} {as : List α} {bs : List β} (f : F2 R as bs) : ∀ {i : Nat} {b : β}, bs[i]? = some b → ∃ a, as[i]? = some a ∧ R a b := by
  induction f with
  | nil => intro i b h; simp at h
  | cons r _ ih =>
    intro i b h
    cases i with
    | zero =>
      obtain rfl := Option.some.inj h
      exact ⟨_, rfl, r⟩
    | succ i => exact ih (i := i) h
theorem F2.one {α β : Type} {R : α → β → Prop} {a : α} {b : β} (r : R a b) : F2 R [a] [b] := .cons r .nil
theorem F2.left {α β : Type} {R : α → β → Prop} {a : α} {as : List α} {bs : List β} (f : F2 R (a :: as) bs) : ∃ b bs', bs = b :: bs' ∧ R a b ∧ F2 R as bs' := by
  cases f with
  | cons r g => exact ⟨_, _, rfl, r, g⟩
theorem F2.rev {α β : Type} {R : α → β → Prop} {as : List α} {bs : List β} (f : F2 R as bs) : F2 R as.reverse bs.reverse := by
  induction f with
  | nil => exact .nil
  | cons r _ ih =>
    rw [List.reverse_cons, List.reverse_cons]
    exact ih.app (.one r)
theorem take_map_snoc {α β : Type} {f : α → β} {xs : List α} {i : Nat} {x : α} (h : xs[i]? = some x) : (xs.take (i + 1)).map f = (xs.take i).map f ++ [f x] := by
  rw [List.take_add_one, h]
  simp
theorem F2.with {α β : Type} {R : α → β → Prop} {S : β → Prop} {as : List α} {bs : List β} (f : F2 R as bs) : (∀ b ∈ bs, S b) → F2 (fun a b => S b ∧ R a b) as bs := by
  induction f with
  | nil => exact fun _ => .nil
  | cons r _ ih => exact fun h => .cons ⟨h _ List.mem_cons_self, r⟩ (ih fun b hb => h b (List.mem_cons_of_mem _ hb))
end My

set_option Elab.async false
set_option linter.all false
set_option maxRecDepth 100000
set_option maxHeartbeats 4000000
namespace My
open PySem L2
def top (i : Nat) : Stmt := PySem.Challenge.pw_stepcourt_k07_programs_let_by.main.body.getD i (.Pass ⟨0, 0, 0, 0⟩)
abbrev sDeal : Stmt := top 17
abbrev sDraw : Stmt := top 18
/-! ### the deal: a dict of three -/
theorem sn : ¬ (("seed" : Str) = "number") := by decide +kernel
theorem sl : ¬ (("seed" : Str) = "left") := by decide +kernel
theorem nl : ¬ (("number" : Str) = "left") := by decide +kernel
theorem ksn : ¬ ((Sum.inr ("seed" : Str) : Key) = Sum.inr ("number" : Str)) := fun e => sn (Sum.inr.inj e)
theorem ksl : ¬ ((Sum.inr ("seed" : Str) : Key) = Sum.inr ("left" : Str)) := fun e => sl (Sum.inr.inj e)
theorem knl : ¬ ((Sum.inr ("number" : Str) : Key) = Sum.inr ("left" : Str)) := fun e => nl (Sum.inr.inj e)
def dealK (a n : Int) (l : Addr) : List (Key × V) := [(.inr "seed", .int a), (.inr "number", .int n), (.inr "left", .ref l)]
theorem deal_seed (a n : Int) (l : Addr) : valV (dealK a n l) (Sum.inr "seed" : Key) = some (.int a) := valV_pos rfl
theorem deal_number (a n : Int) (l : Addr) : valV (dealK a n l) (Sum.inr "number" : Key) = some (.int n) := by
  unfold dealK
  rw [valV_neg ksn, valV_pos rfl]
theorem deal_left (a n : Int) (l : Addr) : valV (dealK a n l) (Sum.inr "left" : Key) = some (.ref l) := by
  unfold dealK
  rw [valV_neg ksl, valV_neg knl, valV_pos rfl]
theorem put_seed (a n b : Int) (l : Addr) : putK (dealK a n l) (Sum.inr "seed" : Key) (.int b) = dealK b n l := by
  simp [putK, dealK, sn, sl, nl, Ne.symm sn, Ne.symm sl, Ne.symm nl]
theorem put_number (a n b : Int) (l : Addr) : putK (dealK a n l) (Sum.inr "number" : Key) (.int b) = dealK a b l := by
  simp [putK, dealK, sn, sl, nl, Ne.symm sn, Ne.symm sl, Ne.symm nl]
theorem merge_deal (a n : Int) (l : Addr) : mergeK [] [((.inr "seed", .int a) : Key × V), (.inr "number", .int n), (.inr "left", .ref l)] = dealK a n l := by
  simp [mergeK, putK, dealK, sn, sl, nl, Ne.symm sn, Ne.symm sl, Ne.symm nl]
/-- a deal stands at d, its list at l -/
structure DealC (H : Hp) (d l : Addr) (a n : Int) (ms : List Int) : Prop where
  dc : H d = some (.dK (dealK a n l))
  lc : H l = some (.lst (ms.map V.int))
  a0 : 0 ≤ a
  a1 : a < 2147483647
  n0 : 0 ≤ n
  m0 : ∀ m ∈ ms, 0 ≤ m
  len : ms.length ≤ 63
def DealAt (H : Hp) (d l : Addr) : Prop := ∃ a n ms, DealC H d l a n ms
theorem DealC.ne {H : Hp} {d l : Addr} {a n : Int} {ms : List Int} (D : DealC H d l a n ms) : d ≠ l := ne_of D.dc D.lc (by intro z; cases z)
theorem getK {H : Hp} {d : Addr} {kvs : List (Key × V)} {x : Str} {v : V} (h : H d = some (.dK kvs)) (e : valV kvs (Sum.inr x : Key) = some v) : DGet H d (.str x) (some v) := by
  have := DGet.k (k := (Sum.inr x : Key)) h
  rw [e] at this
  exact this
/-- all else as it was -/
def Else (d l : Addr) (H H' : Hp) : Prop := ∀ b o, H b = some o → b ≠ d → b ≠ l → H' b = some o
theorem Else.refl (d l : Addr) (H : Hp) : Else d l H H := fun _ _ e _ _ => e
theorem Else.trans {d l : Addr} {H H1 H2 : Hp} (x : Else d l H H1) (y : Else d l H1 H2) : Else d l H H2 := fun b o e h1 h2 => y b o (x b o e h1 h2) h1 h2
def spDraw : Sp := fun vs H Q _ => ∃ (d l : Addr) (many : Int), vs = [.ref d, .int many] ∧ DealAt H d l ∧ 0 < many ∧ many < 2 ^ 100 ∧
  ∀ (r : Int) (H' : Hp), 0 ≤ r → r < many → DealAt H' d l → Else d l H H' → Q (.int r) H'
/-- the built-ins' names are nobody's own -/
structure Blt (mg : Str → Option Value) : Prop where
  len : mg "len" = none
  max : mg "max" = none
  list : mg "list" = none
  rev : mg "reversed" = none
section
variable {P : Program} {w : World} {K : PySem.W.Frag} {mg : Str → Option Value} {base : Heap}
theorem scDraw : FnScope ["_law_deal_here", "_law_many", "_law_number", "_law_one", "_law_other"] ["_law_deal_here", "_law_many"] (defScope sDraw) := ⟨rfl, rfl, rfl, by decide +kernel, rfl, by decide +kernel, by decide +kernel⟩
theorem ok_draw {f : Addr} {fd : FuncData} (F : Fun K "_law_draw" "_law_draw" sDraw f fd) (T : Blt mg) : FnOk P w K mg base CX0 1 f fd ["_law_deal_here", "_law_many"] spDraw := by
  refine F.ok scDraw (fun vs H Q E h => ?_) (fun cdv A outer s H vs Q E hr h => ?_)
  · obtain ⟨d, l, many, rfl, _⟩ := h
    rfl
  · obtain ⟨d, l, many, rfl, ⟨a, n, ms, D⟩, hm0, hm1, k⟩ := h
    have hu := hu_of hr
    refine ⟨_, pss_cons (ps_while PassesOwn.never
        (pw_and (pt_cmpR op_eq (pe_dget hu (pv 0) pe_str (fun _ _ => rfl)) pe_int (nomark _))
          (pw_and1 (pt_cmpR op_gt (pe_callB call_len_seq (by rfl) T.len PySem.boot_len (pa_cons (pe_dget hu (pv 0) pe_str (fun _ _ => rfl)) pa_nil)) pe_int (nomark _)))).pt
        (pss_one (ps_dput hu (pv 0) pe_str (pe_bm0 PySem.F.plainAttrs_list PySem.F.slot_list_pop PySem.F.type_list_pop mt_pop (pe_dget hu (pv 0) pe_str (fun _ _ => rfl))) rfl)))
      (pss_cons (ps_set (i := 2) scDraw.nd rfl (Or.inl rfl) (pe_dget hu (pv 0) pe_str (fun _ _ => rfl)))
      (pss_cons (ps_if (pt_cmpR op_gt (pv 2) pe_int (nomark _))
        (pss_cons (ps_dput hu (pv 0) pe_str (pe_op op_fdivB (pv 2) (pv 1)) rfl) (pss_one (ps_ret (pe_op op_mod (pv 2) (pv 1))))) pss_nil)
      (pss_cons (ps_set (i := 3) scDraw.nd rfl (Or.inl rfl) (pe_op op_mod (pe_op op_add (pe_op op_mul (pe_dget hu (pv 0) pe_str (fun _ _ => rfl)) pe_int) pe_int) pe_int))
      (pss_cons (ps_dput hu (pv 0) pe_str (pe_op op_mod (pe_op op_add (pe_op op_mul (pv 3) pe_int) pe_int) pe_int) rfl)
      (pss_cons (ps_set (i := 4) scDraw.nd rfl (Or.inl rfl) (pe_op op_mod (pe_op op_mul (pe_dget hu (pv 0) pe_str (fun _ _ => rfl)) (pe_dget hu (pv 0) pe_str (fun _ _ => rfl))) pe_int))
      (pss_one (ps_ret (pe_op op_mod (pe_op op_add (pe_op op_mul (pe_op op_mod (pe_op op_mul (pv 3) (pv 3)) pe_int) pe_int) (pv 4)) (pv 1))))))))), ?_⟩
    -- the while
    refine ⟨fun m σ H1 => ∃ a n ms, m = ms.length ∧ σ = [some (.ref d), some (.int many), none, none, none] ∧ DealC H1 d l a n ms ∧ Else d l H H1, ⟨_, a, n, ms, rfl, rfl, D, Else.refl d l H⟩, ?_⟩
    rintro m σ H1 ⟨a, n, ms, rfl, rfl, D, kp⟩
    refine ⟨_, rfl, d, _, rfl, getK D.dc (deal_number ..), rfl, _, rfl, ?_⟩
    refine ite2 (fun _ => ⟨_, rfl, d, _, rfl, getK D.dc (deal_left ..), l, _, rfl, .inl (SqL.of D.lc), _, _, rfl, rfl, _, rfl, ite2 (fun hl => ?body) (fun _ => ?ex1)⟩) (fun _ => ?ex2)
    case body =>
      have hl' : 0 < ms.length := by simpa using hl
      obtain ⟨y, hy⟩ : ∃ y, ms[ms.length - 1]? = some y := ⟨_, List.getElem?_eq_getElem (by omega)⟩
      refine ⟨fun σ' H' => σ' = [some (.ref d), some (.int many), none, none, none] ∧ DealC H' d l a y ms.dropLast ∧ Else d l H H', fun σ' H' ⟨e1, e2, e3⟩ => ⟨_, by rw [List.length_dropLast]; omega, a, y, _, rfl, e1, e2, e3⟩, ?_⟩
      have hd1 : (upd H1 l (.lst (ms.map V.int).dropLast)) d = some (.dK (dealK a n l)) := by rw [upd_ne D.ne]; exact D.dc
      refine ⟨_, rfl, d, _, rfl, getK D.dc (deal_left ..), .inl ⟨rfl, _, SqL.of D.lc⟩, l, _, .int y, rfl, rfl, D.lc, (by rw [List.length_map, List.getElem?_map, hy]; rfl), _, rfl, d, _, rfl, DPut.k (k := (Sum.inr "number" : Key)) hd1 (by show 3 < sizeLine; decide), ?_⟩
      rw [put_number]
      refine ⟨rfl, ⟨upd_same, ?_, D.a0, D.a1, D.m0 y (List.mem_of_getElem? hy), fun m hm => D.m0 m (List.dropLast_subset _ hm), by rw [List.length_dropLast]; have := D.len; omega⟩, fun b o e h1 h2 => ?_⟩
      · rw [upd_ne D.ne.symm, upd_same, List.map_dropLast]
      · rw [upd_ne h1, upd_ne h2]; exact kp b o e h1 h2
    all_goals
      refine ⟨_, rfl, d, _, rfl, getK D.dc (deal_number ..), _, rfl, _, _, rfl, rfl, _, rfl, ?_⟩
      refine ite2 (fun hp => ?_) (fun hp => ?_)
      · have hp' : 0 < n := by simpa using hp
        refine ⟨_, rfl, _, rfl, _, _, rfl, rfl, ⟨hm0, Int.lt_trans hm1 (by decide)⟩, _, rfl, d, _, rfl, DPut.k (k := (Sum.inr "number" : Key)) D.dc (by show 3 < sizeLine; decide), ?_⟩
        rw [put_number]
        refine ⟨_, rfl, _, rfl, _, _, rfl, rfl, hm0, ?_⟩
        refine k _ _ (Int.emod_nonneg _ (by omega)) (Int.emod_lt_of_pos _ hm0) ⟨a, n / many, ms, upd_same, by rw [upd_ne D.ne.symm]; exact D.lc, D.a0, D.a1, Int.ediv_nonneg D.n0 (by omega), D.m0, D.len⟩ fun b o e h1 h2 => ?_
        rw [upd_ne h1]; exact kp b o e h1 h2
      · refine ⟨_, rfl, d, _, rfl, getK D.dc (deal_seed ..), _, _, rfl, rfl, .inr ⟨by decide, by decide⟩, _, _, rfl, rfl, _, _, rfl, rfl, (by show (0 : Int) < 2147483647; decide), ?_⟩
        have o0 : 0 ≤ (a * 48271 + 7919) % 2147483647 := Int.emod_nonneg _ (by decide)
        have o1 : (a * 48271 + 7919) % 2147483647 < 2147483647 := Int.emod_lt_of_pos _ (by decide)
        refine ⟨_, rfl, _, _, rfl, rfl, .inr ⟨by decide, by decide⟩, _, _, rfl, rfl, _, _, rfl, rfl, (by show (0 : Int) < 2147483399; decide), _, rfl, d, _, rfl, DPut.k (k := (Sum.inr "seed" : Key)) D.dc (by show 3 < sizeLine; decide), ?_⟩
        rw [put_seed]
        have b0 : 0 ≤ ((a * 48271 + 7919) % 2147483647 * 40692 + 104729) % 2147483399 := Int.emod_nonneg _ (by decide)
        have b1 : ((a * 48271 + 7919) % 2147483647 * 40692 + 104729) % 2147483399 < 2147483399 := Int.emod_lt_of_pos _ (by decide)
        have hd2 : (upd H1 d (.dK (dealK (((a * 48271 + 7919) % 2147483647 * 40692 + 104729) % 2147483399) n l))) d = some (.dK (dealK (((a * 48271 + 7919) % 2147483647 * 40692 + 104729) % 2147483399) n l)) := upd_same
        refine ⟨_, rfl, d, _, rfl, getK hd2 (deal_seed ..), _, rfl, d, _, rfl, getK hd2 (deal_seed ..), _, _, rfl, rfl, .inl ⟨by omega, by omega⟩, _, _, rfl, rfl, (by show (0 : Int) < 2147483563; decide), ?_⟩
        refine ⟨_, rfl, _, rfl, _, _, rfl, rfl, .inl ⟨by omega, by omega⟩, _, _, rfl, rfl, (by show (0 : Int) < 2147483629; decide), _, _, rfl, rfl, .inr ⟨by decide, by decide⟩, _, rfl, _, _, rfl, rfl, _, rfl, _, _, rfl, rfl, hm0, ?_⟩
        refine k _ _ (Int.emod_nonneg _ (by omega)) (Int.emod_lt_of_pos _ hm0) ⟨_, n, ms, hd2, by rw [upd_ne D.ne.symm]; exact D.lc, b0, by omega, D.n0, D.m0, D.len⟩ fun c o e h1 h2 => ?_
        rw [upd_ne h1]; exact kp c o e h1 h2
/-! ### dealing -/
theorem cut_ints (ns : List Int) (lo hi : Option Int) : ∃ ms : List Int, cutV (ns.map V.int) lo hi = ms.map V.int ∧ ms.length ≤ ns.length := by
  refine ⟨(ns.drop (HT.sIx ns.length 0 lo)).take (HT.sIx ns.length ns.length hi - HT.sIx ns.length 0 lo), ?_, ?_⟩
  · unfold cutV
    rw [List.length_map, List.map_take, List.map_drop]
  · rw [List.length_take, List.length_drop]; omega
def spDeal (K : PySem.W.Frag) : Sp := fun vs H Q _ => ∃ (a : Addr) (ns : List Int) (b : Int), vs = [.ref a, .int b] ∧ SqL K H a (ns.map V.int) ∧ ns.length ≤ 63 ∧ 0 ≤ b ∧ b ≤ 1000 ∧
  ∀ (d l : Addr) (H' : Hp), H d = none → H l = none → DealAt H' d l → Same H H' → Q (.ref d) H'
theorem scDeal : FnScope ["_law_script", "_law_base", "_law_some", "_law_number", "_law_one"] ["_law_script", "_law_base"] (defScope sDeal) := ⟨rfl, rfl, rfl, by decide +kernel, rfl, by decide +kernel, by decide +kernel⟩
theorem ok_deal {f : Addr} {fd : FuncData} (F : Fun K "_law_deal" "_law_deal" sDeal f fd) (T : Blt mg) : FnOk P w K mg base CX0 1 f fd ["_law_script", "_law_base"] (spDeal K) := by
  refine F.ok scDeal (fun vs H Q E h => ?_) (fun cdv A outer s H vs Q E hr h => ?_)
  · obtain ⟨a, ns, b, rfl, _⟩ := h
    rfl
  · obtain ⟨a, ns, b, rfl, hS, hn, hb0, hb1, k⟩ := h
    have hu := hu_of hr
    refine ⟨_, pss_cons (ps_comp (i := 2) (ys := []) (ix := []) (compOk_of (osc := defScope sDeal) (N := ["_law_script", "_law_base", "_law_some", "_law_number", "_law_one"]) rfl rfl (by decide +kernel)) rfl scDeal.nd rfl rfl
        (pi_list (pe_slice sl_list (pv 0) (po_some (pv 1)) (po_some pe_int)))
        (fun z => pifs_nil) (fun z => pe_callB (call_max2 rfl) (by rfl) T.max PyProof.Rows.boot_max (pa_cons (pv 0) (pa_cons (pe_op op_sub pe_int (pv 0)) pa_nil))))
      (pss_cons (ps_set (i := 3) scDeal.nd rfl (Or.inl rfl) (pe_op op_add pe_int (pv 1)))
      (pss_cons (ps_for PassesOwn.never rfl (pi_list (pv 2)) (pg_name (i := 4) scDeal.nd rfl (Or.inl rfl))
        (pss_one (ps_set (i := 3) scDeal.nd rfl (Or.inl rfl) (pe_op op_mod (pe_op op_add (pe_op op_mul (pv 3) pe_int) (pe_op op_mod (pv 4) pe_int)) pe_int))))
      (pss_one (ps_ret (pe_disp (pps_cons pe_str (pv 3) (pps_cons pe_str pe_int (pps_cons pe_str
        (pe_listrev rfl rfl T.list rfl T.rev (pe_comp (ys := []) (ix := []) (compOk_of (osc := defScope sDeal) (N := ["_law_script", "_law_base", "_law_some", "_law_number", "_law_one"]) rfl rfl (by decide +kernel)) rfl (pi_list (pv 2))
          (fun z => pifs_one (pt_cmpR op_ge (pv 0) (pe_op op_pow pe_int pe_int) (nomark _))) (fun z => pv 0))) pps_nil))) rfl rfl (by simp) (by decide)))))), ?_⟩
    -- the script's part
    refine ⟨_, rfl, _, rfl, _, rfl, _, rfl, a, _, rfl, hS, fun p hp => ⟨p, rfl, ⟨_, SqL.of upd_same⟩, ?_⟩⟩
    obtain ⟨cs, ec, lc⟩ := cut_ints ns (some b) (some 63)
    rw [ec]
    refine compw_list (xs := cs.map V.int) (fun D i ys H' => ∃ ms : List Int, ys = ms.map V.int ∧ (∀ m ∈ ms, 0 ≤ m) ∧ ms.length = i ∧ H' D = some (.lst ys) ∧ D ≠ p ∧ H D = none ∧ ∀ b, b ≠ D → H' b = upd H p (.lst (cs.map V.int)) b) ?_ ?_ ?_ ?_
    · intro D hD
      have hne : D ≠ p := by rintro rfl; rw [upd_same] at hD; cases hD
      rw [upd_ne hne] at hD
      exact ⟨[], rfl, by simp, rfl, upd_same, hne, hD, fun b hb => upd_ne hb⟩
    · rintro D i ys H' hi ⟨ms, rfl, h0, hlen, hD, hne, hHn, hall⟩
      rw [List.length_map] at hi
      exact ⟨SqL.of (by rw [hall p hne.symm]; exact upd_same), hD, by rw [List.length_map]; exact small1000 (by omega)⟩
    · rintro D i x ys H' hx ⟨ms, rfl, h0, hlen, hD, hne, hHn, hall⟩ z
      obtain ⟨v, rfl⟩ : ∃ v, x = V.int v := by
        rw [List.getElem?_map] at hx
        cases e : cs[i]? with
        | none => rw [e] at hx; cases hx
        | some v => rw [e] at hx; exact ⟨v, (Option.some.inj hx).symm⟩
      refine noIf ?_
      refine ⟨_, rfl, _, rfl, _, _, rfl, rfl, _, _, rfl, ?_⟩
      refine ⟨hD, ms ++ [if 0 - v > v then 0 - v else v], by rw [List.map_append]; rfl, fun m hm => ?_, by rw [List.length_append, hlen]; rfl, upd_same, hne, hHn, fun b hb => by rw [upd_ne hb]; exact hall b hb⟩
      rcases List.mem_append.mp hm with q | q
      · exact h0 m q
      · rw [List.mem_singleton.mp q]
        by_cases hv : 0 - v > v
        · rw [if_pos hv]; omega
        · rw [if_neg hv]; omega
    · rintro D ys H' ⟨ms, rfl, h0, hlen, hD, hne, hHn, hall⟩
      rw [List.length_map] at hlen
      have sH : Same H H' := fun b o e => by
        rw [hall b (ne_of_none e hHn), upd_ne (ne_of_none e hp)]; exact e
      refine ⟨_, rfl, _, _, rfl, rfl, ?_⟩
      refine ⟨_, rfl, D, rfl, ⟨_, SqL.of hD⟩, for_list (K := K) (a := D) (xs := ms.map V.int) (fun i σ' H2 => ∃ (q : Int) (v : Option V), σ' = [some (.ref a), some (.int b), some (.ref D), some (.int q), v] ∧ H2 = H' ∧ 0 ≤ q ∧ q < 2147483647)
        ⟨7919 + b, none, rfl, rfl, by omega, by omega⟩ (fun i σ H2 _ ⟨_, _, _, e, _⟩ => by rw [e]; exact SqL.of hD) ?_ ?_⟩
      · rintro i y σ' H2 hi ⟨q, v, rfl, rfl, q0, q1⟩
        obtain ⟨m, rfl⟩ : ∃ v, y = V.int v := by
          rw [List.getElem?_map] at hi
          cases e : ms[i]? with
          | none => rw [e] at hi; cases hi
          | some v => rw [e] at hi; exact ⟨v, (Option.some.inj hi).symm⟩
        refine ⟨_, rfl, _, _, rfl, rfl, .inr ⟨by decide, by decide⟩, _, rfl, _, _, rfl, rfl, (by show (0 : Int) < 2147483629; decide), _, _, rfl, rfl, _, _, rfl, rfl, (by show (0 : Int) < 2147483647; decide), ?_⟩
        exact ⟨_, _, rfl, rfl, Int.emod_nonneg _ (by decide), Int.emod_lt_of_pos _ (by decide)⟩
      · rintro σ' H2 ⟨q, v, rfl, rfl, q0, q1⟩
        intro dd hdd
        have nDd : D ≠ dd := ne_of_none hD hdd
        have hD2 : (upd H2 dd (.dK [])) D = some (.lst (ms.map V.int)) := by rw [upd_ne nDd]; exact hD
        refine ⟨_, rfl, _, rfl, D, rfl, ⟨_, SqL.of hD2⟩, ?_⟩
        refine compw_list (xs := ms.map V.int) (fun D' i ys H3 => ∃ ks : List Int, ys = ks.map V.int ∧ (∀ k ∈ ks, 0 ≤ k) ∧ ks.length ≤ i ∧ H3 D' = some (.lst ys) ∧ D' ≠ D ∧ D' ≠ dd ∧ H2 D' = none ∧ ∀ b, b ≠ D' → H3 b = upd H2 dd (.dK []) b) ?_ ?_ ?_ ?_
        · intro D' hD'
          have n1 : D' ≠ dd := by rintro rfl; rw [upd_same] at hD'; cases hD'
          rw [upd_ne n1] at hD'
          exact ⟨[], rfl, by simp, Nat.le_refl _, upd_same, (ne_of_none hD hD').symm, n1, hD', fun b hb => upd_ne hb⟩
        · rintro D' i ys H3 hi ⟨ks, rfl, k0, klen, hD', n1, n2, hn', hall'⟩
          rw [List.length_map] at hi
          exact ⟨SqL.of (by rw [hall' D n1.symm]; exact hD2), hD', by rw [List.length_map]; exact small1000 (by omega)⟩
        · rintro D' i x ys H3 hx ⟨ks, rfl, k0, klen, hD', n1, n2, hn', hall'⟩ z
          obtain ⟨m, rfl, hm⟩ : ∃ v, x = V.int v ∧ v ∈ ms := by
            rw [List.getElem?_map] at hx
            cases e : ms[i]? with
            | none => rw [e] at hx; cases hx
            | some v => rw [e] at hx; exact ⟨v, (Option.some.inj hx).symm, List.mem_of_getElem? e⟩
          refine ⟨_, rfl, _, _, rfl, rfl, ⟨by decide, by decide, by decide⟩, _, _, rfl, rfl, _, rfl, ?_⟩
          refine ite2 (fun _ => ?_) (fun _ => ?_)
          · refine ⟨_, rfl, hD', ks ++ [m], by rw [List.map_append]; rfl, fun k' hk' => ?_, by rw [List.length_append]; exact Nat.add_le_add_right klen 1, upd_same, n1, n2, hn', fun b hb => by rw [upd_ne hb]; exact hall' b hb⟩
            rcases List.mem_append.mp hk' with r | r
            · exact k0 k' r
            · rw [List.mem_singleton.mp r]; exact h0 m hm
          · exact ⟨ks, rfl, k0, Nat.le_succ_of_le klen, hD', n1, n2, hn', hall'⟩
        · rintro D' ys H3 ⟨ks, rfl, k0, klen, hD', n1, n2, hn', hall'⟩
          rw [List.length_map] at klen
          refine ⟨D', _, rfl, SqL.of hD', fun l hl => ?_⟩
          have hdd3 : H3 dd = some (.dK []) := by rw [hall' dd n2.symm]; exact upd_same
          have nld : l ≠ dd := (ne_of_none hdd3 hl).symm
          have n3 : l ≠ D' := (ne_of_none hD' hl).symm
          have hl2 : H2 l = none := by rw [← upd_ne (H := H2) (o := .dK []) nld, ← hall' l n3]; exact hl
          refine ⟨by rw [upd_ne nld.symm]; exact hdd3, [(.inr "seed", .int q), (.inr "number", .int 0), (.inr "left", .ref l)], rfl, (by show 3 ≤ 15; decide), ?_⟩
          rw [merge_deal]
          refine k dd l _ (sH.free hdd) (sH.free hl2) ⟨q, 0, ks.reverse, upd_same, ?_, q0, q1, Int.le_refl _, fun m hm => k0 m (List.mem_reverse.mp hm), by rw [List.length_reverse]; omega⟩ fun b o e => ?_
          · rw [upd_ne nld, upd_same, List.map_reverse]
          · have e2 := sH b o e
            rw [upd_ne (ne_of_none e2 hdd), upd_ne (ne_of_none e2 hl2), hall' b (ne_of_none e2 hn'), upd_ne (ne_of_none e2 hdd)]
            exact e2
end
end My

set_option Elab.async false
set_option linter.all false
set_option maxRecDepth 100000
set_option maxHeartbeats 4000000
namespace My
open PySem L2
abbrev sNames : Stmt := top 19
abbrev sWord : Stmt := top 20
abbrev sTerm : Stmt := top 21
abbrev sRound : Stmt := top 22
abbrev sStat : Stmt := top 23
abbrev sBody : Stmt := top 24
abbrev sProg : Stmt := top 25
abbrev sLean : Stmt := top 26
abbrev sLaw : Stmt := top 27
def kept : List Str := ["cell", "row", "def", "main", "set", "put", "while", "if", "else", "call", "end", "at"]
def letters : Str := "abcdefghijklmnopqrstuvwxyz"
structure Con7 (mg : Str → Option Value) : Prop where
  range : mg "range" = none
  int : mg "int" = none
  tuple : mg "tuple" = none
def Word (a : Int) : Prop := 0 ≤ a ∧ a < 4294967296
def spWord : Sp := fun vs H Q _ => ∃ d l : Addr, vs = [.ref d] ∧ DealAt H d l ∧ ∀ (r : Int) (H' : Hp), Word r → DealAt H' d l → Else d l H H' → Q (.int r) H'
theorem DealAt.lay {H : Hp} {d l p : Addr} {o : HO} (D : DealAt H d l) (hp : H p = none) : DealAt (upd H p o) d l := by
  obtain ⟨a, n, ms, D⟩ := D
  exact ⟨a, n, ms, by rw [upd_ne (ne_of_none D.dc hp)]; exact D.dc, by rw [upd_ne (ne_of_none D.lc hp)]; exact D.lc, D.a0, D.a1, D.n0, D.m0, D.len⟩
theorem Else.lay {H : Hp} {d l p : Addr} {o : HO} (hp : H p = none) : Else d l H (upd H p o) := fun b u e _ _ => by rw [upd_ne (ne_of_none e hp)]; exact e
theorem Else.of {d l : Addr} {H H' : Hp} (s : Same H H') : Else d l H H' := fun b o e _ _ => s b o e
theorem Else.at {d l : Addr} {H H' : Hp} {p : Addr} {xs : List V} (e : Else d l H H') (D : DealAt H d l) (h : H p = some (.lst xs)) (hl : p ≠ l) : H' p = some (.lst xs) := by
  obtain ⟨a, n, ms, D⟩ := D
  exact e p _ h (ne_of h D.dc (by intro z; cases z)) hl
theorem mem_map_str {ys : List Str} {v : V} (h : v ∈ ys.map V.str) : ∃ y, v = .str y ∧ y ∈ ys := by
  obtain ⟨y, hy, e⟩ := List.mem_map.mp h
  exact ⟨y, e.symm, hy⟩
theorem str_not_ints {ys : List Str} {ms : List Int} (h : ys.map V.str = ms.map V.int) : ys = [] := by
  cases ys with
  | nil => rfl
  | cons y r =>
    cases ms with
    | nil => cases h
    | cons m q => cases h
theorem DealAt.apart {H : Hp} {d l p : Addr} {ys : List Str} (D : DealAt H d l) (h : H p = some (.lst (ys.map V.str))) (hn : ys ≠ []) : p ≠ l := by
  obtain ⟨a, n, ms, D⟩ := D
  rintro rfl
  have q := D.lc
  rw [h] at q
  exact hn (str_not_ints (HO.lst.inj (Option.some.inj q)))
theorem sum_le {m : Nat} : ∀ {zs : List Str}, (∀ z ∈ zs, z.length ≤ m) → (zs.map (·.length)).sum ≤ zs.length * m
  | [], _ => by simp
  | z :: r, h => by
    have h1 := h z List.mem_cons_self
    have h2 := sum_le (zs := r) fun y hy => h y (List.mem_cons_of_mem _ hy)
    rw [List.map_cons, List.sum_cons, List.length_cons, Nat.succ_mul]
    omega
theorem join_len {m : Nat} {zs : List Str} (h : ∀ z ∈ zs, z.length ≤ m) : (Txt.join "" zs).length ≤ zs.length * m := by
  show (Builtin.Str.glued "" zs).length ≤ _
  rw [StrLaws.glued_eq_join]
  have h1 := StrLaws.join_length_le "" zs
  have h2 := sum_le h
  have h3 : ("" : Str).length = 0 := by decide +kernel
  rw [h3] at h1
  omega
theorem DealAt.put {H : Hp} {d l p : Addr} {o : HO} (D : DealAt H d l) (n1 : p ≠ d) (n2 : p ≠ l) : DealAt (upd H p o) d l := by
  obtain ⟨a, n, ms, D⟩ := D
  exact ⟨a, n, ms, by rw [upd_ne n1.symm]; exact D.dc, by rw [upd_ne n2.symm]; exact D.lc, D.a0, D.a1, D.n0, D.m0, D.len⟩
theorem DealAt.fresh {H : Hp} {d l p : Addr} (D : DealAt H d l) (hp : H p = none) : p ≠ d ∧ p ≠ l := by
  obtain ⟨a, n, ms, D⟩ := D
  exact ⟨(ne_of_none D.dc hp).symm, (ne_of_none D.lc hp).symm⟩
/-- texts, one a turn, by a def that draws -/
theorem comp_texts {d l : Addr} {ix : List Nat} {te : CompAt → TE} {σ : St} {Q : VK} {H1 : Hp} {n m : Nat} (hn : n ≤ 100) (D : DealAt H1 d l)
    (hs : ∀ (H2 : Hp) (z : CompAt) (i : Nat) (Q' : VK), DealAt H2 d l → Else d l H1 H2 → (∀ (y : Str) (H3 : Hp), y.length ≤ m → DealAt H3 d l → Else d l H2 H3 → Q' (.str y) H3) → te z ((inSt ix σ).set 0 (some (.int (0 + i)))) H2 Q')
    (hd : ∀ (D' : Addr) (zs : List Str) (H2 : Hp), zs.length = n → (∀ z ∈ zs, z.length ≤ m) → H2 D' = some (.lst (zs.map V.str)) → DealAt H2 d l → Else d l H1 H2 → Q (.ref D') H2) :
    CompW ix (Itr 0 n) (fun _ => tNoIf) te σ Q H1 := by
  refine compw_range (fun D' i ys H2 => ∃ zs : List Str, ys = zs.map V.str ∧ zs.length = i ∧ (∀ z ∈ zs, z.length ≤ m) ∧ H2 D' = some (.lst ys) ∧ DealAt H2 d l ∧ Else d l H1 H2 ∧ H1 D' = none ∧ D' ≠ d ∧ D' ≠ l) ?_ ?_ ?_ ?_
  · intro D' hD'
    obtain ⟨n1, n2⟩ := D.fresh hD'
    exact ⟨[], rfl, rfl, by simp, upd_same, D.put n1 n2, Else.lay hD', hD', n1, n2⟩
  · rintro D' i ys H2 hi ⟨zs, rfl, hl, _, hD', _⟩
    exact ⟨hD', by rw [List.length_map]; exact small1000 (by omega)⟩
  · rintro D' i ys H2 hi ⟨zs, rfl, hl, hz, hD', D2, e2, hn', n1, n2⟩ z
    refine noIf (hs H2 z i _ D2 e2 fun y H3 hy D3 e3 => ⟨e3 D' _ hD' n1 n2, zs ++ [y], by rw [List.map_append]; rfl, by rw [List.length_append, hl]; rfl, fun x hx => ?_, upd_same, D3.put n1 n2, fun b o eb h1 h2 => ?_, hn', n1, n2⟩)
    · rcases List.mem_append.mp hx with q | q
      · exact hz x q
      · rw [List.mem_singleton.mp q]; exact hy
    · rw [upd_ne (ne_of_none eb hn')]; exact e3 b o (e2 b o eb h1 h2) h1 h2
  · rintro D' ys H2 ⟨zs, rfl, hl, hz, hD', D2, e2, _⟩
    exact hd D' zs H2 hl hz hD' D2 e2
theorem DealAt.keep {H H' : Hp} {d l fl : Addr} (D : DealAt H d l) (k : ∀ b o, H b = some o → b ≠ fl → H' b = some o) (n1 : fl ≠ d) (n2 : fl ≠ l) : DealAt H' d l := by
  obtain ⟨a, n, ms, D⟩ := D
  exact ⟨a, n, ms, k _ _ D.dc n1.symm, k _ _ D.lc n2.symm, D.a0, D.a1, D.n0, D.m0, D.len⟩
theorem flat_strs (ys : List Str) : (ys.map V.str).all flatV = true := by
  rw [List.all_eq_true]
  intro v hv
  obtain ⟨y, rfl, _⟩ := mem_map_str hv
  rfl
theorem mulq (b : Bool) : MulOk "q" (if b then 1 else 0) := by
  cases b
  · exact ⟨by decide, fun h => absurd (by decide) h, fun h => absurd (by decide) h⟩
  · exact ⟨by decide, fun _ h => absurd h (by decide), fun _ h => absurd h (by decide)⟩
theorem lenq (b : Bool) : (Txt.mul "q" (if b then 1 else 0)).length ≤ 1 := by
  cases b <;> decide +kernel
theorem str_app (x y : Str) : (x ++ y).length = x.length + y.length := Str.length_append x y
def spare : List Str := ["cells", "de", "mains", "setx", "ends", "atx", "i", "calls"]
theorem spare_len : ∀ y ∈ spare, y.length ≤ 30 := by decide +kernel
section
variable {P : Program} {w : World} {K : PySem.W.Frag} {mg : Str → Option Value} {base : Heap}
abbrev HDraw (P : Program) (w : World) (K : PySem.W.Frag) (mg : Str → Option Value) (base : Heap) : Prop := Has P w K mg base "_law_draw" 1 ["_law_deal_here", "_law_many"] spDraw
theorem scWord : FnScope ["_law_deal_here", "_law_form"] ["_law_deal_here"] (defScope sWord) := ⟨rfl, rfl, rfl, by decide +kernel, rfl, by decide +kernel, by decide +kernel⟩
theorem ok_word {f : Addr} {fd : FuncData} (F : Fun K "_law_word" "_law_word" sWord f fd) (hD : HDraw P w K mg base) : FnOk P w K mg base CX0 2 f fd ["_law_deal_here"] spWord := by
  refine F.ok scWord (fun vs H Q E h => ?_) (fun cdv A outer s H vs Q E hr h => ?_)
  · obtain ⟨d, l, rfl, _⟩ := h
    rfl
  · obtain ⟨d, l, rfl, D, k⟩ := h
    refine ⟨_, pss_cons (ps_set (i := 1) scWord.nd rfl (Or.inl rfl) (pe_has hD hr (by rfl) (pa_cons (pv 0) (pa_cons pe_int pa_nil))))
      (pss_cons (ps_if (pt_cmpR op_lt (pv 1) pe_int (nomark _)) (pss_one (ps_ret (pe_has hD hr (by rfl) (pa_cons (pv 0) (pa_cons (pe_ix ix_list (pe_lst (pa_cons pe_int (pa_cons pe_int (pa_cons pe_int (pa_cons pe_int pa_nil))))) (pv 1) (fun _ _ => rfl)) pa_nil))))) pss_nil)
      (pss_one (ps_ret (pe_ix ix_list (pe_lst (pa_cons (pe_has hD hr (by rfl) (pa_cons (pv 0) (pa_cons pe_int pa_nil))) (pa_cons (pe_op op_sub pe_int (pe_has hD hr (by rfl) (pa_cons (pv 0) (pa_cons pe_int pa_nil)))) pa_nil))) (pe_op op_sub (pv 1) pe_int) (fun _ _ => rfl))))), ?_⟩
    refine ⟨_, rfl, d, l, 6, rfl, D, by decide, by decide, fun r H1 r0 r1 D1 e1 => ?_⟩
    refine ⟨_, rfl, _, _, rfl, rfl, _, rfl, ?_⟩
    refine ite2 (fun g => ?_) (fun g => ?_)
    · have g' : r < 4 := of_decide_eq_true g
      refine ⟨_, rfl, by decide, fun p hp => ⟨_, rfl, ?_⟩⟩
      obtain ⟨v, ev, hv⟩ := atI_in (xs := [V.int 2, V.int 5, V.int 5, V.int 10]) r0 (by simpa using g')
      obtain ⟨m, rfl, m0, m1⟩ : ∃ m, v = V.int m ∧ 0 < m ∧ m ≤ 10 := by
        simp only [List.mem_cons, List.not_mem_nil, or_false] at hv
        rcases hv with rfl | rfl | rfl | rfl
        · exact ⟨_, rfl, by decide, by decide⟩
        · exact ⟨_, rfl, by decide, by decide⟩
        · exact ⟨_, rfl, by decide, by decide⟩
        · exact ⟨_, rfl, by decide, by decide⟩
      refine ⟨p, _, _, _, rfl, rfl, SqL.of upd_same, ev, d, l, m, rfl, D1.lay hp, m0, by omega, fun r' H2 r0' r1' D2 e2 => ?_⟩
      exact k r' H2 ⟨r0', by omega⟩ D2 (e1.trans ((Else.lay hp).trans e2))
    · have g' : ¬ r < 4 := fun z => g (decide_eq_true z)
      refine ⟨_, rfl, d, l, 4294967296, rfl, D1, by decide, by decide, fun r2 H2 r20 r21 D2 e2 => ?_⟩
      refine ⟨_, rfl, d, l, 3, rfl, D2, by decide, by decide, fun r3 H3 r30 r31 D3 e3 => ?_⟩
      refine ⟨_, _, rfl, rfl, (by show 2 ≤ sizeLine; decide), fun p hp => ⟨_, rfl, _, _, rfl, rfl, ?_⟩⟩
      obtain ⟨v, ev, hv⟩ := atI_in (xs := [V.int r2, V.int (4294967295 - r3)]) (i := r - 4) (by omega) (by simp; omega)
      obtain ⟨m, rfl, hm⟩ : ∃ m, v = V.int m ∧ Word m := by
        simp only [List.mem_cons, List.not_mem_nil, or_false] at hv
        rcases hv with rfl | rfl
        · exact ⟨_, rfl, r20, r21⟩
        · exact ⟨_, rfl, by omega, by omega⟩
      exact ⟨p, _, _, _, rfl, rfl, SqL.of upd_same, ev, k m _ hm (D3.lay hp) (e1.trans (e2.trans (e3.trans (Else.lay hp))))⟩
end
end My

set_option Elab.async false
set_option linter.all false
set_option maxRecDepth 100000
set_option maxHeartbeats 4000000
namespace My
open PySem L2
theorem letters_at {k : Nat} (h : k < 26) : letters.cps.toList[k]? = some (97 + k) := by
  have e : letters.cps.toList = (List.range 26).map (97 + ·) := by decide +kernel
  rw [e, List.getElem?_map, List.getElem?_range h]; rfl
theorem atI_at {α : Type} {xs : List α} {i : Int} (h0 : 0 ≤ i) (h1 : i < xs.length) : atI xs i = xs[i.toNat]? := by
  obtain ⟨j, rfl⟩ := Int.eq_ofNat_of_zero_le h0
  have hj : j < xs.length := by omega
  rw [atI_nat (List.getElem?_eq_getElem hj), Int.toNat_natCast, List.getElem?_eq_getElem hj]
theorem slice_len {x : Str} {j : Int} (h0 : 0 ≤ j) (h1 : j ≤ x.length) : (Txt.slice x none (some j)).length = j.toNat := by
  have e := PyProof.Rows.slice_closes_to (x := x) (j := j) ⟨h0, by rw [Array.length_toList]; exact h1⟩
  rw [eq_of_beq e]
  show (List.toArray _).size = _
  rw [List.size_toArray, List.length_take, List.length_drop, Array.length_toList]
  have : x.cps.size = x.length := rfl
  have z : (0 : Int).toNat = 0 := rfl
  rw [z]
  omega
theorem cps_app (x y : Str) : (x ++ y).cps.toList = x.cps.toList ++ y.cps.toList := by
  show (x.cps ++ y.cps).toList = _
  exact Array.toList_append
theorem at_mid {x z : Str} {c : Nat} {n : Nat} (h : x.length = n) : (x ++ (⟨#[c]⟩ ++ z)).cps.toList[n]? = some c := by
  rw [cps_app, cps_app, List.getElem?_append_right (by rw [Array.length_toList]; show x.length ≤ n; omega), Array.length_toList]
  have : n - x.cps.size = 0 := by show n - x.length = 0; omega
  rw [this]
  rfl
theorem at_left {x y : Str} {c n : Nat} (h : x.cps.toList[n]? = some c) : (x ++ y).cps.toList[n]? = some c := by
  rw [cps_app, List.getElem?_append_left (List.getElem?_eq_some_iff.mp h).1]
  exact h
/-- texts apart by one sign -/
theorem nodup_at {n : Nat} {turn : Int} {ws : List Str} (hl : ws.length ≤ 26) (h : ∀ (j : Nat) (u : Str), ws[j]? = some u → u.cps.toList[n]? = some (97 + ((turn + 7 * (j : Int)) % 26).toNat)) : ws.Nodup := by
  rw [List.Nodup, List.pairwise_iff_getElem]
  intro i j hi hj hij e
  have h1 := h i _ (List.getElem?_eq_getElem hi)
  have h2 := h j _ (List.getElem?_eq_getElem hj)
  rw [e, h2] at h1
  have h3 := Option.some.inj h1
  have a1 := Int.emod_nonneg (turn + 7 * (i : Int)) (by decide : (26 : Int) ≠ 0)
  have a2 := Int.emod_nonneg (turn + 7 * (j : Int)) (by decide : (26 : Int) ≠ 0)
  omega
theorem nodup_set {ws : List Str} {y : Str} {r : Nat} (h : ws.Nodup) (hy : y ∉ ws) : (ws.set r y).Nodup := by
  rw [List.Nodup, List.pairwise_iff_getElem] at h ⊢
  intro i j hi hj hij
  rw [List.length_set] at hi hj
  rw [List.getElem_set, List.getElem_set]
  by_cases h1 : r = i
  · rw [if_pos h1]
    by_cases h2 : r = j
    · omega
    · rw [if_neg h2]
      intro e
      exact hy (e ▸ List.getElem_mem hj)
  · rw [if_neg h1]
    by_cases h2 : r = j
    · rw [if_pos h2]
      intro e
      exact hy (e ▸ List.getElem_mem hi)
    · rw [if_neg h2]
      exact h i j hi hj hij
theorem notIn_of {y : Str} {ws : List Str} (h : inV (.str y) (ws.map V.str) = false) : y ∉ ws := fun hm => by
  have : inV (.str y) (ws.map V.str) = true := by
    unfold inV
    rw [List.any_eq_true]
    exact ⟨.str y, List.mem_map.mpr ⟨y, hm, rfl⟩, by simp [eqV]⟩
  rw [h] at this
  cases this
def spNames : Sp := fun vs H Q _ => ∃ d l : Addr, vs = [.ref d, .int 24] ∧ DealAt H d l ∧ ∀ (p : Addr) (ys : List Str) (H' : Hp), H' p = some (.lst (ys.map V.str)) → ys.length = 24 → (∀ y ∈ ys, y.length ≤ 30) → ys.Nodup → DealAt H' d l → Else d l H H' → Q (.ref p) H'
section
variable {P : Program} {w : World} {K : PySem.W.Frag} {mg : Str → Option Value} {base : Heap}
theorem scNames : FnScope ["_law_deal_here", "_law_many", "_law_letters", "_law_k", "_law_core", "_law_at", "_law_turn", "_law_found", "_law_own", "_law_spare", "_law_kept", "_law_name"] ["_law_deal_here", "_law_many"] (defScope sNames) := ⟨rfl, rfl, rfl, by decide +kernel, rfl, by decide +kernel, by decide +kernel⟩
theorem letters_len : letters.length = 26 := by decide +kernel
@[irreducible] def hNamesD1 : List PySem.Expr :=
  [ (PySem.Expr.Constant (PySem.Const.str "cells") 0 ⟨111, 18, 111, 25⟩), (PySem.Expr.Constant (PySem.Const.str "de") 0 ⟨111, 27, 111, 31⟩), (PySem.Expr.Constant (PySem.Const.str "mains") 0 ⟨111, 33, 111, 40⟩), (PySem.Expr.Constant (PySem.Const.str "setx") 0 ⟨111, 42, 111, 48⟩), (PySem.Expr.Constant (PySem.Const.str "ends") 0 ⟨111, 50, 111, 56⟩), (PySem.Expr.Constant (PySem.Const.str "atx") 0 ⟨111, 58, 111, 63⟩), (PySem.Expr.Constant (PySem.Const.str "i") 0 ⟨111, 65, 111, 68⟩), (PySem.Expr.Constant (PySem.Const.str "calls") 0 ⟨111, 70, 111, 77⟩)]
@[irreducible] def hNamesD2 : List PySem.Expr :=
  [ (PySem.Expr.Constant (PySem.Const.str "cell") 0 ⟨112, 17, 112, 23⟩), (PySem.Expr.Constant (PySem.Const.str "row") 0 ⟨112, 25, 112, 30⟩), (PySem.Expr.Constant (PySem.Const.str "def") 0 ⟨112, 32, 112, 37⟩), (PySem.Expr.Constant (PySem.Const.str "main") 0 ⟨112, 39, 112, 45⟩), (PySem.Expr.Constant (PySem.Const.str "set") 0 ⟨112, 47, 112, 52⟩), (PySem.Expr.Constant (PySem.Const.str "put") 0 ⟨112, 54, 112, 59⟩), (PySem.Expr.Constant (PySem.Const.str "while") 0 ⟨112, 61, 112, 68⟩), (PySem.Expr.Constant (PySem.Const.str "if") 0 ⟨112, 70, 112, 74⟩), (PySem.Expr.Constant (PySem.Const.str "else") 0 ⟨112, 76, 112, 82⟩), (PySem.Expr.Constant (PySem.Const.str "call") 0 ⟨112, 84, 112, 90⟩), (PySem.Expr.Constant (PySem.Const.str "end") 0 ⟨112, 92, 112, 97⟩), (PySem.Expr.Constant (PySem.Const.str "at") 0 ⟨112, 99, 112, 103⟩)]
def hNamesB : List PySem.Stmt :=
  [ (PySem.Stmt.Assign (targets := [(PySem.Expr.Name "_law_letters" ⟨103, 4, 103, 16⟩)]) (value := (PySem.Expr.Constant (PySem.Const.str "abcdefghijklmnopqrstuvwxyz") 0 ⟨103, 19, 103, 47⟩)) (pos := ⟨103, 4, 103, 47⟩)), (PySem.Stmt.Assign (targets := [(PySem.Expr.Name "_law_core" ⟨104, 4, 104, 13⟩)]) (value := (PySem.Expr.Call (func := (PySem.Expr.Attribute (value := (PySem.Expr.Constant (PySem.Const.str "") 0 ⟨104, 16, 104, 18⟩)) (attr := "join") (pos := ⟨104, 16, 104, 23⟩))) (args := [ (PySem.Expr.ListComp (elt := (PySem.Expr.Subscript (value := (PySem.Expr.Name "_law_letters" ⟨104, 25, 104, 37⟩)) (slice := (PySem.Expr.Call (func := (PySem.Expr.Name "_law_draw" ⟨104, 38, 104, 47⟩)) (args := [ (PySem.Expr.Name "_law_deal_here" ⟨104, 48, 104, 62⟩), (PySem.Expr.Constant (PySem.Const.int 26) 0 ⟨104, 64, 104, 66⟩)]) (keywords := []) (pos := ⟨104, 38, 104, 67⟩))) (pos := ⟨104, 25, 104, 68⟩))) (generators := [ { target := (PySem.Expr.Name "_law_k" ⟨104, 73, 104, 79⟩), iter := (PySem.Expr.Call (func := (PySem.Expr.Name "range" ⟨104, 83, 104, 88⟩)) (args := [ (PySem.Expr.Call (func := (PySem.Expr.Name "_law_draw" ⟨104, 89, 104, 98⟩)) (args := [ (PySem.Expr.Name "_law_deal_here" ⟨104, 99, 104, 113⟩), (PySem.Expr.Constant (PySem.Const.int 5) 0 ⟨104, 115, 104, 116⟩)]) (keywords := []) (pos := ⟨104, 89, 104, 117⟩))]) (keywords := []) (pos := ⟨104, 83, 104, 118⟩)), ifs := [], is_async := 0 : PySem.Comprehension }]) (scope := { kind := PySem.ScopeKind.function, names := [ (PySem.Str.ofString ".0", PySem.NameKind.local), (PySem.Str.ofString "_law_k", PySem.NameKind.local), (PySem.Str.ofString "_law_draw", PySem.NameKind.globalImplicit), (PySem.Str.ofString "_law_deal_here", PySem.NameKind.free), (PySem.Str.ofString "_law_letters", PySem.NameKind.free)], isGenerator := false, isCoroutine := false, more := [] : PySem.Scope }) (pos := ⟨104, 24, 104, 119⟩))]) (keywords := []) (pos := ⟨104, 16, 104, 120⟩))) (pos := ⟨104, 4, 104, 120⟩)), (PySem.Stmt.Assign (targets := [(PySem.Expr.Name "_law_at" ⟨105, 4, 105, 11⟩)]) (value := (PySem.Expr.Call (func := (PySem.Expr.Name "_law_draw" ⟨105, 14, 105, 23⟩)) (args := [ (PySem.Expr.Name "_law_deal_here" ⟨105, 24, 105, 38⟩), (PySem.Expr.BinOp (left := (PySem.Expr.Call (func := (PySem.Expr.Name "len" ⟨105, 40, 105, 43⟩)) (args := [(PySem.Expr.Name "_law_core" ⟨105, 44, 105, 53⟩)]) (keywords := []) (pos := ⟨105, 40, 105, 54⟩))) (op := PySem.Operator.Add) (right := (PySem.Expr.Constant (PySem.Const.int 1) 0 ⟨105, 57, 105, 58⟩)) (pos := ⟨105, 40, 105, 58⟩))]) (keywords := []) (pos := ⟨105, 14, 105, 59⟩))) (pos := ⟨105, 4, 105, 59⟩)), (PySem.Stmt.Assign (targets := [(PySem.Expr.Name "_law_turn" ⟨106, 4, 106, 13⟩)]) (value := (PySem.Expr.Call (func := (PySem.Expr.Name "_law_draw" ⟨106, 16, 106, 25⟩)) (args := [ (PySem.Expr.Name "_law_deal_here" ⟨106, 26, 106, 40⟩), (PySem.Expr.Constant (PySem.Const.int 26) 0 ⟨106, 42, 106, 44⟩)]) (keywords := []) (pos := ⟨106, 16, 106, 45⟩))) (pos := ⟨106, 4, 106, 45⟩)), (PySem.Stmt.Assign (targets := [(PySem.Expr.Name "_law_found" ⟨107, 4, 107, 14⟩)]) (value := (PySem.Expr.List [] ⟨107, 17, 107, 19⟩)) (pos := ⟨107, 4, 107, 19⟩)), (PySem.Stmt.For (target := (PySem.Expr.Name "_law_k" ⟨108, 8, 108, 14⟩)) (iter := (PySem.Expr.Call (func := (PySem.Expr.Name "range" ⟨108, 18, 108, 23⟩)) (args := [(PySem.Expr.Name "_law_many" ⟨108, 24, 108, 33⟩)]) (keywords := []) (pos := ⟨108, 18, 108, 34⟩))) (body := [ (PySem.Stmt.Assign (targets := [(PySem.Expr.Name "_law_own" ⟨109, 8, 109, 16⟩)]) (value := (PySem.Expr.BinOp (left := (PySem.Expr.Subscript (value := (PySem.Expr.Name "_law_letters" ⟨109, 19, 109, 31⟩)) (slice := (PySem.Expr.BinOp (left := (PySem.Expr.BinOp (left := (PySem.Expr.Name "_law_turn" ⟨109, 33, 109, 42⟩)) (op := PySem.Operator.Add) (right := (PySem.Expr.BinOp (left := (PySem.Expr.Constant (PySem.Const.int 7) 0 ⟨109, 45, 109, 46⟩)) (op := PySem.Operator.Mult) (right := (PySem.Expr.Name "_law_k" ⟨109, 49, 109, 55⟩)) (pos := ⟨109, 45, 109, 55⟩))) (pos := ⟨109, 33, 109, 55⟩))) (op := PySem.Operator.Mod) (right := (PySem.Expr.Constant (PySem.Const.int 26) 0 ⟨109, 59, 109, 61⟩)) (pos := ⟨109, 32, 109, 61⟩))) (pos := ⟨109, 19, 109, 62⟩))) (op := PySem.Operator.Add) (right := (PySem.Expr.Subscript (value := (PySem.Expr.Name "_law_core" ⟨109, 65, 109, 74⟩)) (slice := (PySem.Expr.Slice (some (PySem.Expr.Name "_law_at" ⟨109, 75, 109, 82⟩)) none none ⟨109, 75, 109, 83⟩)) (pos := ⟨109, 65, 109, 84⟩))) (pos := ⟨109, 19, 109, 84⟩))) (pos := ⟨109, 8, 109, 84⟩)), (PySem.Stmt.Expr (value := (PySem.Expr.Call (func := (PySem.Expr.Attribute (PySem.Expr.Name "_law_found" ⟨110, 8, 110, 18⟩) "append" ⟨110, 8, 110, 25⟩)) (args := [ (PySem.Expr.BinOp (left := (PySem.Expr.BinOp (left := (PySem.Expr.Subscript (value := (PySem.Expr.Name "_law_core" ⟨110, 26, 110, 35⟩)) (slice := (PySem.Expr.Slice none (some (PySem.Expr.Name "_law_at" ⟨110, 37, 110, 44⟩)) none ⟨110, 36, 110, 44⟩)) (pos := ⟨110, 26, 110, 45⟩))) (op := PySem.Operator.Add) (right := (PySem.Expr.Name "_law_own" ⟨110, 48, 110, 56⟩)) (pos := ⟨110, 26, 110, 56⟩))) (op := PySem.Operator.Add) (right := (PySem.Expr.Subscript (value := (PySem.Expr.List (elts := [ (PySem.Expr.Constant (PySem.Const.str "") 0 ⟨110, 60, 110, 62⟩), (PySem.Expr.Constant (PySem.Const.str "z") 0 ⟨110, 64, 110, 67⟩)]) (pos := ⟨110, 59, 110, 68⟩))) (slice := (PySem.Expr.BinOp (left := (PySem.Expr.BinOp (left := (PySem.Expr.Name "_law_k" ⟨110, 69, 110, 75⟩)) (op := PySem.Operator.Mod) (right := (PySem.Expr.Constant (PySem.Const.int 5) 0 ⟨110, 78, 110, 79⟩)) (pos := ⟨110, 69, 110, 79⟩))) (op := PySem.Operator.FloorDiv) (right := (PySem.Expr.Constant (PySem.Const.int 4) 0 ⟨110, 83, 110, 84⟩)) (pos := ⟨110, 69, 110, 84⟩))) (pos := ⟨110, 59, 110, 85⟩))) (pos := ⟨110, 26, 110, 85⟩))]) (keywords := []) (pos := ⟨110, 8, 110, 86⟩))) (pos := ⟨110, 8, 110, 86⟩))]) (orelse := []) (pos := ⟨108, 4, 110, 86⟩)), (PySem.Stmt.Assign (targets := [(PySem.Expr.Name "_law_spare" ⟨111, 4, 111, 14⟩)]) (value := (PySem.Expr.List (elts := hNamesD1) (pos := ⟨111, 17, 111, 78⟩))) (pos := ⟨111, 4, 111, 78⟩)), (PySem.Stmt.Assign (targets := [(PySem.Expr.Name "_law_kept" ⟨112, 4, 112, 13⟩)]) (value := (PySem.Expr.Tuple (elts := hNamesD2) (k := 0) (pos := ⟨112, 16, 112, 104⟩))) (pos := ⟨112, 4, 112, 104⟩)), (PySem.Stmt.Assign (targets := [(PySem.Expr.Name "_law_found" ⟨113, 4, 113, 14⟩)]) (value := (PySem.Expr.ListComp (elt := (PySem.Expr.BinOp (left := (PySem.Expr.Name "_law_name" ⟨113, 18, 113, 27⟩)) (op := PySem.Operator.Add) (right := (PySem.Expr.BinOp (left := (PySem.Expr.Constant (PySem.Const.str "q") 0 ⟨113, 30, 113, 33⟩)) (op := PySem.Operator.Mult) (right := (PySem.Expr.Call (func := (PySem.Expr.Name "int" ⟨113, 36, 113, 39⟩)) (args := [ (PySem.Expr.Compare (left := (PySem.Expr.Name "_law_name" ⟨113, 40, 113, 49⟩)) (ops := [PySem.CmpOp.In]) (comparators := [(PySem.Expr.Name "_law_kept" ⟨113, 53, 113, 62⟩)]) (pos := ⟨113, 40, 113, 62⟩))]) (keywords := []) (pos := ⟨113, 36, 113, 63⟩))) (pos := ⟨113, 30, 113, 63⟩))) (pos := ⟨113, 18, 113, 63⟩))) (generators := [ { target := (PySem.Expr.Name "_law_name" ⟨113, 68, 113, 77⟩), iter := (PySem.Expr.Name "_law_found" ⟨113, 81, 113, 91⟩), ifs := [], is_async := 0 : PySem.Comprehension }]) (scope := { kind := PySem.ScopeKind.function, names := [ (PySem.Str.ofString ".0", PySem.NameKind.local), (PySem.Str.ofString "_law_name", PySem.NameKind.local), (PySem.Str.ofString "int", PySem.NameKind.globalImplicit), (PySem.Str.ofString "_law_kept", PySem.NameKind.free)], isGenerator := false, isCoroutine := false, more := [] : PySem.Scope }) (pos := ⟨113, 17, 113, 92⟩))) (pos := ⟨113, 4, 113, 92⟩)), (PySem.Stmt.Assign (targets := [(PySem.Expr.Name "_law_name" ⟨114, 4, 114, 13⟩)]) (value := (PySem.Expr.Subscript (value := (PySem.Expr.Name "_law_spare" ⟨114, 16, 114, 26⟩)) (slice := (PySem.Expr.Call (func := (PySem.Expr.Name "_law_draw" ⟨114, 27, 114, 36⟩)) (args := [ (PySem.Expr.Name "_law_deal_here" ⟨114, 37, 114, 51⟩), (PySem.Expr.Constant (PySem.Const.int 8) 0 ⟨114, 53, 114, 54⟩)]) (keywords := []) (pos := ⟨114, 27, 114, 55⟩))) (pos := ⟨114, 16, 114, 56⟩))) (pos := ⟨114, 4, 114, 56⟩)), (PySem.Stmt.If (test := (PySem.Expr.BoolOp (op := PySem.BoolOp.And) (values := [ (PySem.Expr.Compare (left := (PySem.Expr.Call (func := (PySem.Expr.Name "_law_draw" ⟨115, 7, 115, 16⟩)) (args := [ (PySem.Expr.Name "_law_deal_here" ⟨115, 17, 115, 31⟩), (PySem.Expr.Constant (PySem.Const.int 3) 0 ⟨115, 33, 115, 34⟩)]) (keywords := []) (pos := ⟨115, 7, 115, 35⟩))) (ops := [PySem.CmpOp.Eq]) (comparators := [(PySem.Expr.Constant (PySem.Const.int 1) 0 ⟨115, 39, 115, 40⟩)]) (pos := ⟨115, 7, 115, 40⟩)), (PySem.Expr.Compare (left := (PySem.Expr.Name "_law_name" ⟨115, 45, 115, 54⟩)) (ops := [PySem.CmpOp.NotIn]) (comparators := [(PySem.Expr.Name "_law_found" ⟨115, 62, 115, 72⟩)]) (pos := ⟨115, 45, 115, 72⟩))]) (pos := ⟨115, 7, 115, 72⟩))) (body := [ (PySem.Stmt.Assign (targets := [ (PySem.Expr.Subscript (value := (PySem.Expr.Name "_law_found" ⟨116, 8, 116, 18⟩)) (slice := (PySem.Expr.Call (func := (PySem.Expr.Name "_law_draw" ⟨116, 19, 116, 28⟩)) (args := [(PySem.Expr.Name "_law_deal_here" ⟨116, 29, 116, 43⟩), (PySem.Expr.Name "_law_many" ⟨116, 45, 116, 54⟩)]) (keywords := []) (pos := ⟨116, 19, 116, 55⟩))) (pos := ⟨116, 8, 116, 56⟩))]) (value := (PySem.Expr.Name "_law_name" ⟨116, 59, 116, 68⟩)) (pos := ⟨116, 8, 116, 68⟩))]) (orelse := []) (pos := ⟨115, 4, 116, 68⟩)), (PySem.Stmt.Return (some (PySem.Expr.Name "_law_found" ⟨117, 11, 117, 21⟩)) ⟨117, 4, 117, 21⟩)]
theorem hNamesB_eq : defBody sNames = hNamesB := by
  unfold hNamesB hNamesD1 hNamesD2
  rfl

theorem hNames1 : strsOf hNamesD1 = some spare := by
  unfold hNamesD1
  rfl
theorem hNames2 : strsOf hNamesD2 = some kept := by
  unfold hNamesD2
  rfl
theorem ok_names {f : Addr} {fd : FuncData} (F : Fun K "_law_names" "_law_names" sNames f fd) (T : Blt mg) (C : Con7 mg) (hD : HDraw P w K mg base) : FnOk P w K mg base CX0 2 f fd ["_law_deal_here", "_law_many"] spNames := by
  refine F.ok scNames (fun vs H Q E h => ?_) (fun cdv A outer s H vs Q E hr h => ?_)
  · obtain ⟨d, l, rfl, _⟩ := h
    rfl
  · obtain ⟨d, l, rfl, D, k⟩ := h
    rw [hNamesB_eq]
    unfold hNamesB
    refine ⟨_, pss_cons (ps_set (i := 2) scNames.nd rfl (Or.inr rfl) (pe_str (x := letters)))
      (pss_cons (ps_set (i := 4) scNames.nd rfl (Or.inl rfl) (pe_bm PySem.F.plainAttrs_str PySem.F.slot_str_join PySem.F.type_str_join mt_join pe_str (pa_cons
        (pe_comp (ys := ["_law_letters", "_law_deal_here"]) (ix := [2, 0]) (compOk_of (osc := defScope sNames) (N := ["_law_deal_here", "_law_many", "_law_letters", "_law_k", "_law_core", "_law_at", "_law_turn", "_law_found", "_law_own", "_law_spare", "_law_kept", "_law_name"]) rfl rfl (by decide +kernel)) rfl
          (pi_range1 (by rfl) C.range (pa_cons (pe_has hD hr (by rfl) (pa_cons (pv 0) (pa_cons pe_int pa_nil))) pa_nil)) (fun z => pifs_nil)
          (fun z => pe_ix ix_str (pv 1) (pe_has hD hr (by rfl) (pa_cons (pv 2) (pa_cons pe_int pa_nil))) (fun _ _ => rfl))) pa_nil)))
      (pss_cons (ps_set (i := 5) scNames.nd rfl (Or.inl rfl) (pe_has hD hr (by rfl) (pa_cons (pv 0) (pa_cons (pe_op op_add (pe_callB call_len_str (by rfl) T.len PySem.boot_len (pa_cons (pv 4) pa_nil)) pe_int) pa_nil))))
      (pss_cons (ps_set (i := 6) scNames.nd rfl (Or.inl rfl) (pe_has hD hr (by rfl) (pa_cons (pv 0) (pa_cons pe_int pa_nil))))
      (pss_cons (ps_set (i := 7) scNames.nd rfl (Or.inl rfl) (pe_lst pa_nil))
      (pss_cons (ps_for PassesOwn.never rfl (pi_range1 (by rfl) C.range (pa_cons (pv 1) pa_nil)) (pg_name (i := 3) scNames.nd rfl (Or.inl rfl))
        (pss_cons (ps_set (i := 8) scNames.nd rfl (Or.inl rfl) (pe_op op_add_str (pe_ix ix_str (pv 2) (pe_op op_mod (pe_op op_add (pv 6) (pe_op op_mul pe_int (pv 3))) pe_int) (fun _ _ => rfl)) (pe_slice sl_str (pv 4) (po_some (pv 5)) po_none)))
        (pss_one (ps_expr (pe_bm PySem.F.plainAttrs_list PySem.F.slot_list_append PySem.F.type_list_append mt_append (pv 7)
          (pa_cons (pe_op op_add_str (pe_op op_add_str (pe_slice sl_str (pv 4) po_none (po_some (pv 5))) (pv 8)) (pe_ix ix_list (pe_lst (pa_strs (ys := ["", "z"]) (by rfl))) (pe_op op_fdiv (pe_op op_mod (pv 3) pe_int) pe_int) (fun _ _ => rfl))) pa_nil))))))
      (pss_cons (ps_set (i := 9) scNames.nd rfl (Or.inl rfl) (pe_lst (pa_strs hNames1)))
      (pss_cons (ps_set (i := 10) scNames.nd rfl (Or.inr rfl) (pe_tup (pa_strs hNames2)))
      (pss_cons (ps_comp (i := 7) (ys := ["_law_kept"]) (ix := [10]) (compOk_of (osc := defScope sNames) (N := ["_law_deal_here", "_law_many", "_law_letters", "_law_k", "_law_core", "_law_at", "_law_turn", "_law_found", "_law_own", "_law_spare", "_law_kept", "_law_name"]) rfl rfl (by decide +kernel)) rfl scNames.nd rfl rfl (pi_list (pv 7)) (fun z => pifs_nil)
        (fun z => pe_op op_add_str (pv 0) (pe_op op_mul_str pe_str (pe_callTy call_int1 (by rfl) C.int PyProof.Rows.boot_int (pa_cons (pe_cmpR op_in_seq (pv 0) (pv 1) (by with_unfolding_all rfl)) pa_nil)))))
      (pss_cons (ps_set (i := 11) scNames.nd rfl (Or.inl rfl) (pe_ix ix_list (pv 9) (pe_has hD hr (by rfl) (pa_cons (pv 0) (pa_cons pe_int pa_nil))) (fun _ _ => rfl)))
      (pss_cons (ps_if (pw_and (pt_cmpR op_eq (pe_has hD hr (by rfl) (pa_cons (pv 0) (pa_cons pe_int pa_nil))) pe_int (nomark _)) (pw_and1 (pt_cmpR op_notIn_seq (pv 11) (pv 7) (by with_unfolding_all rfl)))).pt
        (pss_one (ps_asg (pv 11) (pg_sub (pv 7) (pe_has hD hr (by rfl) (pa_cons (pv 0) (pa_cons (pv 1) pa_nil))) set_list))) pss_nil)
      (pss_one (ps_ret (pv 7))))))))))))), ?_⟩
    have ll := letters_len
    have llz : letters.length ≤ sizeLine := by rw [ll]; decide
    -- the core
    refine ⟨rfl, _, rfl, d, l, 5, rfl, D, by decide, by decide, fun r H1 r0 r1 D1 e1 => ⟨r, rfl, by omega, by omega, ?_⟩⟩
    refine comp_texts (m := 1) (by omega) D1 ?_ ?_
    · intro H2 z i Q' D2 e2 kk
      refine ⟨_, rfl, _, rfl, d, l, 26, rfl, D2, by decide, by decide, fun r2 H3 r20 r21 D3 e3 => ?_⟩
      obtain ⟨c, ec, _⟩ := atI_in (xs := letters.cps.toList) r20 (by rw [Array.length_toList]; show r2 < (letters.length : Int); rw [ll]; exact r21)
      exact ⟨_, _, c, rfl, rfl, llz, ec, kk _ H3 (by show 1 ≤ 1; decide) D3 e3⟩
    intro cD zs H2 hz1 hz2 hcD D2 e2
    have hsum := sum_le hz2
    refine ⟨"", cD, zs, rfl, rfl, SqL.of hcD, ?_, ?_⟩
    · have h3 : ("" : Str).length = 0 := by decide +kernel
      rw [h3]; omega
    have hcore := join_len hz2
    generalize Txt.join "" zs = core at hcore
    have hc5 : core.length ≤ 5 := by omega
    have hcz : core.length ≤ sizeLine := Nat.le_of_lt (small1000 (by omega))
    refine ⟨_, rfl, _, rfl, core, rfl, hcz, _, _, rfl, rfl, d, l, _, rfl, D2, by omega, by omega, fun at_ H3 at0 at1 D3 e3 => ?_⟩
    refine ⟨_, rfl, d, l, 26, rfl, D3, by decide, by decide, fun turn H4 tu0 tu1 D4 e4 => ?_⟩
    refine ⟨Nat.zero_le _, fun fl hfl => ?_⟩
    obtain ⟨nfd, nfl⟩ := D4.fresh hfl
    have E4 : Else d l H H4 := e1.trans (e2.trans (e3.trans e4))
    have tiny : ∀ n : Nat, n ≤ 1000 → n ≤ sizeLine := fun n h => Nat.le_of_lt (small1000 h)
    refine ⟨_, rfl, _, rfl, by decide, by decide, for_range (lo := 0) (n := 24) (fun i σ H5 => ∃ (us : List Str) (v3 v8 : Option V), σ = [some (.ref d), some (.int 24), some (.str letters), v3, some (.str core), some (.int at_), some (.int turn), some (.ref fl), v8, none, none, none] ∧
      H5 fl = some (.lst (us.map V.str)) ∧ us.length = i ∧ (∀ u ∈ us, u.length ≤ 20) ∧ (∀ (j : Nat) (u : Str), us[j]? = some u → u.cps.toList[at_.toNat]? = some (97 + ((turn + 7 * (j : Int)) % 26).toNat)) ∧ ∀ b o, H4 b = some o → H5 b = some o) ⟨[], none, none, rfl, upd_same, rfl, by simp, by simp, fun b o e => by rw [upd_ne (ne_of_none e hfl)]; exact e⟩ ?_ ?_⟩
    · rintro i σ H5 hi ⟨us, v3, v8, rfl, hf5, ul, ub, uc, kp⟩
      have ib := Int.emod_lt_of_pos (turn + 7 * (0 + (i : Int))) (by decide : (0 : Int) < 26)
      have ia := Int.emod_nonneg (turn + 7 * (0 + (i : Int))) (by decide : (26 : Int) ≠ 0)
      obtain ⟨c, ec, hcv⟩ : ∃ c, atI letters.cps.toList ((turn + 7 * (0 + (i : Int))) % 26) = some c ∧ c = 97 + ((turn + 7 * (i : Int)) % 26).toNat := by
        refine ⟨_, ?_, rfl⟩
        have e0 : (0 + (i : Int)) = (i : Int) := by omega
        rw [atI_at ia (by rw [Array.length_toList]; show _ < (letters.length : Int); rw [ll]; exact ib), letters_at (by omega), e0]
      have sl1 := Txt.slice_le core (some at_) none
      have sl2 := Txt.slice_le core none (some at_)
      have lc1 : (⟨#[c]⟩ : Str).length = 1 := rfl
      refine ⟨_, rfl, _, rfl, _, rfl, _, _, rfl, rfl, .inl ⟨by decide, by decide⟩, _, _, rfl, rfl, _, _, rfl, rfl, (by show (0 : Int) < 26; decide), letters, _, c, rfl, rfl, llz, ec, _, rfl, _, rfl, _, rfl, core, rfl, hcz, _, _, rfl, rfl, tiny _ (by omega), ?_⟩
      have lown : (⟨#[c]⟩ ++ Txt.slice core (some at_) none : Str).length ≤ 6 := by rw [str_app]; omega
      have hmid : (Txt.slice core none (some at_) ++ (⟨#[c]⟩ ++ Txt.slice core (some at_) none : Str)).cps.toList[at_.toNat]? = some c := at_mid (slice_len at0 (by omega))
      generalize (⟨#[c]⟩ ++ Txt.slice core (some at_) none : Str) = own at lown hmid
      refine ⟨_, rfl, .inl ⟨rfl, _, SqL.of hf5⟩, _, rfl, _, rfl, _, rfl, core, rfl, hcz, _, rfl, _, _, rfl, rfl, tiny _ (by omega), (by show 2 ≤ sizeLine; decide), fun p hp => ⟨_, rfl, _, _, rfl, rfl, (by show (0 : Int) < 5; decide), _, _, rfl, rfl, ⟨by decide, by decide⟩, ?_⟩⟩
      obtain ⟨v, ev, hv⟩ := atI_in (xs := (["", "z"] : List Str).map V.str) (i := (0 + (i : Int)) % 5 / 4) (by omega) (by show _ < (2 : Int); omega)
      obtain ⟨y, rfl, hy⟩ := mem_map_str hv
      have ly : y.length ≤ 1 := (by decide +kernel : ∀ y ∈ (["", "z"] : List Str), y.length ≤ 1) y hy
      have lc2 : (Txt.slice core none (some at_) ++ own).length ≤ 11 := by rw [str_app]; omega
      have hfp : (upd H5 p (.lst ((["", "z"] : List Str).map V.str))) fl = some (.lst (us.map V.str)) := by rw [upd_ne (ne_of_none hf5 hp)]; exact hf5
      refine ⟨p, _, _, _, rfl, rfl, SqL.of upd_same, ev, _, _, rfl, rfl, tiny _ (by omega), fl, _, _, rfl, rfl, hfp, by rw [List.length_map]; exact small1000 (by omega), ?_⟩
      refine ⟨us ++ [Txt.slice core none (some at_) ++ own ++ y], _, _, rfl, ?_, by rw [List.length_append, ul]; rfl, fun u hu => ?_, fun j u hj => ?_, fun b o e => ?_⟩
      · rw [upd_same, List.map_append]; rfl
      · rcases List.mem_append.mp hu with q | q
        · exact ub u q
        · rw [List.mem_singleton.mp q, str_app]; omega
      · by_cases hji : j < us.length
        · rw [List.getElem?_append_left hji] at hj
          exact uc j u hj
        · rw [List.getElem?_append_right (by omega)] at hj
          have hj0 : j = us.length := by
            have := (List.getElem?_eq_some_iff.mp hj).1
            simp at this
            omega
          rw [hj0, Nat.sub_self] at hj
          have hu' : Txt.slice core none (some at_) ++ own ++ y = u := Option.some.inj hj
          rw [← hu', hj0, ul, ← hcv]
          exact at_left hmid
      · rw [upd_ne (ne_of_none e hfl), upd_ne (ne_of_none (kp b o e) hp)]; exact kp b o e
    · rintro σ H5 ⟨us, v3, v8, rfl, hf5, ul, ub, uc, kp⟩
      have D5 : DealAt H5 d l := D4.keep (fl := fl) (fun b o e _ => kp b o e) nfd nfl
      have E5 : Else d l H H5 := E4.trans fun b o e _ _ => kp b o e
      refine ⟨(by show 8 ≤ sizeLine; decide), fun sp hsp => ?_⟩
      refine ⟨(by show 12 ≤ sizeLine; decide), fun tp htp => ?_⟩
      have D7 := (D5.lay hsp).lay (o := .tup (kept.map V.str)) htp
      have E7 := E5.trans ((Else.lay hsp).trans (Else.lay (o := .tup (kept.map V.str)) htp))
      have hf7 : (upd (upd H5 sp (.lst (spare.map V.str))) tp (.tup (kept.map V.str))) fl = some (.lst (us.map V.str)) := by
        have h1 : (upd H5 sp (.lst (spare.map V.str))) fl = some (.lst (us.map V.str)) := by rw [upd_ne (ne_of_none hf5 hsp)]; exact hf5
        rw [upd_ne (ne_of_none h1 htp)]; exact h1
      have hs7 : (upd (upd H5 sp (.lst (spare.map V.str))) tp (.tup (kept.map V.str))) sp = some (.lst (spare.map V.str)) := by
        have h1 : (upd H5 sp (.lst (spare.map V.str))) sp = some (.lst (spare.map V.str)) := upd_same
        rw [upd_ne (ne_of_none h1 htp)]; exact h1
      have ht7 : (upd (upd H5 sp (.lst (spare.map V.str))) tp (.tup (kept.map V.str))) tp = some (.tup (kept.map V.str)) := upd_same
      generalize (upd (upd H5 sp (.lst (spare.map V.str))) tp (.tup (kept.map V.str))) = H7 at D7 E7 hf7 hs7 ht7
      refine ⟨_, rfl, fl, rfl, ⟨_, SqL.of hf7⟩, ?_⟩
      refine compw_list (xs := us.map V.str) (fun D' i ys H8 => ∃ ws : List Str, ys = ws.map V.str ∧ ws.length = i ∧ (∀ u ∈ ws, u.length ≤ 30) ∧ (∀ (j : Nat) (u : Str), ws[j]? = some u → u.cps.toList[at_.toNat]? = some (97 + ((turn + 7 * (j : Int)) % 26).toNat)) ∧ H8 D' = some (.lst ys) ∧ H7 D' = none ∧ ∀ b, b ≠ D' → H8 b = H7 b) ?_ ?_ ?_ ?_
      · intro D' hD'
        exact ⟨[], rfl, rfl, by simp, by simp, upd_same, hD', fun b hb => upd_ne hb⟩
      · rintro D' i ys H8 hi ⟨ws, rfl, wl, wb, wc, hD', hn', hall⟩
        rw [List.length_map] at hi
        exact ⟨SqL.of (by rw [hall fl (ne_of_none hf7 hn')]; exact hf7), hD', by rw [List.length_map]; exact small1000 (by omega)⟩
      · rintro D' i x ys H8 hx ⟨ws, rfl, wl, wb, wc, hD', hn', hall⟩ z
        obtain ⟨y, rfl, hy⟩ := mem_map_str (List.mem_of_getElem? hx)
        have ly := ub y hy
        have ht8 : H8 tp = some (.tup (kept.map V.str)) := by rw [hall tp (ne_of_none ht7 hn')]; exact ht7
        refine noIf ⟨_, rfl, _, rfl, _, rfl, tp, _, rfl, .inr (SqT.of ht8), rfl, flat_strs _, .inr ⟨_, rfl, _, _, rfl, rfl, mulq _, _, _, rfl, rfl, tiny _ (by have := lenq (inV (.str y) (kept.map V.str)); simp only [Bool.false_eq_true, if_false]; omega), hD', ?_⟩⟩
        refine ⟨ws ++ [_], by rw [List.map_append]; rfl, by rw [List.length_append, wl]; rfl, fun u hu => ?_, fun j u hj => ?_, upd_same, hn', fun b hb => by rw [upd_ne hb]; exact hall b hb⟩
        · rcases List.mem_append.mp hu with q | q
          · exact wb u q
          · rw [List.mem_singleton.mp q, str_app]
            have := lenq (inV (.str y) (kept.map V.str))
            simp only [Bool.false_eq_true, if_false]
            omega
        · by_cases hji : j < ws.length
          · rw [List.getElem?_append_left hji] at hj
            exact wc j u hj
          · rw [List.getElem?_append_right (by omega)] at hj
            have hj0 : j = ws.length := by
              have := (List.getElem?_eq_some_iff.mp hj).1
              simp at this
              omega
            rw [hj0, Nat.sub_self] at hj
            have hu' := Option.some.inj hj
            rw [← hu', hj0, wl]
            refine at_left (uc i y ?_)
            rw [List.getElem?_map] at hx
            cases e : us[i]? with
            | none => rw [e] at hx; cases hx
            | some y' => rw [e] at hx; exact congrArg some (V.str.inj (Option.some.inj hx))
      · rintro D' ys H8 ⟨ws, rfl, wl, wb, wc, hD', hn', hall⟩
        rw [List.length_map] at wl
        obtain ⟨nd1, nd2⟩ := D7.fresh hn'
        have kp8 : ∀ b o, H7 b = some o → H8 b = some o := fun b o e => by rw [hall b (ne_of_none e hn')]; exact e
        have D8 : DealAt H8 d l := D7.keep (fl := D') (fun b o e _ => kp8 b o e) nd1 nd2
        have E8 : Else d l H H8 := E7.trans fun b o e _ _ => kp8 b o e
        have fin : ∀ (Hn : Hp) (ws' : List Str), Hn D' = some (.lst (ws'.map V.str)) → ws'.length = 24 → (∀ y ∈ ws', y.length ≤ 30) → ws'.Nodup → DealAt Hn d l → Else d l H7 Hn → Q (.ref D') Hn := fun Hn ws' h1 h2 h3 hnd h4 h5 => k D' ws' Hn h1 h2 h3 hnd h4 (E7.trans h5)
        have e78 : Else d l H7 H8 := fun b o e _ _ => kp8 b o e
        have wl' : ws.length = 24 := by rw [wl, ul]
        have wnd : ws.Nodup := nodup_at (n := at_.toNat) (turn := turn) (by omega) wc
        have ns : sp ≠ l := D7.apart hs7 (by decide)
        have nsd : sp ≠ d := by
          obtain ⟨a, n, ms, D⟩ := D7
          exact ne_of hs7 D.dc (by intro z; cases z)
        refine ⟨_, rfl, _, rfl, d, l, 8, rfl, D8, by decide, by decide, fun r9 H9 r90 r91 D9 e9 => ?_⟩
        obtain ⟨v, ev, hv⟩ := atI_in (xs := spare.map V.str) r90 (by show _ < (8 : Int); exact r91)
        obtain ⟨y, rfl, hy⟩ := mem_map_str hv
        have ly := spare_len y hy
        refine ⟨sp, _, _, _, rfl, rfl, SqL.of (e9 sp _ (kp8 _ _ hs7) nsd ns), ev, ?_⟩
        have hD9 := e9 D' _ hD' nd1 nd2
        refine ⟨_, rfl, d, l, 3, rfl, D9, by decide, by decide, fun r10 H10 _ _ D10 e10 => ?_⟩
        have hD10 := e10 D' _ hD9 nd1 nd2
        refine ⟨rfl, _, rfl, ite2 (fun _ => ?_) (fun _ => ?_)⟩
        · refine ⟨_, rfl, _, rfl, D', _, rfl, .inl (SqL.of hD10), rfl, flat_strs _, _, rfl, ite2 (fun hni => ?_) (fun _ => ?_)⟩
          · have hyw : y ∉ ws := notIn_of (by
              have q : (!inV (.str y) (ws.map V.str)) = true := hni
              simpa using q)
            refine ⟨_, rfl, _, rfl, _, rfl, _, rfl, d, l, 24, rfl, D10, by decide, by decide, fun r11 H11 r110 r111 D11 e11 => ?_⟩
            have hD11 := e11 D' _ hD10 nd1 nd2
            have hix : ixN (ws.map V.str).length r11 = some r11.toNat := by
              unfold ixN
              rw [List.length_map, wl', if_pos r110, if_pos (by exact r111)]
            refine ⟨D', _, r11, r11.toNat, rfl, rfl, hD11, hix, ?_⟩
            refine ⟨_, rfl, fin _ (ws.set r11.toNat y) ?_ ?_ ?_ (nodup_set wnd hyw) (D11.put nd1 nd2) fun b o e h1 h2 => ?_⟩
            · rw [upd_same, List.map_set]
            · rw [List.length_set]; exact wl'
            · intro u hu
              rcases List.mem_or_eq_of_mem_set hu with q | q
              · exact wb u q
              · rw [q]; exact ly
            · rw [upd_ne (ne_of_none e hn')]
              exact (e78.trans (e9.trans (e10.trans e11))) b o e h1 h2
          · exact ⟨_, rfl, fin H10 ws hD10 wl' wb wnd D10 (e78.trans (e9.trans e10))⟩
        · exact iteF ⟨_, rfl, fin H10 ws hD10 wl' wb wnd D10 (e78.trans (e9.trans e10))⟩
end
end My

set_option Elab.async false
set_option linter.all false
set_option maxRecDepth 100000
set_option maxHeartbeats 4000000
namespace My
open PySem L2
/-! ### programs as data -/
inductive Tm where
  | num (n : Int) | cell (x : Str) | at_ (r : Str) (t : Tm) | op (s : Str) (a b : Tm)
inductive Sm where
  | set (x : Str) (t : Tm) | put (r : Str) (p t : Tm) | whil (t : Tm) (b : List Sm) | iff (t : Tm) (b o : List Sm) | call (f : Str)
/-- a term stands at v -/
def TmAt (H : Hp) : Tm → V → Prop
  | .num n, v => ∃ p, v = .ref p ∧ H p = some (.tup [.str "num", .int n])
  | .cell x, v => ∃ p, v = .ref p ∧ H p = some (.tup [.str "cell", .str x])
  | .at_ r t, v => ∃ p q, v = .ref p ∧ H p = some (.tup [.str "at", .str r, q]) ∧ TmAt H t q
  | .op s a b, v => ∃ p q u, v = .ref p ∧ H p = some (.tup [.str "op", .str s, q, u]) ∧ TmAt H a q ∧ TmAt H b u
mutual
def SmAt (H : Hp) : Sm → V → Prop
  | .set x t, v => ∃ p q, v = .ref p ∧ H p = some (.tup [.str "set", .str x, q]) ∧ TmAt H t q
  | .put r a t, v => ∃ p q u, v = .ref p ∧ H p = some (.tup [.str "put", .str r, q, u]) ∧ TmAt H a q ∧ TmAt H t u
  | .whil t b, v => ∃ p q z vs, v = .ref p ∧ H p = some (.tup [.str "while", q, .ref z]) ∧ TmAt H t q ∧ H z = some (.tup vs) ∧ SmsAt H b vs
  | .iff t b o, v => ∃ p q z vs z' vs', v = .ref p ∧ H p = some (.tup [.str "if", q, .ref z, .ref z']) ∧ TmAt H t q ∧ H z = some (.tup vs) ∧ SmsAt H b vs ∧ H z' = some (.tup vs') ∧ SmsAt H o vs'
  | .call f, v => ∃ p, v = .ref p ∧ H p = some (.tup [.str "call", .str f])
def SmsAt (H : Hp) : List Sm → List V → Prop
  | [], vs => vs = []
  | s :: r, vs => ∃ v us, vs = v :: us ∧ SmAt H s v ∧ SmsAt H r us
end
def TupKeep (H H' : Hp) : Prop := ∀ p xs, H p = some (.tup xs) → H' p = some (.tup xs)
theorem TupKeep.refl (H : Hp) : TupKeep H H := fun _ _ h => h
theorem TupKeep.trans {H H1 H2 : Hp} (a : TupKeep H H1) (b : TupKeep H1 H2) : TupKeep H H2 := fun p xs h => b p xs (a p xs h)
theorem TupKeep.same {H H' : Hp} (s : Same H H') : TupKeep H H' := fun p xs h => s p _ h
theorem TupKeep.else {H H' : Hp} {d l : Addr} (D : DealAt H d l) (e : Else d l H H') : TupKeep H H' := fun p xs h => by
  obtain ⟨_, _, _, D⟩ := D
  exact e p _ h (ne_of h D.dc (by intro z; cases z)) (ne_of h D.lc (by intro z; cases z))
theorem TmAt.keep {H H' : Hp} (k : TupKeep H H') : ∀ {t : Tm} {v : V}, TmAt H t v → TmAt H' t v
  | .num _, _, ⟨p, e, h⟩ => ⟨p, e, k _ _ h⟩
  | .cell _, _, ⟨p, e, h⟩ => ⟨p, e, k _ _ h⟩
  | .at_ _ _, _, ⟨p, q, e, h, a⟩ => ⟨p, q, e, k _ _ h, TmAt.keep k a⟩
  | .op _ _ _, _, ⟨p, q, u, e, h, a, b⟩ => ⟨p, q, u, e, k _ _ h, TmAt.keep k a, TmAt.keep k b⟩
mutual
theorem SmAt.keep {H H' : Hp} (k : TupKeep H H') : ∀ {s : Sm} {v : V}, SmAt H s v → SmAt H' s v
  | .set _ _, _, h => by
    obtain ⟨p, q, e, h, a⟩ := h
    exact ⟨p, q, e, k _ _ h, a.keep k⟩
  | .put _ _ _, _, h => by
    obtain ⟨p, q, u, e, h, a, b⟩ := h
    exact ⟨p, q, u, e, k _ _ h, a.keep k, b.keep k⟩
  | .whil _ _, _, h => by
    obtain ⟨p, q, z, vs, e, h, a, hz, b⟩ := h
    exact ⟨p, q, z, vs, e, k _ _ h, a.keep k, k _ _ hz, SmsAt.keep k b⟩
  | .iff _ _ _, _, h => by
    obtain ⟨p, q, z, vs, z', vs', e, h, a, hz, b, hz', b'⟩ := h
    exact ⟨p, q, z, vs, z', vs', e, k _ _ h, a.keep k, k _ _ hz, SmsAt.keep k b, k _ _ hz', SmsAt.keep k b'⟩
  | .call _, _, h => by
    obtain ⟨p, e, h⟩ := h
    exact ⟨p, e, k _ _ h⟩
theorem SmsAt.keep {H H' : Hp} (k : TupKeep H H') : ∀ {b : List Sm} {vs : List V}, SmsAt H b vs → SmsAt H' b vs
  | [], _, h => h
  | _ :: _, _, h => by
    obtain ⟨v, us, e, a, b⟩ := h
    exact ⟨v, us, e, SmAt.keep k a, SmsAt.keep k b⟩
end
/-! ### what is let by -/
theorem sign_in : ∀ c ∈ ("+-*<=" : Str).cps.toList, (⟨#[c]⟩ : Str) ∈ (["+", "-", "*", "<", "="] : List Str) := by decide +kernel
def Tm.ok0 (cs rs : List Str) : Tm → Prop
  | .num n => Word n
  | .cell x => x ∈ cs
  | .at_ r t => r ∈ rs ∧ Tm.ok0 cs rs t
  | .op s a b => s ∈ (["+", "-", "*", "<", "="] : List Str) ∧ Tm.ok0 cs rs a ∧ Tm.ok0 cs rs b
/-- how many parts -/
def Tm.size : Tm → Nat
  | .num _ => 1
  | .cell _ => 1
  | .at_ _ t => t.size + 1
  | .op _ a b => a.size + b.size + 1
def Tm.ok (cs rs : List Str) (t : Tm) : Prop := t.ok0 cs rs ∧ t.size < 2 ^ (3 + 1)
theorem sz_leaf (m : Nat) : 1 < 2 ^ (m + 1) := by
  have := Nat.pos_of_ne_zero (show (2 : Nat) ^ m ≠ 0 by exact Nat.ne_of_gt (Nat.two_pow_pos m))
  rw [Nat.pow_succ]; omega
theorem sz_at {m n : Nat} (h : n < 2 ^ (m + 1)) : n + 1 < 2 ^ (m + 1 + 1) := by
  rw [Nat.pow_succ]; omega
theorem sz_op {m n k : Nat} (h : n < 2 ^ (m + 1)) (h2 : k < 2 ^ (m + 1)) : n + k + 1 < 2 ^ (m + 1 + 1) := by
  rw [Nat.pow_succ]; omega
/-- the scene: the names that may be used -/
theorem cr : ¬ (("cells" : Str) = "rows") := by decide +kernel
theorem cd : ¬ (("cells" : Str) = "defs") := by decide +kernel
theorem rd : ¬ (("rows" : Str) = "defs") := by decide +kernel
def scK (c r f : Addr) : List (Key × V) := [(.inr "cells", .ref c), (.inr "rows", .ref r), (.inr "defs", .ref f)]
theorem sc_cells (c r f : Addr) : valV (scK c r f) (Sum.inr "cells" : Key) = some (.ref c) := valV_pos rfl
theorem sc_rows (c r f : Addr) : valV (scK c r f) (Sum.inr "rows" : Key) = some (.ref r) := by
  unfold scK
  rw [valV_neg (fun e => cr (Sum.inr.inj e)), valV_pos rfl]
theorem sc_defs (c r f : Addr) : valV (scK c r f) (Sum.inr "defs" : Key) = some (.ref f) := by
  unfold scK
  rw [valV_neg (fun e => cd (Sum.inr.inj e)), valV_neg (fun e => rd (Sum.inr.inj e)), valV_pos rfl]
structure SceneAt (H : Hp) (d l sc : Addr) (cs rs ds : List Str) : Prop where
  at_ : ∃ c r f, H sc = some (.dK (scK c r f)) ∧ H c = some (.lst (cs.map V.str)) ∧ H r = some (.lst (rs.map V.str)) ∧ H f = some (.lst (ds.map V.str)) ∧ sc ≠ d ∧ sc ≠ l ∧ c ≠ d ∧ c ≠ l ∧ r ≠ d ∧ r ≠ l ∧ f ≠ d ∧ f ≠ l
  ne : cs ≠ []
  cl : cs.length ≤ 24
  rl : rs.length ≤ 24
  dl : ds.length ≤ 24
theorem SceneAt.else {H H' : Hp} {d l sc : Addr} {cs rs ds : List Str} (S : SceneAt H d l sc cs rs ds) (e : Else d l H H') : SceneAt H' d l sc cs rs ds := by
  obtain ⟨⟨c, r, f, h1, h2, h3, h4, n1, n2, n3, n4, n5, n6, n7, n8⟩, a, b, c', d'⟩ := S
  exact ⟨⟨c, r, f, e _ _ h1 n1 n2, e _ _ h2 n3 n4, e _ _ h3 n5 n6, e _ _ h4 n7 n8, n1, n2, n3, n4, n5, n6, n7, n8⟩, a, b, c', d'⟩
/-- m + 1 calls are allowed -/
def spTerm (n : Nat) : Sp := fun vs H Q _ => ∃ (d l sc : Addr) (cs rs ds : List Str) (room : Int) (m : Nat), vs = [.ref d, .ref sc, .int room] ∧ n = m + 1 ∧ 0 ≤ room ∧ room < 3 * 2 ^ m ∧ DealAt H d l ∧ SceneAt H d l sc cs rs ds ∧
  ∀ (v : V) (t : Tm) (H' : Hp), TmAt H' t v → (t.ok0 cs rs ∧ t.size < 2 ^ (m + 1)) → DealAt H' d l → Else d l H H' → Q v H'
section
variable {P : Program} {w : World} {K : PySem.W.Frag} {mg : Str → Option Value} {base : Heap}
abbrev termPs : List Str := ["_law_deal_here", "_law_scene", "_law_room"]
theorem scTerm : FnScope ["_law_deal_here", "_law_scene", "_law_room", "_law_form", "_law_r", "_law_half", "_law_one"] ["_law_deal_here", "_law_scene", "_law_room"] (defScope sTerm) := ⟨rfl, rfl, rfl, by decide +kernel, rfl, by decide +kernel, by decide +kernel⟩
theorem ok_term {n : Nat} {f : Addr} {fd : FuncData} (F : Fun K "_law_term" "_law_term" sTerm f fd) (T : Blt mg) (hD : HDraw P w K mg base) (hW : Has P w K mg base "_law_word" 2 ["_law_deal_here"] spWord)
    (hT : Has P w K mg base "_law_term" (n + 2) termPs (spTerm n)) : FnOk P w K mg base CX0 (n + 3) f fd termPs (spTerm (n + 1)) := by
  refine F.ok scTerm (fun vs H Q E h => ?_) (fun cdv A outer s H vs Q E hr h => ?_)
  · obtain ⟨d, l, sc, cs, rs, ds, room, m, rfl, _⟩ := h
    rfl
  · obtain ⟨d, l, sc, cs, rs, ds, room, m, rfl, hm, r0, r1, D, S, k⟩ := h
    have hu := hu_of hr
    have hr1 : Room 1 _ := hr.mono (by omega)
    have hr2 : Room 2 _ := hr.mono (by omega)
    refine ⟨_, pss_cons (ps_set (i := 3) scTerm.nd rfl (Or.inl rfl) (pe_has hD hr1 (by rfl) (pa_cons (pv 0) (pa_cons pe_int pa_nil))))
      (pss_cons (ps_if (pw_or (pt_cmpR op_lt (pv 2) pe_int (nomark _)) (pw_or1 (pt_cmpR op_lt (pv 3) pe_int (nomark _)))).pt
        (pss_cons (ps_if (pt_cmpR op_eq (pe_has hD hr1 (by rfl) (pa_cons (pv 0) (pa_cons pe_int pa_nil))) pe_int (nomark _)) (pss_one (ps_ret (pe_tup (pa_cons pe_str (pa_cons (pe_has hW hr2 (by rfl) (pa_cons (pv 0) pa_nil)) pa_nil))))) pss_nil)
        (pss_one (ps_ret (pe_tup (pa_cons pe_str (pa_cons (pe_ix ix_list (pe_dget hu (pv 1) pe_str (fun _ _ => rfl)) (pe_has hD hr1 (by rfl) (pa_cons (pv 0) (pa_cons (pe_callB call_len_seq (by rfl) T.len PySem.boot_len (pa_cons (pe_dget hu (pv 1) pe_str (fun _ _ => rfl)) pa_nil)) pa_nil))) (fun _ _ => rfl)) pa_nil)))))) pss_nil)
      (pss_cons (ps_if (pw_and (pt_cmpR op_eq (pv 3) pe_int (nomark _)) (pw_and1 (pt_cmpR op_gt (pe_callB call_len_seq (by rfl) T.len PySem.boot_len (pa_cons (pe_dget hu (pv 1) pe_str (fun _ _ => rfl)) pa_nil)) pe_int (nomark _)))).pt
        (pss_cons (ps_set (i := 4) scTerm.nd rfl (Or.inl rfl) (pe_ix ix_list (pe_dget hu (pv 1) pe_str (fun _ _ => rfl)) (pe_has hD hr1 (by rfl) (pa_cons (pv 0) (pa_cons (pe_callB call_len_seq (by rfl) T.len PySem.boot_len (pa_cons (pe_dget hu (pv 1) pe_str (fun _ _ => rfl)) pa_nil)) pa_nil))) (fun _ _ => rfl)))
        (pss_one (ps_ret (pe_tup (pa_cons pe_str (pa_cons (pv 4) (pa_cons (pe_has hT hr (by rfl) (pa_cons (pv 0) (pa_cons (pv 1) (pa_cons (pe_op op_fdiv (pv 2) pe_int) pa_nil)))) pa_nil))))))) pss_nil)
      (pss_cons (ps_set (i := 5) scTerm.nd rfl (Or.inl rfl) (pe_op op_fdiv (pe_op op_sub (pv 2) pe_int) pe_int))
      (pss_cons (ps_set (i := 6) scTerm.nd rfl (Or.inl rfl) (pe_has hT hr (by rfl) (pa_cons (pv 0) (pa_cons (pv 1) (pa_cons (pv 5) pa_nil)))))
      (pss_one (ps_ret (pe_tup (pa_cons pe_str (pa_cons (pe_ix ix_str pe_str (pe_has hD hr1 (by rfl) (pa_cons (pv 0) (pa_cons pe_int pa_nil))) (fun _ _ => rfl)) (pa_cons (pv 6) (pa_cons (pe_has hT hr (by rfl) (pa_cons (pv 0) (pa_cons (pv 1) (pa_cons (pv 5) pa_nil)))) pa_nil))))))))))), ?_⟩
    have hnm : n = m := by omega
    refine ⟨_, rfl, d, l, 8, rfl, D, by decide, by decide, fun fm H1 f0 f1 D1 e1 => ?_⟩
    have S1 := S.else e1
    refine ⟨_, rfl, _, _, rfl, rfl, _, rfl, ite2 (fun _ => iteT ?s1) (fun g1 => ⟨_, rfl, _, _, rfl, rfl, _, rfl, ite2 (fun _ => ?s2) (fun g2 => ?big)⟩)⟩
    case big =>
      have g1' : ¬ room < 3 := fun z => g1 (decide_eq_true z)
      obtain ⟨m', rfl⟩ : ∃ m', m = m' + 1 := by
        cases m with
        | zero => simp at r1; omega
        | succ m' => exact ⟨m', rfl⟩
      have hp2 : (3 * 2 ^ (m' + 1) : Int) = 2 * (3 * 2 ^ m') := by rw [Int.pow_succ]; omega
      have q1 : 0 ≤ room / 2 ∧ room / 2 < 3 * 2 ^ m' := by omega
      have q2 : 0 ≤ (room - 1) / 2 ∧ (room - 1) / 2 < 3 * 2 ^ m' := by omega
      obtain ⟨c, r, f, h1, h2, h3, h4, n1, n2, n3, n4, n5, n6, n7, n8⟩ := S1.at_
      refine ⟨_, rfl, rfl, _, rfl, ite2 (fun _ => ⟨_, rfl, sc, _, rfl, getK h1 (sc_rows ..), r, _, rfl, .inl (SqL.of h3), _, _, rfl, rfl, _, rfl, ite2 (fun hl => ?rowb) (fun _ => ?o1)⟩) (fun _ => iteF ?o2)⟩
      case rowb =>
        have hl' : 0 < rs.length := by
          have := of_decide_eq_true hl
          rw [List.length_map] at this
          omega
        have rl := S1.rl
        refine ⟨_, rfl, sc, _, rfl, getK h1 (sc_rows ..), _, rfl, _, rfl, sc, _, rfl, getK h1 (sc_rows ..), r, _, rfl, .inl (SqL.of h3), d, l, _, rfl, D1, (by rw [List.length_map]; omega), (by rw [List.length_map]; omega), fun r2 H2 r20 r21 D2 e2 => ?_⟩
        obtain ⟨v, ev, hv⟩ := atI_in r20 r21
        obtain ⟨rn, rfl, hrn⟩ := mem_map_str hv
        refine ⟨r, _, _, _, rfl, rfl, SqL.of (e2 _ _ h3 n5 n6), ev, ?_⟩
        refine ⟨_, rfl, _, rfl, _, rfl, _, rfl, _, _, rfl, rfl, ⟨by decide, by decide⟩, d, l, sc, cs, rs, ds, _, m', rfl, hnm, q1.1, q1.2, D2, S1.else e2, fun v t H3 ht hok D3 e3 => ⟨(by show 3 ≤ sizeLine; decide), fun p hp => ?_⟩⟩
        exact k (.ref p) (.at_ rn t) _ ⟨p, v, rfl, upd_same, ht.keep (TupKeep.same fun b o e => by rw [upd_ne (ne_of_none e hp)]; exact e)⟩ ⟨⟨hrn, hok.1⟩, sz_at hok.2⟩ (D3.lay hp) (e1.trans (e2.trans (e3.trans (Else.lay hp))))
      all_goals
        refine ⟨_, rfl, _, _, rfl, rfl, _, _, rfl, rfl, ⟨by decide, by decide⟩, ?_⟩
        refine ⟨_, rfl, _, rfl, _, rfl, d, l, sc, cs, rs, ds, _, m', rfl, hnm, q2.1, q2.2, D1, S1, fun v1 t1 H2 ht1 ok1 D2 e2 => ?_⟩
        refine ⟨_, rfl, d, l, 5, rfl, D2, by decide, by decide, fun r3 H3 r30 r31 D3 e3 => ?_⟩
        obtain ⟨cc, ec, hcc⟩ := atI_in (xs := ("+-*<=" : Str).cps.toList) r30 (by show _ < (5 : Int); exact r31)
        refine ⟨_, _, cc, rfl, rfl, (by show 5 ≤ sizeLine; decide), ec, _, rfl, _, rfl, _, rfl, _, rfl, d, l, sc, cs, rs, ds, _, m', rfl, hnm, q2.1, q2.2, D3, (S1.else e2).else e3, fun v2 t2 H4 ht2 ok2 D4 e4 => ⟨(by show 4 ≤ sizeLine; decide), fun p hp => ?_⟩⟩
        have kl : TupKeep H4 (upd H4 p (.tup [.str "op", .str ⟨#[cc]⟩, v1, v2])) := TupKeep.same fun b o e => by rw [upd_ne (ne_of_none e hp)]; exact e
        exact k (.ref p) (.op ⟨#[cc]⟩ t1 t2) _ ⟨p, v1, v2, rfl, upd_same, ht1.keep (((TupKeep.else D2 e3).trans (TupKeep.else D3 e4)).trans kl), ht2.keep kl⟩ ⟨⟨sign_in cc hcc, ok1.1, ok2.1⟩, sz_op ok1.2 ok2.2⟩ (D4.lay hp) (e1.trans (e2.trans (e3.trans (e4.trans (Else.lay hp)))))
    all_goals
      refine ⟨_, rfl, d, l, 3, rfl, D1, by decide, by decide, fun r2 H2 _ _ D2 e2 => ⟨rfl, _, rfl, ite2 (fun _ => ?_) (fun _ => ?_)⟩⟩
      · refine ⟨_, rfl, d, l, rfl, D2, fun a H3 wa D3 e3 => ⟨(by show 2 ≤ sizeLine; decide), fun p hp => ?_⟩⟩
        exact k (.ref p) (.num a) _ ⟨p, rfl, upd_same⟩ ⟨wa, sz_leaf _⟩ (D3.lay hp) (e1.trans (e2.trans (e3.trans (Else.lay hp))))
      · have S2 := S1.else e2
        obtain ⟨c, r, f, h1, h2, h3, h4, n1, n2, n3, n4, n5, n6, n7, n8⟩ := S2.at_
        have cl := S2.cl
        have cn : 0 < cs.length := List.length_pos_iff.mpr S2.ne
        refine ⟨_, rfl, sc, _, rfl, getK h1 (sc_cells ..), _, rfl, _, rfl, sc, _, rfl, getK h1 (sc_cells ..), c, _, rfl, .inl (SqL.of h2), d, l, _, rfl, D2, (by rw [List.length_map]; omega), (by rw [List.length_map]; omega), fun r3 H3 r30 r31 D3 e3 => ?_⟩
        obtain ⟨v, ev, hv⟩ := atI_in r30 r31
        obtain ⟨x, rfl, hx⟩ := mem_map_str hv
        refine ⟨c, _, _, _, rfl, rfl, SqL.of (e3 _ _ h2 n3 n4), ev, (by show 2 ≤ sizeLine; decide), fun p hp => ?_⟩
        exact k (.ref p) (.cell x) _ ⟨p, rfl, upd_same⟩ ⟨hx, sz_leaf _⟩ (D3.lay hp) (e1.trans (e2.trans (e3.trans (Else.lay hp))))
end
end My

set_option Elab.async false
set_option linter.all false
set_option maxRecDepth 100000
set_option maxHeartbeats 4000000
namespace L2
open PySem PySem.Spec PyProof.Rows
/-- t + u of tuples, whichever is empty -/
def rCatTT (K : PySem.W.Frag) : R2 := fun x y H Q => ∃ a b xs ys, x = .ref a ∧ y = .ref b ∧ SqT K H a xs ∧ SqT K H b ys ∧ xs.length + ys.length ≤ sizeLine ∧
  (xs = [] → Q (.ref b) H) ∧ (xs ≠ [] → ys = [] → Q (.ref a) H) ∧ (xs ≠ [] → ys ≠ [] → ∀ p, H p = none → Q (.ref p) (upd H p (.tup (xs ++ ys))))
theorem op_catTT {X : Cx} : OpR X (binaryOp .Add) (rCatTT X.K) := by
  intro pins s σ H x y v u Q I rx ry h
  obtain ⟨a, b, xs, ys, rfl, rfl, ha, hb, hz, q0, q1, q2⟩ := h
  by_cases hx : xs = []
  · cases rx
    cases ry
    obtain ⟨its, r1, p1, _⟩ := I.tuple ha
    obtain ⟨its2, r2, p2, _⟩ := I.tuple hb
    have hi : its = [] := r1.nil_iff.mpr hx
    obtain ⟨⟨cls, dd, data, sl⟩, ho, hc, n, hd⟩ := id p1
    obtain ⟨⟨cls2, dd2, data2, sl2⟩, ho2, hc2, n2, hd2⟩ := id p2
    simp only at hc hd hc2 hd2
    subst hc hd hc2 hd2
    exact concat_meets ⟨_, ho, rfl⟩ ⟨_, ho2, rfl⟩ noFill_tuple_add seq_tuple_add PySem.F.slot_tuple_add PySem.F.entry_tuple_add (PySem.F.args_tuple_add_2 _ _)
      (tuple_addW0 a b its.toArray its2.toArray n n2 dd dd2 sl sl2 (by simp [hi])) ⟨ho, ho2, ⟨.ref b, H, I, rfl, q0 hx⟩⟩
  · exact op_catT pins s σ H _ _ v u Q I rx ry ⟨a, b, xs, ys, rfl, rfl, ha, hb, hx, hz, q1 hx, q2 hx⟩
end L2
namespace My
open PySem L2
mutual
def Sm.ok (cs rs ds : List Str) : Sm → Prop
  | .set x t => x ∈ cs ∧ t.ok cs rs
  | .put r a t => r ∈ rs ∧ a.ok cs rs ∧ t.ok cs rs
  | .whil t b => t.ok cs rs ∧ okB cs rs ds b
  | .iff t b o => t.ok cs rs ∧ okB cs rs ds b ∧ okB cs rs ds o
  | .call f => f ∈ ds
def okB (cs rs ds : List Str) : List Sm → Prop
  | [] => True
  | s :: r => Sm.ok cs rs ds s ∧ okB cs rs ds r
end
mutual
def Sm.size : Sm → Nat
  | .whil _ b => 1 + sizeB b
  | .iff _ b o => 1 + sizeB b + sizeB o
  | _ => 1
def sizeB : List Sm → Nat
  | [] => 0
  | s :: r => Sm.size s + sizeB r
end
theorem okB_snoc {cs rs ds : List Str} {s : Sm} : ∀ {b : List Sm}, okB cs rs ds b → s.ok cs rs ds → okB cs rs ds (b ++ [s])
  | [], _, h => ⟨h, trivial⟩
  | _ :: _, ⟨h1, h2⟩, h => ⟨h1, okB_snoc h2 h⟩
theorem sizeB_snoc {s : Sm} : ∀ {b : List Sm}, sizeB (b ++ [s]) = sizeB b + s.size
  | [] => by simp [sizeB]
  | x :: r => by
    show x.size + sizeB (r ++ [s]) = x.size + sizeB r + s.size
    rw [sizeB_snoc]; omega
theorem SmsAt.snoc {H : Hp} {s : Sm} {v : V} : ∀ {b : List Sm} {vs : List V}, SmsAt H b vs → SmAt H s v → SmsAt H (b ++ [s]) (vs ++ [v])
  | [], vs, h, hs => by
    have e : vs = [] := h
    subst e
    exact ⟨v, [], rfl, hs, rfl⟩
  | x :: r, vs, h, hs => by
    obtain ⟨u, us, rfl, h1, h2⟩ := h
    exact ⟨u, us ++ [v], rfl, h1, SmsAt.snoc h2 hs⟩
theorem SmsAt.len {H : Hp} : ∀ {b : List Sm} {vs : List V}, SmsAt H b vs → vs.length = b.length
  | [], vs, h => by
    have e : vs = [] := h
    subst e
    rfl
  | _ :: _, _, h => by
    obtain ⟨u, us, rfl, h1, h2⟩ := h
    rw [List.length_cons, List.length_cons, SmsAt.len h2]
theorem len_size : ∀ b : List Sm, b.length ≤ sizeB b
  | [] => Nat.le_refl _
  | s :: r => by
    have h := len_size r
    have h1 : 1 ≤ s.size := by cases s <;> simp [Sm.size] <;> omega
    show r.length + 1 ≤ s.size + sizeB r
    omega
/-- what a builder of statements may change: the deal and the count of what is left -/
def Else3 (d l lf : Addr) (H H' : Hp) : Prop := ∀ b o, H b = some o → b ≠ d → b ≠ l → b ≠ lf → H' b = some o
theorem Else3.refl (d l lf : Addr) (H : Hp) : Else3 d l lf H H := fun _ _ e _ _ _ => e
theorem Else3.trans {d l lf : Addr} {H H1 H2 : Hp} (x : Else3 d l lf H H1) (y : Else3 d l lf H1 H2) : Else3 d l lf H H2 := fun b o e h1 h2 h3 => y b o (x b o e h1 h2 h3) h1 h2 h3
theorem Else3.of {d l lf : Addr} {H H' : Hp} (x : Else d l H H') : Else3 d l lf H H' := fun b o e h1 h2 _ => x b o e h1 h2
theorem Else3.lay {H : Hp} {d l lf p : Addr} {o : HO} (hp : H p = none) : Else3 d l lf H (upd H p o) := Else3.of (Else.lay hp)
structure LeftAt (H : Hp) (d l lf : Addr) (n : Int) : Prop where
  at_ : H lf = some (.lst [.int n])
  nd : lf ≠ d
  nl : lf ≠ l
theorem LeftAt.else {H H' : Hp} {d l lf : Addr} {n : Int} (L : LeftAt H d l lf n) (e : Else d l H H') : LeftAt H' d l lf n := ⟨e _ _ L.at_ L.nd L.nl, L.nd, L.nl⟩
theorem TupKeep.else3 {H H' : Hp} {d l lf : Addr} {n : Int} (D : DealAt H d l) (L : LeftAt H d l lf n) (e : Else3 d l lf H H') : TupKeep H H' := fun p xs h => by
  obtain ⟨_, _, _, D⟩ := D
  exact e p _ h (ne_of h D.dc (by intro z; cases z)) (ne_of h D.lc (by intro z; cases z)) (ne_of h L.at_ (by intro z; cases z))
theorem strs_ne_int {ys : List Str} {n : Int} : (HO.lst (ys.map V.str)) ≠ HO.lst [.int n] := by
  intro e
  have e := HO.lst.inj e
  cases ys with
  | nil => cases e
  | cons y r => cases e
theorem SceneAt.else3 {H H' : Hp} {d l sc lf : Addr} {n : Int} {cs rs ds : List Str} (S : SceneAt H d l sc cs rs ds) (L : LeftAt H d l lf n) (e : Else3 d l lf H H') : SceneAt H' d l sc cs rs ds := by
  obtain ⟨⟨c, r, f, h1, h2, h3, h4, n1, n2, n3, n4, n5, n6, n7, n8⟩, a, b, c', d'⟩ := S
  exact ⟨⟨c, r, f, e _ _ h1 n1 n2 (ne_of h1 L.at_ (by intro z; cases z)), e _ _ h2 n3 n4 (ne_of h2 L.at_ strs_ne_int), e _ _ h3 n5 n6 (ne_of h3 L.at_ strs_ne_int), e _ _ h4 n7 n8 (ne_of h4 L.at_ strs_ne_int), n1, n2, n3, n4, n5, n6, n7, n8⟩, a, b, c', d'⟩
/-- bounds by the depth that is left: j = 4 - deep -/
def sb : Nat → Nat
  | 4 => 1025 | 3 => 73 | 2 => 7 | _ => 1
def bb : Nat → Nat
  | 4 => 12300 | 3 => 511 | 2 => 35 | _ => 2
theorem bb_sb {j : Nat} (h1 : 1 ≤ j) (h3 : j ≤ 3) : 2 * bb j + 3 ≤ sb (j + 1) := by
  rcases (by omega : j = 1 ∨ j = 2 ∨ j = 3) with rfl | rfl | rfl <;> decide
theorem TupKeep.lay {H : Hp} {p : Addr} {o : HO} (hp : H p = none) : TupKeep H (upd H p o) := TupKeep.same fun b u e => by rw [upd_ne (ne_of_none e hp)]; exact e
theorem LeftAt.lay {H : Hp} {d l lf p : Addr} {n : Int} {o : HO} (L : LeftAt H d l lf n) (hp : H p = none) : LeftAt (upd H p o) d l lf n := L.else (Else.lay hp)
theorem cat_to {K : PySem.W.Frag} {H : Hp} {bp q : Addr} {us : List V} {v : V} {Q : VK} (hb : H bp = some (.tup us)) (hq : H q = some (.tup [v])) (hz : us.length + 1 ≤ sizeLine)
    (h : ∀ (z : Addr) (H' : Hp), H' z = some (.tup (us ++ [v])) → Same H H' → Q (.ref z) H') : rCatTT K (.ref bp) (.ref q) H Q := by
  refine ⟨bp, q, us, [v], rfl, rfl, SqT.of hb, SqT.of hq, hz, fun e => ?_, (fun _ e => by cases e), fun _ _ p hp => ?_⟩
  · refine h q H ?_ (Same.refl H)
    rw [e]; exact hq
  · exact h p _ upd_same fun b o e => by rw [upd_ne (ne_of_none e hp)]; exact e
/-- ('set', x, ('op', s, ('cell', x), ('num', 1))), just laid -/
theorem lay_set {H : Hp} {q1 q2 q3 q4 : Addr} {x s : Str} (h1 : H q1 = none) (h2 : (upd H q1 (.tup [.str "cell", .str x])) q2 = none) (h3 : (upd (upd H q1 (.tup [.str "cell", .str x])) q2 (.tup [.str "num", .int 1])) q3 = none)
    (h4 : (upd (upd (upd H q1 (.tup [.str "cell", .str x])) q2 (.tup [.str "num", .int 1])) q3 (.tup [.str "op", .str s, .ref q1, .ref q2])) q4 = none) :
    SmAt (upd (upd (upd (upd H q1 (.tup [.str "cell", .str x])) q2 (.tup [.str "num", .int 1])) q3 (.tup [.str "op", .str s, .ref q1, .ref q2])) q4 (.tup [.str "set", .str x, .ref q3])) (.set x (.op s (.cell x) (.num 1))) (.ref q4) ∧
    Same H (upd (upd (upd (upd H q1 (.tup [.str "cell", .str x])) q2 (.tup [.str "num", .int 1])) q3 (.tup [.str "op", .str s, .ref q1, .ref q2])) q4 (.tup [.str "set", .str x, .ref q3])) := by
  have t1 : TupKeep (upd H q1 (.tup [.str "cell", .str x])) _ := (TupKeep.lay (o := .tup [.str "num", .int 1]) h2).trans ((TupKeep.lay (o := .tup [.str "op", .str s, .ref q1, .ref q2]) h3).trans (TupKeep.lay (o := .tup [.str "set", .str x, .ref q3]) h4))
  have t2 : TupKeep (upd (upd H q1 (.tup [.str "cell", .str x])) q2 (.tup [.str "num", .int 1])) _ := (TupKeep.lay (o := .tup [.str "op", .str s, .ref q1, .ref q2]) h3).trans (TupKeep.lay (o := .tup [.str "set", .str x, .ref q3]) h4)
  have t3 := TupKeep.lay (o := .tup [.str "set", .str x, .ref q3]) h4
  refine ⟨⟨q4, .ref q3, rfl, upd_same, q3, .ref q1, .ref q2, rfl, t3 _ _ upd_same, ⟨q1, rfl, t1 _ _ upd_same⟩, ⟨q2, rfl, t2 _ _ upd_same⟩⟩, fun b o e => ?_⟩
  have e1 : (upd H q1 (.tup [.str "cell", .str x])) b = some o := by rw [upd_ne (ne_of_none e h1)]; exact e
  have e2 : (upd (upd H q1 (.tup [.str "cell", .str x])) q2 (.tup [.str "num", .int 1])) b = some o := by rw [upd_ne (ne_of_none e1 h2)]; exact e1
  have e3 : (upd (upd (upd H q1 (.tup [.str "cell", .str x])) q2 (.tup [.str "num", .int 1])) q3 (.tup [.str "op", .str s, .ref q1, .ref q2])) b = some o := by rw [upd_ne (ne_of_none e2 h3)]; exact e2
  rw [upd_ne (ne_of_none e3 h4)]; exact e3
theorem same_lay {H : Hp} {p : Addr} {o : HO} (hp : H p = none) : Same H (upd H p o) := fun b u e => by rw [upd_ne (ne_of_none e hp)]; exact e
theorem DealAt.same {H H' : Hp} {d l : Addr} (D : DealAt H d l) (s : Same H H') : DealAt H' d l := by
  obtain ⟨a, n, ms, D⟩ := D
  exact ⟨a, n, ms, s _ _ D.dc, s _ _ D.lc, D.a0, D.a1, D.n0, D.m0, D.len⟩
def spBody (j : Nat) : Sp := fun vs H Q _ => ∃ (d l sc lf : Addr) (cs rs ds : List Str) (deep n : Int), vs = [.ref d, .ref sc, .ref lf, .int deep] ∧ deep + j = 4 ∧ 0 ≤ deep ∧ deep ≤ 3 ∧ DealAt H d l ∧ SceneAt H d l sc cs rs ds ∧ LeftAt H d l lf n ∧
  ∀ (p : Addr) (us : List V) (b : List Sm) (n' : Int) (H' : Hp), H' p = some (.tup us) → SmsAt H' b us → okB cs rs ds b → sizeB b ≤ bb j → DealAt H' d l → LeftAt H' d l lf n' → Else3 d l lf H H' → Q (.ref p) H'
def spStat (j : Nat) : Sp := fun vs H Q _ => ∃ (d l sc lf : Addr) (cs rs ds : List Str) (deep n : Int), vs = [.ref d, .ref sc, .ref lf, .int deep] ∧ deep + j = 4 ∧ 0 ≤ deep ∧ deep ≤ 3 ∧ DealAt H d l ∧ SceneAt H d l sc cs rs ds ∧ LeftAt H d l lf n ∧
  ∀ (v : V) (s : Sm) (n' : Int) (H' : Hp), SmAt H' s v → s.ok cs rs ds → s.size ≤ sb j → DealAt H' d l → LeftAt H' d l lf n' → Else3 d l lf H H' → Q v H'
def spRound (j : Nat) : Sp := fun vs H Q E => (∃ (d l sc lf : Addr) (deep : Int), vs = [.ref d, .ref sc, .ref lf, .int deep] ∧ deep < 3) ∧ spStat j vs H Q E
section
variable {P : Program} {w : World} {K : PySem.W.Frag} {mg : Str → Option Value} {base : Heap}
abbrev statPs : List Str := ["_law_deal_here", "_law_scene", "_law_left", "_law_deep"]
abbrev HTerm (P : Program) (w : World) (K : PySem.W.Frag) (mg : Str → Option Value) (base : Heap) : Prop := Has P w K mg base "_law_term" 6 termPs (spTerm 4)
theorem scRound : FnScope ["_law_deal_here", "_law_scene", "_law_left", "_law_deep", "_law_x", "_law_body_here", "_law_down", "_law_more", "_law_up"] ["_law_deal_here", "_law_scene", "_law_left", "_law_deep"] (defScope sRound) := ⟨rfl, rfl, rfl, by decide +kernel, rfl, by decide +kernel, by decide +kernel⟩
theorem ok_round {j : Nat} {f : Addr} {fd : FuncData} (F : Fun K "_law_round" "_law_round" sRound f fd) (T : Blt mg) (hD : HDraw P w K mg base) (hT : HTerm P w K mg base)
    (hB : Has P w K mg base "_law_body" (3 * j + 7) statPs (spBody j)) : FnOk P w K mg base CX0 (3 * j + 8) f fd statPs (spRound (j + 1)) := by
  refine F.ok scRound (fun vs H Q E h => ?_) (fun cdv A outer s H vs Q E hr h => ?_)
  · obtain ⟨⟨d, l, sc, lf, deep, rfl, _⟩, _⟩ := h
    rfl
  · obtain ⟨⟨_, _, _, _, deep0, e0, hdp⟩, d, l, sc, lf, cs, rs, ds, deep, n, rfl, hj, dp0, dp3, D, S, L, k⟩ := h
    have hdd : deep = deep0 := by
      have q := congrArg (fun l => l[3]?) e0
      simpa using q
    rw [← hdd] at hdp
    have hu := hu_of hr
    have hr1 : Room 1 _ := hr.mono (by omega)
    have hr6 : Room 6 _ := hr.mono (by omega)
    refine ⟨_, pss_cons (ps_set (i := 4) scRound.nd rfl (Or.inl rfl) (pe_ix ix_list (pe_dget hu (pv 1) pe_str (fun _ _ => rfl)) (pe_has hD hr1 (by rfl) (pa_cons (pv 0) (pa_cons (pe_callB call_len_seq (by rfl) T.len PySem.boot_len (pa_cons (pe_dget hu (pv 1) pe_str (fun _ _ => rfl)) pa_nil)) pa_nil))) (fun _ _ => rfl)))
      (pss_cons (ps_asg (pe_op op_sub (pe_ix ix_list (pv 2) pe_int (fun _ _ => rfl)) pe_int) (pg_sub (pv 2) pe_int set_list))
      (pss_cons (ps_set (i := 5) scRound.nd rfl (Or.inl rfl) (pe_has hB hr (by rfl) (pa_cons (pv 0) (pa_cons (pv 1) (pa_cons (pv 2) (pa_cons (pe_op op_add (pv 3) pe_int) pa_nil))))))
      (pss_cons (ps_if (pt_cmpR op_eq (pe_has hD hr1 (by rfl) (pa_cons (pv 0) (pa_cons pe_int pa_nil))) pe_int (nomark _))
        (pss_one (ps_ret (pe_tup (pa_cons pe_str (pa_cons (pe_has hT hr6 (by rfl) (pa_cons (pv 0) (pa_cons (pv 1) (pa_cons pe_int pa_nil)))) (pa_cons (pv 5) pa_nil)))))) pss_nil)
      (pss_cons (ps_set (i := 6) scRound.nd rfl (Or.inl rfl) (pe_tup (pa_cons pe_str (pa_cons (pv 4) (pa_cons (pe_tup (pa_cons pe_str (pa_cons pe_str (pa_cons (pe_tup (pa_cons pe_str (pa_cons (pv 4) pa_nil))) (pa_cons (pe_tup (pa_cons pe_str (pa_cons pe_int pa_nil))) pa_nil))))) pa_nil)))))
      (pss_cons (ps_set (i := 7) scRound.nd rfl (Or.inl rfl) (pe_tup (pa_cons pe_str (pa_cons pe_str (pa_cons (pe_tup (pa_cons pe_str (pa_cons (pv 4) pa_nil))) (pa_cons (pe_tup (pa_cons pe_str (pa_cons (pe_op op_add pe_int (pe_has hD hr1 (by rfl) (pa_cons (pv 0) (pa_cons pe_int pa_nil)))) pa_nil))) pa_nil))))))
      (pss_cons (ps_set (i := 8) scRound.nd rfl (Or.inl rfl) (pe_tup (pa_cons pe_str (pa_cons (pv 4) (pa_cons (pe_tup (pa_cons pe_str (pa_cons pe_str (pa_cons (pe_tup (pa_cons pe_str (pa_cons (pv 4) pa_nil))) (pa_cons (pe_tup (pa_cons pe_str (pa_cons pe_int pa_nil))) pa_nil))))) pa_nil)))))
      (pss_one (ps_ret (pe_ix ix_list (pe_lst (pa_cons (pe_tup (pa_cons pe_str (pa_cons (pe_tup (pa_cons pe_str (pa_cons (pv 4) pa_nil))) (pa_cons (pe_op op_catTT (pv 5) (pe_tup (pa_cons (pv 6) pa_nil))) pa_nil))))
        (pa_cons (pe_tup (pa_cons pe_str (pa_cons (pv 7) (pa_cons (pe_op op_catTT (pv 5) (pe_tup (pa_cons (pv 8) pa_nil))) pa_nil)))) pa_nil)))
        (pe_has hD hr1 (by rfl) (pa_cons (pv 0) (pa_cons pe_int pa_nil))) (fun _ _ => rfl)))))))))), ?_⟩
    have jb := bb_sb (j := j) (by omega) (by omega)
    obtain ⟨c, r, f, h1, h2, h3, h4, n1, n2, n3, n4, n5, n6, n7, n8⟩ := S.at_
    have cl := S.cl
    have cn : 0 < cs.length := List.length_pos_iff.mpr S.ne
    refine ⟨_, rfl, sc, _, rfl, getK h1 (sc_cells ..), _, rfl, _, rfl, sc, _, rfl, getK h1 (sc_cells ..), c, _, rfl, .inl (SqL.of h2), d, l, _, rfl, D, (by rw [List.length_map]; omega), (by rw [List.length_map]; omega), fun r1 H1 r10 r11 D1 e1 => ?_⟩
    obtain ⟨v, ev, hv⟩ := atI_in r10 r11
    obtain ⟨x, rfl, hx⟩ := mem_map_str hv
    refine ⟨c, _, _, _, rfl, rfl, SqL.of (e1 _ _ h2 n3 n4), ev, ?_⟩
    have L1 := L.else e1
    refine ⟨_, rfl, lf, _, _, _, rfl, rfl, SqL.of L1.at_, rfl, _, _, rfl, rfl, _, rfl, lf, _, 0, 0, rfl, rfl, L1.at_, rfl, ?_⟩
    have e2 : Else3 d l lf H1 (upd H1 lf (.lst [.int (n - 1)])) := fun b o e _ _ h => by rw [upd_ne h]; exact e
    have D2 : DealAt (upd H1 lf (.lst [.int (n - 1)])) d l := D1.put L1.nd L1.nl
    have L2 : LeftAt (upd H1 lf (.lst [.int (n - 1)])) d l lf (n - 1) := ⟨upd_same, L1.nd, L1.nl⟩
    have S2 : SceneAt (upd H1 lf (.lst [.int (n - 1)])) d l sc cs rs ds := (S.else e1).else3 L1 e2
    refine ⟨_, rfl, _, rfl, _, rfl, _, rfl, _, _, rfl, rfl, d, l, sc, lf, cs, rs, ds, deep + 1, n - 1, rfl, by omega, by omega, by omega, D2, S2, L2, fun bp us b nb H3 hbp hb okb szb D3 L3 e3 => ?_⟩
    have S3 := S2.else3 L2 e3
    have E3 : Else3 d l lf H H3 := (Else3.of e1).trans (e2.trans e3)
    refine ⟨_, rfl, d, l, 4, rfl, D3, by decide, by decide, fun r4 H4 _ _ D4 e4 => ⟨rfl, _, rfl, ite2 (fun _ => ?_) (fun _ => ?_)⟩⟩
    · refine ⟨_, rfl, _, rfl, d, l, sc, cs, rs, ds, 5, 3, rfl, rfl, by decide, by decide, D4, S3.else e4, fun v t H5 ht okt D5 e5 => ⟨_, rfl, (by show 3 ≤ sizeLine; decide), fun p hp => ?_⟩⟩
      have k35 : TupKeep H3 H5 := (TupKeep.else D3 e4).trans (TupKeep.else D4 e5)
      exact k (.ref p) (.whil t b) nb _ ⟨p, v, bp, us, rfl, upd_same, ht.keep (TupKeep.lay hp), (k35.trans (TupKeep.lay hp)) _ _ hbp, hb.keep (k35.trans (TupKeep.lay hp))⟩ ⟨okt, okb⟩ (by show 1 + sizeB b ≤ _; omega) (D5.lay hp) (((L3.else e4).else e5).lay hp) (E3.trans ((Else3.of (e4.trans e5)).trans (Else3.lay hp)))
    · -- down
      refine ⟨_, rfl, _, rfl, (by show 2 ≤ sizeLine; decide), fun q1 hq1 => ⟨(by show 2 ≤ sizeLine; decide), fun q2 hq2 => ⟨(by show 4 ≤ sizeLine; decide), fun q3 hq3 => ⟨(by show 3 ≤ sizeLine; decide), fun q4 hq4 => ?_⟩⟩⟩⟩
      obtain ⟨hdn, s5⟩ := lay_set (s := "-") hq1 hq2 hq3 hq4
      generalize (upd (upd (upd (upd H4 q1 (.tup [.str "cell", .str x])) q2 (.tup [.str "num", .int 1])) q3 (.tup [.str "op", .str "-", .ref q1, .ref q2])) q4 (.tup [.str "set", .str x, .ref q3])) = H5 at hdn s5
      have D5 := D4.same s5
      -- more
      refine ⟨_, rfl, (by show 2 ≤ sizeLine; decide), fun q5 hq5 => ⟨_, rfl, d, l, 9, rfl, D5.lay hq5, by decide, by decide, fun r6 H6 r60 r61 D6 e6 => ⟨_, _, rfl, rfl, (by show 2 ≤ sizeLine; decide), fun q6 hq6 => ⟨(by show 4 ≤ sizeLine; decide), fun q7 hq7 => ?_⟩⟩⟩⟩
      have k56 : TupKeep (upd H5 q5 (.tup [.str "cell", .str x])) H6 := TupKeep.else (D5.lay hq5) e6
      have hmo : TmAt (upd (upd H6 q6 (.tup [.str "num", .int (1 + r6)])) q7 (.tup [.str "op", .str "<", .ref q5, .ref q6])) (.op "<" (.cell x) (.num (1 + r6))) (.ref q7) :=
        ⟨q7, .ref q5, .ref q6, rfl, upd_same, ⟨q5, rfl, (k56.trans ((TupKeep.lay hq6).trans (TupKeep.lay hq7))) _ _ upd_same⟩, ⟨q6, rfl, TupKeep.lay hq7 _ _ upd_same⟩⟩
      have e57 : Else d l H5 (upd (upd H6 q6 (.tup [.str "num", .int (1 + r6)])) q7 (.tup [.str "op", .str "<", .ref q5, .ref q6])) := (Else.lay hq5).trans (e6.trans ((Else.lay hq6).trans (Else.lay hq7)))
      have D7 : DealAt (upd (upd H6 q6 (.tup [.str "num", .int (1 + r6)])) q7 (.tup [.str "op", .str "<", .ref q5, .ref q6])) d l := (D6.lay hq6).lay hq7
      generalize (upd (upd H6 q6 (.tup [.str "num", .int (1 + r6)])) q7 (.tup [.str "op", .str "<", .ref q5, .ref q6])) = H7 at hmo e57 D7
      -- up
      refine ⟨_, rfl, _, rfl, (by show 2 ≤ sizeLine; decide), fun p1 hp1 => ⟨(by show 2 ≤ sizeLine; decide), fun p2 hp2 => ⟨(by show 4 ≤ sizeLine; decide), fun p3 hp3 => ⟨(by show 3 ≤ sizeLine; decide), fun p4 hp4 => ?_⟩⟩⟩⟩
      obtain ⟨hup, s8⟩ := lay_set (s := "+") hp1 hp2 hp3 hp4
      generalize (upd (upd (upd (upd H7 p1 (.tup [.str "cell", .str x])) p2 (.tup [.str "num", .int 1])) p3 (.tup [.str "op", .str "+", .ref p1, .ref p2])) p4 (.tup [.str "set", .str x, .ref p3])) = H8 at hup s8
      have k38 : TupKeep H3 H8 := (TupKeep.else D3 e4).trans ((TupKeep.same s5).trans ((TupKeep.else D5 e57).trans (TupKeep.same s8)))
      have k58 : TupKeep H5 H8 := (TupKeep.else D5 e57).trans (TupKeep.same s8)
      have ul := hb.len
      have ul2 := len_size b
      have usz : us.length + 1 ≤ sizeLine := by
        have : bb j ≤ 12300 := by
          rcases (by omega : j = 1 ∨ j = 2 ∨ j = 3) with rfl | rfl | rfl <;> decide
        have q : 12301 ≤ sizeLine := by decide
        omega
      have hbp8 := k38 _ _ hbp
      have hb8 := hb.keep k38
      have hdn8 := hdn.keep k58
      have hmo8 := hmo.keep (TupKeep.same s8)
      -- the first
      refine ⟨_, rfl, (by show 2 ≤ sizeLine; decide), fun w1 hw1 => ⟨_, rfl, _, rfl, (by show 1 ≤ sizeLine; decide), fun w2 hw2 => cat_to ((TupKeep.lay hw1).trans (TupKeep.lay hw2) _ _ hbp8) upd_same usz fun z1 H9 hz1 s9 => ⟨(by show 3 ≤ sizeLine; decide), fun w3 hw3 => ?_⟩⟩⟩
      have s89 : Same H8 H9 := (same_lay hw1).trans ((same_lay hw2).trans s9)
      have hc9 : TmAt H9 (.cell x) (.ref w1) := ⟨w1, rfl, s9 _ _ ((same_lay hw2) _ _ upd_same)⟩
      have hA : SmAt (upd H9 w3 (.tup [.str "while", .ref w1, .ref z1])) (.whil (.cell x) (b ++ [.set x (.op "-" (.cell x) (.num 1))])) (.ref w3) :=
        ⟨w3, .ref w1, z1, _, rfl, upd_same, hc9.keep (TupKeep.lay hw3), TupKeep.lay hw3 _ _ hz1, (SmsAt.snoc (hb8.keep (TupKeep.same s89)) (hdn8.keep (TupKeep.same s89))).keep (TupKeep.lay hw3)⟩
      have s8A : Same H8 (upd H9 w3 (.tup [.str "while", .ref w1, .ref z1])) := s89.trans (same_lay hw3)
      generalize (upd H9 w3 (.tup [.str "while", .ref w1, .ref z1])) = HA at hA s8A
      -- the second
      refine ⟨_, rfl, _, rfl, _, rfl, (by show 1 ≤ sizeLine; decide), fun w4 hw4 => cat_to (((TupKeep.same s8A).trans (TupKeep.lay hw4)) _ _ hbp8) upd_same usz fun z2 HB hz2 sB => ⟨(by show 3 ≤ sizeLine; decide), fun w5 hw5 => ⟨(by show 2 ≤ sizeLine; decide), fun w6 hw6 => ?_⟩⟩⟩
      have sAB : Same HA HB := (same_lay hw4).trans sB
      have s8B : Same H8 HB := s8A.trans sAB
      have hBs : SmAt (upd HB w5 (.tup [.str "while", .ref q7, .ref z2])) (.whil (.op "<" (.cell x) (.num (1 + r6))) (b ++ [.set x (.op "+" (.cell x) (.num 1))])) (.ref w5) :=
        ⟨w5, .ref q7, z2, _, rfl, upd_same, hmo8.keep ((TupKeep.same s8B).trans (TupKeep.lay hw5)), TupKeep.lay hw5 _ _ hz2, (SmsAt.snoc (hb8.keep (TupKeep.same s8B)) (hup.keep (TupKeep.same s8B))).keep (TupKeep.lay hw5)⟩
      have hAs := hA.keep ((TupKeep.same sAB).trans (TupKeep.lay (o := .tup [.str "while", .ref q7, .ref z2]) hw5))
      have s8C : Same H8 (upd (upd HB w5 (.tup [.str "while", .ref q7, .ref z2])) w6 (.lst [.ref w3, .ref w5])) := s8B.trans ((same_lay hw5).trans (same_lay hw6))
      have hAs2 := hAs.keep (TupKeep.lay (o := .lst [.ref w3, .ref w5]) hw6)
      have hBs2 := hBs.keep (TupKeep.lay (o := .lst [.ref w3, .ref w5]) hw6)
      have hw62 : (upd (upd HB w5 (.tup [.str "while", .ref q7, .ref z2])) w6 (.lst [.ref w3, .ref w5])) w6 = some (.lst [.ref w3, .ref w5]) := upd_same
      have D8 : DealAt H8 d l := D7.same s8
      have DC := D8.same s8C
      have nw6 : w6 ≠ d ∧ w6 ≠ l := ((D8.same s8B).lay hw5).fresh hw6
      generalize (upd (upd HB w5 (.tup [.str "while", .ref q7, .ref z2])) w6 (.lst [.ref w3, .ref w5])) = HC at s8C hAs2 hBs2 hw62 DC
      refine ⟨_, rfl, d, l, 2, rfl, DC, by decide, by decide, fun r9 HD r90 r91 DD eD => ?_⟩
      obtain ⟨v, ev, hv⟩ := atI_in (xs := [V.ref w3, V.ref w5]) r90 (by show _ < (2 : Int); exact r91)
      refine ⟨w6, _, _, _, rfl, rfl, SqL.of (eD _ _ hw62 nw6.1 nw6.2), ev, ?_⟩
      have kD := TupKeep.else DC eD
      have ED : Else3 d l lf H HD := E3.trans ((Else3.of e4).trans ((Else3.of (Else.of s5)).trans ((Else3.of e57).trans ((Else3.of (Else.of (s8.trans s8C))).trans (Else3.of eD)))))
      have LD : LeftAt HD d l lf nb := ((((L3.else e4).else (Else.of s5)).else e57).else (Else.of (s8.trans s8C))).else eD
      have szs : ∀ s : Sm, s.size = 1 → sizeB (b ++ [s]) + 1 ≤ sb (j + 1) := fun s h => by rw [sizeB_snoc, h]; omega
      simp only [List.mem_cons, List.not_mem_nil, or_false] at hv
      rcases hv with rfl | rfl
      · exact k _ _ nb HD (hAs2.keep kD) ⟨⟨hx, by show 1 < 16; decide⟩, okB_snoc okb ⟨hx, ⟨by decide +kernel, hx, by show Word 1; exact ⟨by decide, by decide⟩⟩, by show 3 < 16; decide⟩⟩ (by show 1 + sizeB _ ≤ _; have := szs (.set x (.op "-" (.cell x) (.num 1))) rfl; omega) DD LD ED
      · exact k _ _ nb HD (hBs2.keep kD) ⟨⟨⟨by decide +kernel, hx, by show Word (1 + r6); exact ⟨by omega, by omega⟩⟩, by show 3 < 16; decide⟩, okB_snoc okb ⟨hx, ⟨by decide +kernel, hx, by show Word 1; exact ⟨by decide, by decide⟩⟩, by show 3 < 16; decide⟩⟩ (by show 1 + sizeB _ ≤ _; have := szs (.set x (.op "+" (.cell x) (.num 1))) rfl; omega) DD LD ED
end
end My

set_option Elab.async false
set_option linter.all false
set_option maxRecDepth 100000
set_option maxHeartbeats 4000000
namespace My
open PySem L2
section
variable {P : Program} {w : World} {K : PySem.W.Frag} {mg : Str → Option Value} {base : Heap}
theorem scStat : FnScope ["_law_deal_here", "_law_scene", "_law_left", "_law_deep", "_law_form", "_law_one", "_law_r", "_law_x"] ["_law_deal_here", "_law_scene", "_law_left", "_law_deep"] (defScope sStat) := ⟨rfl, rfl, rfl, by decide +kernel, rfl, by decide +kernel, by decide +kernel⟩
theorem sb_pos (j : Nat) : 1 ≤ sb j := by
  unfold sb
  split <;> decide
theorem ok_stat {j : Nat} {f : Addr} {fd : FuncData} (F : Fun K "_law_statement" "_law_statement" sStat f fd) (T : Blt mg) (hD : HDraw P w K mg base) (hT : HTerm P w K mg base)
    (hB : Has P w K mg base "_law_body" (3 * j + 7) statPs (spBody j)) (hR : Has P w K mg base "_law_round" (3 * j + 8) statPs (spRound (j + 1))) : FnOk P w K mg base CX0 (3 * j + 9) f fd statPs (spStat (j + 1)) := by
  refine F.ok scStat (fun vs H Q E h => ?_) (fun cdv A outer s H vs Q E hr h => ?_)
  · obtain ⟨d, l, sc, lf, cs, rs, ds, deep, n, rfl, _⟩ := h
    rfl
  · obtain ⟨d, l, sc, lf, cs, rs, ds, deep, n, rfl, hj, dp0, dp3, D, S, L, k⟩ := h
    have hu := hu_of hr
    have hr1 : Room 1 _ := hr.mono (by omega)
    have hr6 : Room 6 _ := hr.mono (by omega)
    have hrB : Room (3 * j + 7) _ := hr.mono (by omega)
    refine ⟨_, pss_cons (ps_set (i := 4) scStat.nd rfl (Or.inl rfl) (pe_has hD hr1 (by rfl) (pa_cons (pv 0) (pa_cons pe_int pa_nil))))
      (pss_cons (ps_if (pw_and (pt_cmpR op_eq (pv 4) pe_int (nomark _)) (pw_and1 (pt_cmpR op_lt (pv 3) pe_int (nomark _)))).pt
        (pss_cons (ps_set (i := 5) scStat.nd rfl (Or.inl rfl) (pe_has hB hrB (by rfl) (pa_cons (pv 0) (pa_cons (pv 1) (pa_cons (pv 2) (pa_cons (pe_op op_add (pv 3) pe_int) pa_nil))))))
        (pss_one (ps_ret (pe_tup (pa_cons pe_str (pa_cons (pe_has hT hr6 (by rfl) (pa_cons (pv 0) (pa_cons (pv 1) (pa_cons pe_int pa_nil)))) (pa_cons (pv 5) (pa_cons (pe_has hB hrB (by rfl) (pa_cons (pv 0) (pa_cons (pv 1) (pa_cons (pv 2) (pa_cons (pe_op op_add (pv 3) pe_int) pa_nil))))) pa_nil)))))))) pss_nil)
      (pss_cons (ps_if (pw_and (pt_cmpR op_lt (pv 4) pe_int (nomark _)) (pw_and1 (pt_cmpR op_lt (pv 3) pe_int (nomark _)))).pt
        (pss_one (ps_ret (pe_has hR hr (by rfl) (pa_cons (pv 0) (pa_cons (pv 1) (pa_cons (pv 2) (pa_cons (pv 3) pa_nil))))))) pss_nil)
      (pss_cons (ps_if (pw_and (pt_cmpR op_lt (pv 4) pe_int (nomark _)) (pw_and1 (pt_cmpR op_gt (pe_callB call_len_seq (by rfl) T.len PySem.boot_len (pa_cons (pe_dget hu (pv 1) pe_str (fun _ _ => rfl)) pa_nil)) pe_int (nomark _)))).pt
        (pss_one (ps_ret (pe_tup (pa_cons pe_str (pa_cons (pe_ix ix_list (pe_dget hu (pv 1) pe_str (fun _ _ => rfl)) (pe_has hD hr1 (by rfl) (pa_cons (pv 0) (pa_cons (pe_callB call_len_seq (by rfl) T.len PySem.boot_len (pa_cons (pe_dget hu (pv 1) pe_str (fun _ _ => rfl)) pa_nil)) pa_nil))) (fun _ _ => rfl)) pa_nil))))) pss_nil)
      (pss_cons (ps_if (pw_and (pt_cmpR op_eq (pv 4) pe_int (nomark _)) (pw_and1 (pt_cmpR op_gt (pe_callB call_len_seq (by rfl) T.len PySem.boot_len (pa_cons (pe_dget hu (pv 1) pe_str (fun _ _ => rfl)) pa_nil)) pe_int (nomark _)))).pt
        (pss_cons (ps_set (i := 6) scStat.nd rfl (Or.inl rfl) (pe_ix ix_list (pe_dget hu (pv 1) pe_str (fun _ _ => rfl)) (pe_has hD hr1 (by rfl) (pa_cons (pv 0) (pa_cons (pe_callB call_len_seq (by rfl) T.len PySem.boot_len (pa_cons (pe_dget hu (pv 1) pe_str (fun _ _ => rfl)) pa_nil)) pa_nil))) (fun _ _ => rfl)))
        (pss_one (ps_ret (pe_tup (pa_cons pe_str (pa_cons (pv 6) (pa_cons (pe_has hT hr6 (by rfl) (pa_cons (pv 0) (pa_cons (pv 1) (pa_cons pe_int pa_nil)))) (pa_cons (pe_has hT hr6 (by rfl) (pa_cons (pv 0) (pa_cons (pv 1) (pa_cons pe_int pa_nil)))) pa_nil)))))))) pss_nil)
      (pss_cons (ps_set (i := 7) scStat.nd rfl (Or.inl rfl) (pe_ix ix_list (pe_dget hu (pv 1) pe_str (fun _ _ => rfl)) (pe_has hD hr1 (by rfl) (pa_cons (pv 0) (pa_cons (pe_callB call_len_seq (by rfl) T.len PySem.boot_len (pa_cons (pe_dget hu (pv 1) pe_str (fun _ _ => rfl)) pa_nil)) pa_nil))) (fun _ _ => rfl)))
      (pss_one (ps_ret (pe_tup (pa_cons pe_str (pa_cons (pv 7) (pa_cons (pe_has hT hr6 (by rfl) (pa_cons (pv 0) (pa_cons (pv 1) (pa_cons (pe_ix ix_list (pe_lst (pa_cons pe_int (pa_cons pe_int (pa_cons pe_int pa_nil)))) (pe_has hD hr1 (by rfl) (pa_cons (pv 0) (pa_cons pe_int pa_nil))) (fun _ _ => rfl)) pa_nil)))) pa_nil))))))))))), ?_⟩
    have s1 := sb_pos (j + 1)
    refine ⟨_, rfl, d, l, 10, rfl, D, by decide, by decide, fun fm H1 f0 f1 D1 e1 => ?_⟩
    have S1 := S.else e1
    have L1 := L.else e1
    obtain ⟨c, r, f, h1, h2, h3, h4, n1, n2, n3, n4, n5, n6, n7, n8⟩ := S1.at_
    have cl := S1.cl
    have rl := S1.rl
    have dl := S1.dl
    have cn : 0 < cs.length := List.length_pos_iff.mpr S1.ne
    -- if
    refine ⟨_, rfl, rfl, _, rfl, (fun key => ite2 (fun _ => ⟨_, rfl, _, _, rfl, rfl, _, rfl, ite2 (fun g => ?x1) (fun _ => key)⟩) (fun _ => iteF key)) ?y1⟩
    case x1 =>
      have g' : deep < 3 := of_decide_eq_true g
      have jb := bb_sb (j := j) (by omega) (by omega)
      refine ⟨_, rfl, _, rfl, _, rfl, _, rfl, _, _, rfl, rfl, d, l, sc, lf, cs, rs, ds, deep + 1, n, rfl, by omega, by omega, by omega, D1, S1, L1, fun bp us b nb H3 hbp hb okb szb D3 L3 e3 => ?_⟩
      have S3 := S1.else3 L1 e3
      refine ⟨_, rfl, _, rfl, d, l, sc, cs, rs, ds, 5, 3, rfl, rfl, by decide, by decide, D3, S3, fun v t H4 ht okt D4 e4 => ?_⟩
      refine ⟨_, rfl, _, rfl, _, rfl, _, rfl, _, rfl, _, _, rfl, rfl, d, l, sc, lf, cs, rs, ds, deep + 1, nb, rfl, by omega, by omega, by omega, D4, S3.else e4, L3.else e4, fun bp2 us2 b2 nb2 H5 hbp2 hb2 okb2 szb2 D5 L5 e5 => ⟨(by show 4 ≤ sizeLine; decide), fun p hp => ?_⟩⟩
      have k45 := TupKeep.else3 D4 (L3.else e4) e5
      have k35 := (TupKeep.else D3 e4).trans k45
      exact k (.ref p) (.iff t b b2) nb2 _ ⟨p, v, bp, us, bp2, us2, rfl, upd_same, ht.keep (k45.trans (TupKeep.lay hp)), (k35.trans (TupKeep.lay hp)) _ _ hbp, hb.keep (k35.trans (TupKeep.lay hp)), TupKeep.lay hp _ _ hbp2, hb2.keep (TupKeep.lay hp)⟩ ⟨okt, okb, okb2⟩ (by show 1 + sizeB b + sizeB b2 ≤ _; omega) (D5.lay hp) (L5.lay hp) ((Else3.of e1).trans (e3.trans ((Else3.of e4).trans (e5.trans (Else3.lay hp)))))
    -- round
    refine ⟨_, rfl, _, _, rfl, rfl, _, rfl, (fun key => ite2 (fun _ => ⟨_, rfl, _, _, rfl, rfl, _, rfl, ite2 (fun g => ?x2) (fun _ => key)⟩) (fun _ => iteF key)) ?y2⟩
    case x2 =>
      have g' : deep < 3 := of_decide_eq_true g
      exact ⟨_, rfl, _, rfl, _, rfl, _, rfl, ⟨d, l, sc, lf, deep, rfl, g'⟩, d, l, sc, lf, cs, rs, ds, deep, n, rfl, hj, dp0, dp3, D1, S1, L1, fun v s n' H' a1 a2 a3 a4 a5 a6 => k v s n' H' a1 a2 a3 a4 a5 ((Else3.of e1).trans a6)⟩
    -- call
    refine ⟨_, rfl, _, _, rfl, rfl, _, rfl, (fun key => ite2 (fun _ => ⟨_, rfl, sc, _, rfl, getK h1 (sc_defs ..), f, _, rfl, .inl (SqL.of h4), _, _, rfl, rfl, _, rfl, ite2 (fun g => ?x3) (fun _ => key)⟩) (fun _ => iteF key)) ?y3⟩
    case x3 =>
      have g' : 0 < ds.length := by
        have := of_decide_eq_true g
        rw [List.length_map] at this
        omega
      refine ⟨_, rfl, sc, _, rfl, getK h1 (sc_defs ..), _, rfl, _, rfl, sc, _, rfl, getK h1 (sc_defs ..), f, _, rfl, .inl (SqL.of h4), d, l, _, rfl, D1, (by rw [List.length_map]; omega), (by rw [List.length_map]; omega), fun r2 H2 r20 r21 D2 e2 => ?_⟩
      obtain ⟨v, ev, hv⟩ := atI_in r20 r21
      obtain ⟨fn, rfl, hfn⟩ := mem_map_str hv
      refine ⟨f, _, _, _, rfl, rfl, SqL.of (e2 _ _ h4 n7 n8), ev, (by show 2 ≤ sizeLine; decide), fun p hp => ?_⟩
      exact k (.ref p) (.call fn) n _ ⟨p, rfl, upd_same⟩ hfn s1 (D2.lay hp) ((L1.else e2).lay hp) ((Else3.of (e1.trans e2)).trans (Else3.lay hp))
    -- put
    refine ⟨_, rfl, rfl, _, rfl, (fun key => ite2 (fun _ => ⟨_, rfl, sc, _, rfl, getK h1 (sc_rows ..), r, _, rfl, .inl (SqL.of h3), _, _, rfl, rfl, _, rfl, ite2 (fun g => ?x4) (fun _ => key)⟩) (fun _ => iteF key)) ?y4⟩
    case x4 =>
      have g' : 0 < rs.length := by
        have := of_decide_eq_true g
        rw [List.length_map] at this
        omega
      refine ⟨_, rfl, sc, _, rfl, getK h1 (sc_rows ..), _, rfl, _, rfl, sc, _, rfl, getK h1 (sc_rows ..), r, _, rfl, .inl (SqL.of h3), d, l, _, rfl, D1, (by rw [List.length_map]; omega), (by rw [List.length_map]; omega), fun r2 H2 r20 r21 D2 e2 => ?_⟩
      obtain ⟨v, ev, hv⟩ := atI_in r20 r21
      obtain ⟨rn, rfl, hrn⟩ := mem_map_str hv
      refine ⟨r, _, _, _, rfl, rfl, SqL.of (e2 _ _ h3 n5 n6), ev, ?_⟩
      refine ⟨_, rfl, _, rfl, _, rfl, d, l, sc, cs, rs, ds, 3, 3, rfl, rfl, by decide, by decide, D2, S1.else e2, fun v1 t1 H3 ht1 ok1 D3 e3 => ?_⟩
      refine ⟨_, rfl, _, rfl, d, l, sc, cs, rs, ds, 7, 3, rfl, rfl, by decide, by decide, D3, (S1.else e2).else e3, fun v2 t2 H4 ht2 ok2 D4 e4 => ⟨(by show 4 ≤ sizeLine; decide), fun p hp => ?_⟩⟩
      exact k (.ref p) (.put rn t1 t2) n _ ⟨p, v1, v2, rfl, upd_same, ht1.keep ((TupKeep.else D3 e4).trans (TupKeep.lay hp)), ht2.keep (TupKeep.lay hp)⟩ ⟨hrn, ok1, ok2⟩ s1 (D4.lay hp) ((((L1.else e2).else e3).else e4).lay hp) ((Else3.of (e1.trans (e2.trans (e3.trans e4)))).trans (Else3.lay hp))
    -- set
    refine ⟨_, rfl, sc, _, rfl, getK h1 (sc_cells ..), _, rfl, _, rfl, sc, _, rfl, getK h1 (sc_cells ..), c, _, rfl, .inl (SqL.of h2), d, l, _, rfl, D1, (by rw [List.length_map]; omega), (by rw [List.length_map]; omega), fun r2 H2 r20 r21 D2 e2 => ?_⟩
    obtain ⟨v, ev, hv⟩ := atI_in r20 r21
    obtain ⟨x, rfl, hx⟩ := mem_map_str hv
    refine ⟨c, _, _, _, rfl, rfl, SqL.of (e2 _ _ h2 n3 n4), ev, ?_⟩
    refine ⟨_, rfl, _, rfl, _, rfl, (by show 3 ≤ sizeLine; decide), fun q hq => ⟨_, rfl, d, l, 3, rfl, D2.lay hq, by decide, by decide, fun r3 H3 r30 r31 D3 e3 => ?_⟩⟩
    obtain ⟨nq1, nq2⟩ := D2.fresh hq
    obtain ⟨v, ev3, hv3⟩ := atI_in (xs := [V.int 3, V.int 9, V.int 20]) r30 (by show _ < (3 : Int); exact r31)
    obtain ⟨rm, rfl, rm0, rm1⟩ : ∃ m, v = V.int m ∧ 0 ≤ m ∧ m ≤ 20 := by
      simp only [List.mem_cons, List.not_mem_nil, or_false] at hv3
      rcases hv3 with rfl | rfl | rfl
      · exact ⟨_, rfl, by decide, by decide⟩
      · exact ⟨_, rfl, by decide, by decide⟩
      · exact ⟨_, rfl, by decide, by decide⟩
    refine ⟨q, _, _, _, rfl, rfl, SqL.of (e3 _ _ upd_same nq1 nq2), ev3, d, l, sc, cs, rs, ds, rm, 3, rfl, rfl, rm0, by omega, D3, ((S1.else e2).else (Else.lay hq)).else e3, fun v t H4 ht okt D4 e4 => ⟨(by show 3 ≤ sizeLine; decide), fun p hp => ?_⟩⟩
    exact k (.ref p) (.set x t) n _ ⟨p, v, rfl, upd_same, ht.keep (TupKeep.lay hp)⟩ ⟨hx, okt⟩ s1 (D4.lay hp) (((((L1.else e2).lay hq).else e3).else e4).lay hp) ((Else3.of (e1.trans (e2.trans ((Else.lay hq).trans (e3.trans e4))))).trans (Else3.lay hp))
end
end My

set_option Elab.async false
set_option linter.all false
set_option maxRecDepth 100000
set_option maxHeartbeats 4000000
namespace My
open PySem L2
@[irreducible] def hBodyD1 : List PySem.Expr :=
  [ (PySem.Expr.List (elts := [ (PySem.Expr.Constant (PySem.Const.int 5) 0 ⟨161, 52, 161, 53⟩), (PySem.Expr.Constant (PySem.Const.int 13) 0 ⟨161, 55, 161, 57⟩)]) (pos := ⟨161, 51, 161, 58⟩)), (PySem.Expr.List (elts := [ (PySem.Expr.Constant (PySem.Const.int 4) 0 ⟨161, 61, 161, 62⟩), (PySem.Expr.Constant (PySem.Const.int 8) 0 ⟨161, 64, 161, 65⟩)]) (pos := ⟨161, 60, 161, 66⟩)), (PySem.Expr.List (elts := [ (PySem.Expr.Constant (PySem.Const.int 3) 0 ⟨161, 69, 161, 70⟩), (PySem.Expr.Constant (PySem.Const.int 6) 0 ⟨161, 72, 161, 73⟩)]) (pos := ⟨161, 68, 161, 74⟩)), (PySem.Expr.List (elts := [ (PySem.Expr.Constant (PySem.Const.int 3) 0 ⟨161, 77, 161, 78⟩), (PySem.Expr.Constant (PySem.Const.int 3) 0 ⟨161, 80, 161, 81⟩)]) (pos := ⟨161, 76, 161, 82⟩))]
def hBodyB : List PySem.Stmt :=
  [ (PySem.Stmt.Assign (targets := [(PySem.Expr.Name "_law_found" ⟨160, 4, 160, 14⟩)]) (value := (PySem.Expr.List [] ⟨160, 17, 160, 19⟩)) (pos := ⟨160, 4, 160, 19⟩)), (PySem.Stmt.For (target := (PySem.Expr.Name "_law_k" ⟨161, 8, 161, 14⟩)) (iter := (PySem.Expr.Call (func := (PySem.Expr.Name "range" ⟨161, 18, 161, 23⟩)) (args := [ (PySem.Expr.Call (func := (PySem.Expr.Name "_law_draw" ⟨161, 24, 161, 33⟩)) (args := [ (PySem.Expr.Name "_law_deal_here" ⟨161, 34, 161, 48⟩), (PySem.Expr.Subscript (value := (PySem.Expr.Subscript (value := (PySem.Expr.List (elts := hBodyD1) (pos := ⟨161, 50, 161, 83⟩))) (slice := (PySem.Expr.Name "_law_deep" ⟨161, 84, 161, 93⟩)) (pos := ⟨161, 50, 161, 94⟩))) (slice := (PySem.Expr.Call (func := (PySem.Expr.Name "_law_draw" ⟨161, 95, 161, 104⟩)) (args := [ (PySem.Expr.Name "_law_deal_here" ⟨161, 105, 161, 119⟩), (PySem.Expr.Constant (PySem.Const.int 2) 0 ⟨161, 121, 161, 122⟩)]) (keywords := []) (pos := ⟨161, 95, 161, 123⟩))) (pos := ⟨161, 50, 161, 124⟩))]) (keywords := []) (pos := ⟨161, 24, 161, 125⟩))]) (keywords := []) (pos := ⟨161, 18, 161, 126⟩))) (body := [ (PySem.Stmt.If (test := (PySem.Expr.Compare (left := (PySem.Expr.Subscript (value := (PySem.Expr.Name "_law_left" ⟨162, 11, 162, 20⟩)) (slice := (PySem.Expr.Constant (PySem.Const.int 0) 0 ⟨162, 21, 162, 22⟩)) (pos := ⟨162, 11, 162, 23⟩))) (ops := [PySem.CmpOp.Gt]) (comparators := [(PySem.Expr.Constant (PySem.Const.int 1) 0 ⟨162, 26, 162, 27⟩)]) (pos := ⟨162, 11, 162, 27⟩))) (body := [ (PySem.Stmt.Assign (targets := [ (PySem.Expr.Subscript (value := (PySem.Expr.Name "_law_left" ⟨163, 12, 163, 21⟩)) (slice := (PySem.Expr.Constant (PySem.Const.int 0) 0 ⟨163, 22, 163, 23⟩)) (pos := ⟨163, 12, 163, 24⟩))]) (value := (PySem.Expr.BinOp (left := (PySem.Expr.Subscript (value := (PySem.Expr.Name "_law_left" ⟨163, 27, 163, 36⟩)) (slice := (PySem.Expr.Constant (PySem.Const.int 0) 0 ⟨163, 37, 163, 38⟩)) (pos := ⟨163, 27, 163, 39⟩))) (op := PySem.Operator.Sub) (right := (PySem.Expr.Constant (PySem.Const.int 1) 0 ⟨163, 42, 163, 43⟩)) (pos := ⟨163, 27, 163, 43⟩))) (pos := ⟨163, 12, 163, 43⟩)), (PySem.Stmt.Expr (value := (PySem.Expr.Call (func := (PySem.Expr.Attribute (PySem.Expr.Name "_law_found" ⟨164, 12, 164, 22⟩) "append" ⟨164, 12, 164, 29⟩)) (args := [ (PySem.Expr.Call (func := (PySem.Expr.Name "_law_statement" ⟨164, 30, 164, 44⟩)) (args := [ (PySem.Expr.Name "_law_deal_here" ⟨164, 45, 164, 59⟩), (PySem.Expr.Name "_law_scene" ⟨164, 61, 164, 71⟩), (PySem.Expr.Name "_law_left" ⟨164, 73, 164, 82⟩), (PySem.Expr.Name "_law_deep" ⟨164, 84, 164, 93⟩)]) (keywords := []) (pos := ⟨164, 30, 164, 94⟩))]) (keywords := []) (pos := ⟨164, 12, 164, 95⟩))) (pos := ⟨164, 12, 164, 95⟩))]) (orelse := []) (pos := ⟨162, 8, 164, 95⟩))]) (orelse := []) (pos := ⟨161, 4, 164, 95⟩)), (PySem.Stmt.Return (value := (some (PySem.Expr.Call (func := (PySem.Expr.Name "tuple" ⟨165, 11, 165, 16⟩)) (args := [(PySem.Expr.Name "_law_found" ⟨165, 17, 165, 27⟩)]) (keywords := []) (pos := ⟨165, 11, 165, 28⟩)))) (pos := ⟨165, 4, 165, 28⟩))]
theorem hBodyB_eq : defBody sBody = hBodyB := by
  unfold hBodyB hBodyD1
  rfl
def tPairs4 : TA := tCons (tLst (tCons (tC (.int 5)) (tCons (tC (.int 13)) tNil))) (tCons (tLst (tCons (tC (.int 4)) (tCons (tC (.int 8)) tNil))) (tCons (tLst (tCons (tC (.int 3)) (tCons (tC (.int 6)) tNil))) (tCons (tLst (tCons (tC (.int 3)) (tCons (tC (.int 3)) tNil))) tNil)))
theorem hBody1 {X : Cx} : PA X hBodyD1 tPairs4 := by
  unfold hBodyD1
  exact pa_cons (pe_lst (pa_cons pe_int (pa_cons pe_int pa_nil))) (pa_cons (pe_lst (pa_cons pe_int (pa_cons pe_int pa_nil))) (pa_cons (pe_lst (pa_cons pe_int (pa_cons pe_int pa_nil))) (pa_cons (pe_lst (pa_cons pe_int (pa_cons pe_int pa_nil))) pa_nil)))
/-- at most so many statements in a body -/
def mx : Nat → Nat
  | 4 => 12 | 3 => 7 | 2 => 5 | _ => 2
theorem mx_bb {j : Nat} (h1 : 1 ≤ j) (h4 : j ≤ 4) : mx j * sb j ≤ bb j := by
  rcases (by omega : j = 1 ∨ j = 2 ∨ j = 3 ∨ j = 4) with rfl | rfl | rfl | rfl <;> decide
theorem mx_le (j : Nat) : mx j ≤ 12 := by
  unfold mx
  split <;> decide
theorem TupKeep.put {H : Hp} {p : Addr} {us ws : List V} (h : H p = some (.lst us)) : TupKeep H (upd H p (.lst ws)) := fun q xs e => by
  rw [upd_ne (ne_of e h (by intro z; cases z))]; exact e
/-- the four pairs, just laid -/
theorem lay_pairs {H : Hp} {d l q1 q2 q3 q4 q5 : Addr} (D : DealAt H d l) {deep : Int} {j : Nat} (hj : deep + (j + 1 : Nat) = 4) (h0 : 0 ≤ deep) (h3 : deep ≤ 3) (h1 : H q1 = none) (h2 : (upd H q1 (.lst [.int 5, .int 13])) q2 = none)
    (hh3 : (upd (upd H q1 (.lst [.int 5, .int 13])) q2 (.lst [.int 4, .int 8])) q3 = none) (h4 : (upd (upd (upd H q1 (.lst [.int 5, .int 13])) q2 (.lst [.int 4, .int 8])) q3 (.lst [.int 3, .int 6])) q4 = none)
    (h5 : (upd (upd (upd (upd H q1 (.lst [.int 5, .int 13])) q2 (.lst [.int 4, .int 8])) q3 (.lst [.int 3, .int 6])) q4 (.lst [.int 3, .int 3])) q5 = none) :
    Same H (upd (upd (upd (upd (upd H q1 (.lst [.int 5, .int 13])) q2 (.lst [.int 4, .int 8])) q3 (.lst [.int 3, .int 6])) q4 (.lst [.int 3, .int 3])) q5 (.lst [.ref q1, .ref q2, .ref q3, .ref q4])) ∧
    ∃ (q : Addr) (a b : Int), atI [V.ref q1, V.ref q2, V.ref q3, V.ref q4] deep = some (.ref q) ∧ (upd (upd (upd (upd (upd H q1 (.lst [.int 5, .int 13])) q2 (.lst [.int 4, .int 8])) q3 (.lst [.int 3, .int 6])) q4 (.lst [.int 3, .int 3])) q5 (.lst [.ref q1, .ref q2, .ref q3, .ref q4])) q = some (.lst [.int a, .int b]) ∧ q ≠ d ∧ q ≠ l ∧ 1 ≤ a ∧ 1 ≤ b ∧ a ≤ (mx (j + 1) : Nat) + 1 ∧ b ≤ (mx (j + 1) : Nat) + 1 := by
  have st : ∀ {G : Hp} {p b : Addr} {o u : HO}, G p = none → G b = some u → (upd G p o) b = some u := fun hp e => by rw [upd_ne (ne_of_none e hp)]; exact e
  have fr : ∀ {G : Hp} {p b : Addr} {o : HO}, (upd G p o) b = none → G b = none := by
    intro G p b o e
    by_cases hb : b = p
    · subst hb; rw [upd_same] at e; cases e
    · rwa [upd_ne hb] at e
  refine ⟨fun b o e => st h5 (st h4 (st hh3 (st h2 (st h1 e)))), ?_⟩
  have f1 := D.fresh h1
  have f2 := D.fresh (fr h2)
  have f3 := D.fresh (fr (fr hh3))
  have f4 := D.fresh (fr (fr (fr h4)))
  rcases (by omega : deep = 0 ∨ deep = 1 ∨ deep = 2 ∨ deep = 3) with rfl | rfl | rfl | rfl
  · obtain rfl : j = 3 := by omega
    exact ⟨q1, 5, 13, rfl, st h5 (st h4 (st hh3 (st h2 upd_same))), f1.1, f1.2, by decide, by decide, by decide, by decide⟩
  · obtain rfl : j = 2 := by omega
    exact ⟨q2, 4, 8, rfl, st h5 (st h4 (st hh3 upd_same)), f2.1, f2.2, by decide, by decide, by decide, by decide⟩
  · obtain rfl : j = 1 := by omega
    exact ⟨q3, 3, 6, rfl, st h5 (st h4 upd_same), f3.1, f3.2, by decide, by decide, by decide, by decide⟩
  · obtain rfl : j = 0 := by omega
    exact ⟨q4, 3, 3, rfl, st h5 upd_same, f4.1, f4.2, by decide, by decide, by decide, by decide⟩
section
variable {P : Program} {w : World} {K : PySem.W.Frag} {mg : Str → Option Value} {base : Heap}
theorem scBody : FnScope ["_law_deal_here", "_law_scene", "_law_left", "_law_deep", "_law_found", "_law_k"] ["_law_deal_here", "_law_scene", "_law_left", "_law_deep"] (defScope sBody) := ⟨rfl, rfl, rfl, by decide +kernel, rfl, by decide +kernel, by decide +kernel⟩
theorem ok_body {j : Nat} {f : Addr} {fd : FuncData} (F : Fun K "_law_body" "_law_body" sBody f fd) (C : Con7 mg) (T : Blt mg) (hD : HDraw P w K mg base)
    (hS : Has P w K mg base "_law_statement" (3 * j + 9) statPs (spStat (j + 1))) : FnOk P w K mg base CX0 (3 * j + 10) f fd statPs (spBody (j + 1)) := by
  refine F.ok scBody (fun vs H Q E h => ?_) (fun cdv A outer s H vs Q E hr h => ?_)
  · obtain ⟨d, l, sc, lf, cs, rs, ds, deep, n, rfl, _⟩ := h
    rfl
  · obtain ⟨d, l, sc, lf, cs, rs, ds, deep, n, rfl, hj, dp0, dp3, D, S, L, k⟩ := h
    rw [hBodyB_eq]
    unfold hBodyB
    have hu := hu_of hr
    have hr1 : Room 1 _ := hr.mono (by omega)
    refine ⟨_, pss_cons (ps_set (i := 4) scBody.nd rfl (Or.inl rfl) (pe_lst pa_nil))
      (pss_cons (ps_for PassesOwn.never rfl (pi_range1 (by rfl) C.range (pa_cons (pe_has hD hr1 (by rfl) (pa_cons (pv 0) (pa_cons
          (pe_ix ix_list (pe_ix ix_list (pe_lst hBody1) (pv 3) (fun _ _ => rfl))
            (pe_has hD hr1 (by rfl) (pa_cons (pv 0) (pa_cons pe_int pa_nil))) (fun _ _ => rfl)) pa_nil))) pa_nil)) (pg_name (i := 5) scBody.nd rfl (Or.inl rfl))
        (pss_one (ps_if (pt_cmpR op_gt (pe_ix ix_list (pv 2) pe_int (fun _ _ => rfl)) pe_int (nomark _))
          (pss_cons (ps_asg (pe_op op_sub (pe_ix ix_list (pv 2) pe_int (fun _ _ => rfl)) pe_int) (pg_sub (pv 2) pe_int set_list))
          (pss_one (ps_expr (pe_bm PySem.F.plainAttrs_list PySem.F.slot_list_append PySem.F.type_list_append mt_append (pv 4)
            (pa_cons (pe_has hS hr (by rfl) (pa_cons (pv 0) (pa_cons (pv 1) (pa_cons (pv 2) (pa_cons (pv 3) pa_nil))))) pa_nil))))) pss_nil)))
      (pss_one (ps_ret (pe_callTy call_tuple_of (by rfl) C.tuple PyProof.Rows.boot_tuple (pa_cons (pv 4) pa_nil))))), ?_⟩
    refine ⟨Nat.zero_le _, fun fl hfl => ?_⟩
    obtain ⟨nfd, nfl⟩ := D.fresh hfl
    have nff : fl ≠ lf := fun e => ne_of_none L.at_ hfl e.symm
    have D0 : DealAt (upd H fl (.lst [])) d l := D.lay hfl
    refine ⟨_, rfl, (by show 2 ≤ sizeLine; decide), fun q1 hq1 => ⟨(by show 2 ≤ sizeLine; decide), fun q2 hq2 => ⟨(by show 2 ≤ sizeLine; decide), fun q3 hq3 => ⟨(by show 2 ≤ sizeLine; decide), fun q4 hq4 => ⟨(by show 4 ≤ sizeLine; decide), fun q5 hq5 => ?_⟩⟩⟩⟩⟩
    obtain ⟨s1, q, a, b, ev, hq, nq1, nq2, a1, b1, am, bm⟩ := lay_pairs D0 hj dp0 dp3 hq1 hq2 hq3 hq4 hq5
    refine ⟨_, rfl, q5, _, _, _, rfl, rfl, SqL.of upd_same, ev, ?_⟩
    generalize (upd (upd (upd (upd (upd (upd H fl (.lst [])) q1 (.lst [.int 5, .int 13])) q2 (.lst [.int 4, .int 8])) q3 (.lst [.int 3, .int 6])) q4 (.lst [.int 3, .int 3])) q5 (.lst [.ref q1, .ref q2, .ref q3, .ref q4])) = H1 at hq s1
    have D1 := D0.same s1
    refine ⟨_, rfl, d, l, 2, rfl, D1, by decide, by decide, fun r H2 r0 r1 D2 e2 => ?_⟩
    obtain ⟨m, em, m1, mm⟩ : ∃ m, atI [V.int a, V.int b] r = some (.int m) ∧ 1 ≤ m ∧ m ≤ (mx (j + 1) : Nat) + 1 := by
      rcases (by omega : r = 0 ∨ r = 1) with rfl | rfl
      · exact ⟨a, rfl, a1, am⟩
      · exact ⟨b, rfl, b1, bm⟩
    have mx12 := mx_le (j + 1)
    refine ⟨q, _, _, _, rfl, rfl, SqL.of (e2 _ _ hq nq1 nq2), em, d, l, m, rfl, D2, by omega, by omega, fun c H3 c0 c1 D3 e3 => ?_⟩
    have E3 : Else d l (upd H fl (.lst [])) H3 := (Else.of s1).trans (e2.trans e3)
    have hf3 : H3 fl = some (.lst []) := E3 _ _ upd_same nfd nfl
    have L3 : LeftAt H3 d l lf n := (L.lay hfl).else E3
    have E03 : Else3 d l lf H H3 := (Else3.lay hfl).trans (Else3.of E3)
    refine ⟨c, rfl, by omega, by omega, for_range (lo := 0) (n := c.toNat) (fun i σ H5 => ∃ (us : List V) (b : List Sm) (n5 : Int) (v5 : Option V), σ = [some (.ref d), some (.ref sc), some (.ref lf), some (.int deep), some (.ref fl), v5] ∧
      H5 fl = some (.lst us) ∧ SmsAt H5 b us ∧ okB cs rs ds b ∧ sizeB b ≤ i * sb (j + 1) ∧ us.length ≤ i ∧ DealAt H5 d l ∧ LeftAt H5 d l lf n5 ∧ Else3 d l lf H H5) ⟨[], [], n, none, rfl, hf3, rfl, trivial, by simp [sizeB], Nat.le_refl _, D3, L3, E03⟩ ?_ ?_⟩
    · rintro i σ H5 hi ⟨us, b, n5, v5, rfl, hf5, hb, okb, szb, ul, D5, L5, e5⟩
      refine ⟨_, rfl, lf, _, _, _, rfl, rfl, SqL.of L5.at_, rfl, _, _, rfl, rfl, _, rfl, ite2 (fun g => ?_) (fun _ => ?_)⟩
      · refine ⟨_, rfl, lf, _, _, _, rfl, rfl, SqL.of L5.at_, rfl, _, _, rfl, rfl, _, rfl, lf, _, 0, 0, rfl, rfl, L5.at_, rfl, ?_⟩
        have e6 : Else3 d l lf H5 (upd H5 lf (.lst [.int (n5 - 1)])) := fun b o e _ _ h => by rw [upd_ne h]; exact e
        have D6 : DealAt (upd H5 lf (.lst [.int (n5 - 1)])) d l := D5.put L5.nd L5.nl
        have L6 : LeftAt (upd H5 lf (.lst [.int (n5 - 1)])) d l lf (n5 - 1) := ⟨upd_same, L5.nd, L5.nl⟩
        have S6 : SceneAt (upd H5 lf (.lst [.int (n5 - 1)])) d l sc cs rs ds := S.else3 L (e5.trans e6)
        have hf6 : (upd H5 lf (.lst [.int (n5 - 1)])) fl = some (.lst us) := by rw [upd_ne nff]; exact hf5
        refine ⟨_, rfl, .inl ⟨rfl, _, SqL.of hf6⟩, _, rfl, _, rfl, _, rfl, _, rfl, d, l, sc, lf, cs, rs, ds, deep, n5 - 1, rfl, hj, dp0, dp3, D6, S6, L6, fun v s n7 H7 hs oks szs D7 L7 e7 => ?_⟩
        have hf7 : H7 fl = some (.lst us) := e7 _ _ hf6 nfd nfl nff
        refine ⟨fl, _, _, rfl, rfl, hf7, small1000 (by omega), ?_⟩
        have k57 : TupKeep H5 H7 := (TupKeep.put L5.at_).trans (TupKeep.else3 D6 L6 e7)
        refine ⟨us ++ [v], b ++ [s], n7, _, rfl, upd_same, ((hb.keep k57).snoc hs).keep (TupKeep.put hf7), okB_snoc okb oks, ?_, ?_, D7.put nfd nfl, ⟨by rw [upd_ne (Ne.symm nff)]; exact L7.at_, L7.nd, L7.nl⟩, ?_⟩
        · rw [sizeB_snoc, Nat.succ_mul]; omega
        · rw [List.length_append]; show us.length + 1 ≤ i + 1; omega
        · intro x o e h1 h2 h3
          rw [upd_ne (ne_of_none e hfl)]
          exact (e5.trans (e6.trans e7)) x o e h1 h2 h3
      · exact ⟨us, b, n5, _, rfl, hf5, hb, okb, by rw [Nat.succ_mul]; omega, by omega, D5, L5, e5⟩
    · rintro σ H5 ⟨us, b, n5, v5, rfl, hf5, hb, okb, szb, ul, D5, L5, e5⟩
      refine ⟨_, rfl, fl, us, rfl, .inl ⟨SqL.of hf5, fun p hp => ?_⟩⟩
      have hm : sizeB b ≤ bb (j + 1) := by
        refine Nat.le_trans szb (Nat.le_trans (Nat.mul_le_mul_right _ (by omega : c.toNat ≤ mx (j + 1))) (mx_bb (by omega) (by omega)))
      exact k p us b n5 _ upd_same (hb.keep (TupKeep.lay hp)) okb hm (D5.lay hp) (L5.lay hp) (e5.trans (Else3.lay hp))
end
end My

set_option Elab.async false
set_option linter.all false
set_option maxRecDepth 100000
set_option maxHeartbeats 4000000
namespace My
open PySem L2
section
variable {P : Program} {w : World} {K : PySem.W.Frag} {mg : Str → Option Value} {base : Heap}
/-- an own def, bound to its name, whatever it is proved to do -/
abbrev Own (K : PySem.W.Frag) (mg : Str → Option Value) (x : Str) (s : Stmt) (ps : List Str) (f : Addr) (fd : FuncData) : Prop :=
  Fun K x x s f fd ∧ mg x = some (.ref f) ∧ PySem.W.keepIn K (.ref f) = true ∧ Binds K fd ps []
theorem Own.has {x : Str} {s : Stmt} {ps : List Str} {f : Addr} {fd : FuncData} {k : Nat} {sp : Sp} (o : Own K mg x s ps f fd) (h : FnOk P w K mg base CX0 k f fd ps sp) : Has P w K mg base x k ps sp := ⟨f, fd, o.2.1, o.2.2.1, o.2.2.2, h⟩
theorem has_term {f : Addr} {fd : FuncData} (o : Own K mg "_law_term" sTerm termPs f fd) (T : Blt mg) (hD : HDraw P w K mg base) (hW : Has P w K mg base "_law_word" 2 ["_law_deal_here"] spWord) :
    ∀ n : Nat, Has P w K mg base "_law_term" (n + 2) termPs (spTerm n)
  | 0 => o.has (o.1.ok scTerm (fun vs H Q E h => by
      obtain ⟨d, l, sc, cs, rs, ds, room, m, rfl, hm, _⟩ := h
      rfl) (fun cdv A outer s H vs Q E hr h => by
      obtain ⟨d, l, sc, cs, rs, ds, room, m, rfl, hm, _⟩ := h
      omega))
  | n + 1 => o.has (ok_term o.1 T hD hW (has_term o T hD hW n))
theorem has_body {fr fs fb : Addr} {dr ds db : FuncData} (oR : Own K mg "_law_round" sRound statPs fr dr) (oS : Own K mg "_law_statement" sStat statPs fs ds) (oB : Own K mg "_law_body" sBody statPs fb db)
    (C : Con7 mg) (T : Blt mg) (hD : HDraw P w K mg base) (hT : HTerm P w K mg base) : ∀ j : Nat, Has P w K mg base "_law_body" (3 * j + 7) statPs (spBody j)
  | 0 => oB.has (oB.1.ok scBody (fun vs H Q E h => by
      obtain ⟨d, l, sc, lf, cs, rs, ds, deep, n, rfl, _⟩ := h
      rfl) (fun cdv A outer s H vs Q E hr h => by
      obtain ⟨d, l, sc, lf, cs, rs, ds, deep, n, rfl, h1, h2, h3, _⟩ := h
      omega))
  | j + 1 => by
    have hB := has_body oR oS oB C T hD hT j
    have hR := oR.has (ok_round oR.1 T hD hT hB)
    exact oB.has (ok_body oB.1 C T hD (oS.has (ok_stat oS.1 T hD hT hB hR)))
theorem has_stat {fr fs fb : Addr} {dr ds db : FuncData} (oR : Own K mg "_law_round" sRound statPs fr dr) (oS : Own K mg "_law_statement" sStat statPs fs ds) (oB : Own K mg "_law_body" sBody statPs fb db)
    (C : Con7 mg) (T : Blt mg) (hD : HDraw P w K mg base) (hT : HTerm P w K mg base) (j : Nat) : Has P w K mg base "_law_statement" (3 * j + 9) statPs (spStat (j + 1)) :=
  oS.has (ok_stat oS.1 T hD hT (has_body oR oS oB C T hD hT j) (oR.has (ok_round oR.1 T hD hT (has_body oR oS oB C T hD hT j))))
end
end My

set_option Elab.async false
set_option linter.all false
set_option maxRecDepth 100000
set_option maxHeartbeats 4000000
namespace My
open PySem L2
/-- a program, as data -/
structure Prog where
  cells : List (Str × Int)
  rows : List (Str × Int)
  defs : List (Str × List Sm)
  body : List Sm
def PairsAt (H : Hp) : List (Str × Int) → List V → Prop
  | [], vs => vs = []
  | (x, a) :: r, vs => ∃ (p : Addr) (us : List V), vs = .ref p :: us ∧ H p = some (.tup [.str x, .int a]) ∧ PairsAt H r us
def DefsAt (H : Hp) : List (Str × List Sm) → List V → Prop
  | [], vs => vs = []
  | (x, b) :: r, vs => ∃ (p q : Addr) (bs us : List V), vs = .ref p :: us ∧ H p = some (.tup [.str x, .ref q]) ∧ H q = some (.tup bs) ∧ SmsAt H b bs ∧ DefsAt H r us
theorem PairsAt.keep {H H' : Hp} (k : TupKeep H H') : ∀ {b : List (Str × Int)} {vs : List V}, PairsAt H b vs → PairsAt H' b vs
  | [], _, h => h
  | (x, a) :: r, vs, h => by
    obtain ⟨p, us, rfl, h1, h2⟩ := h
    exact ⟨p, us, rfl, k _ _ h1, PairsAt.keep k h2⟩
theorem DefsAt.keep {H H' : Hp} (k : TupKeep H H') : ∀ {b : List (Str × List Sm)} {vs : List V}, DefsAt H b vs → DefsAt H' b vs
  | [], _, h => h
  | (x, a) :: r, vs, h => by
    obtain ⟨p, q, bs, us, rfl, h1, h2, h3, h4⟩ := h
    exact ⟨p, q, bs, us, rfl, k _ _ h1, k _ _ h2, h3.keep k, DefsAt.keep k h4⟩
theorem PairsAt.snoc {H : Hp} {x : Str} {a : Int} {p : Addr} : ∀ {b : List (Str × Int)} {vs : List V}, PairsAt H b vs → H p = some (.tup [.str x, .int a]) → PairsAt H (b ++ [(x, a)]) (vs ++ [.ref p])
  | [], vs, h, hs => by
    have e : vs = [] := h
    subst e
    exact ⟨p, [], rfl, hs, rfl⟩
  | (y, c) :: r, vs, h, hs => by
    obtain ⟨q, us, rfl, h1, h2⟩ := h
    exact ⟨q, us ++ [.ref p], rfl, h1, PairsAt.snoc h2 hs⟩
theorem DefsAt.snoc {H : Hp} {x : Str} {a : List Sm} {p q : Addr} {bs : List V} : ∀ {b : List (Str × List Sm)} {vs : List V}, DefsAt H b vs → H p = some (.tup [.str x, .ref q]) → H q = some (.tup bs) → SmsAt H a bs → DefsAt H (b ++ [(x, a)]) (vs ++ [.ref p])
  | [], vs, h, h1, h2, h3 => by
    have e : vs = [] := h
    subst e
    exact ⟨p, q, bs, [], rfl, h1, h2, h3, rfl⟩
  | (y, c) :: r, vs, h, h1, h2, h3 => by
    obtain ⟨p', q', bs', us, rfl, g1, g2, g3, g4⟩ := h
    exact ⟨p', q', bs', us ++ [.ref p], rfl, g1, g2, g3, DefsAt.snoc g4 h1 h2 h3⟩
theorem PairsAt.len {H : Hp} : ∀ {b : List (Str × Int)} {vs : List V}, PairsAt H b vs → vs.length = b.length
  | [], vs, h => by
    have e : vs = [] := h
    subst e
    rfl
  | (x, a) :: r, vs, h => by
    obtain ⟨p, us, rfl, h1, h2⟩ := h
    rw [List.length_cons, List.length_cons, PairsAt.len h2]
theorem DefsAt.len {H : Hp} : ∀ {b : List (Str × List Sm)} {vs : List V}, DefsAt H b vs → vs.length = b.length
  | [], vs, h => by
    have e : vs = [] := h
    subst e
    rfl
  | (x, a) :: r, vs, h => by
    obtain ⟨p, q, bs, us, rfl, h1, h2, h3, h4⟩ := h
    rw [List.length_cons, List.length_cons, DefsAt.len h4]
/-- the heap holds this program -/
def PrAt (H : Hp) (g : Prog) (v : V) : Prop := ∃ (p c r f b : Addr) (cv rv fv bv : List V), v = .ref p ∧ H p = some (.tup [.ref c, .ref r, .ref f, .ref b]) ∧ H c = some (.tup cv) ∧ PairsAt H g.cells cv ∧ H r = some (.tup rv) ∧ PairsAt H g.rows rv ∧
  H f = some (.tup fv) ∧ DefsAt H g.defs fv ∧ H b = some (.tup bv) ∧ SmsAt H g.body bv
theorem PrAt.keep {H H' : Hp} {g : Prog} {v : V} (k : TupKeep H H') (h : PrAt H g v) : PrAt H' g v := by
  obtain ⟨p, c, r, f, b, cv, rv, fv, bv, rfl, h0, h1, h2, h3, h4, h5, h6, h7, h8⟩ := h
  exact ⟨p, c, r, f, b, cv, rv, fv, bv, rfl, k _ _ h0, k _ _ h1, h2.keep k, k _ _ h3, h4.keep k, k _ _ h5, h6.keep k, k _ _ h7, h8.keep k⟩
/-- what a drawn program keeps to -/
structure Prog.ok (g : Prog) : Prop where
  cn : (g.cells.map (·.1)).Nodup
  rn : (g.rows.map (·.1)).Nodup
  dn : (g.defs.map (·.1)).Nodup
  ne : g.cells ≠ []
  cl : g.cells.length ≤ 24
  rl : g.rows.length ≤ 24
  dl : g.defs.length ≤ 24
  cw : ∀ c ∈ g.cells, Word c.2
  rw_ : ∀ r ∈ g.rows, 1 ≤ r.2 ∧ r.2 ≤ 8
  db : ∀ f ∈ g.defs, okB (g.cells.map (·.1)) (g.rows.map (·.1)) (g.defs.map (·.1)) f.2 ∧ sizeB f.2 ≤ bb 3
  bo : okB (g.cells.map (·.1)) (g.rows.map (·.1)) (g.defs.map (·.1)) g.body
  bs : sizeB g.body ≤ bb 4
/-- pairs of a name and a number drawn, one for each name of a list -/
theorem comp_pairs {K : PySem.W.Frag} {d l a : Addr} {ix : List Nat} {te : CompAt → TE} {σ : St} {Q : VK} {H1 : Hp} {xs : List Str} {W : Int → Prop} (hn : xs.length ≤ 100) (D : DealAt H1 d l) (ha : H1 a = some (.lst (xs.map V.str))) (na1 : a ≠ d) (na2 : a ≠ l)
    (hs : ∀ (H2 : Hp) (z : CompAt) (x : Str) (Q' : VK), x ∈ xs → DealAt H2 d l → Else d l H1 H2 → (∀ (p : Addr) (c : Int) (H3 : Hp), W c → H3 p = some (.tup [.str x, .int c]) → DealAt H3 d l → Else d l H2 H3 → Q' (.ref p) H3) → te z ((inSt ix σ).set 0 (some (.str x))) H2 Q')
    (hd : ∀ (D' : Addr) (ps : List (Str × Int)) (vs : List V) (H2 : Hp), ps.map (·.1) = xs → (∀ c ∈ ps, W c.2) → H2 D' = some (.lst vs) → PairsAt H2 ps vs → DealAt H2 d l → Else d l H1 H2 → Q (.ref D') H2) :
    CompW ix (Itl K a) (fun _ => tNoIf) te σ Q H1 := by
  refine compw_list (xs := xs.map V.str) (fun D' i ys H2 => ∃ ps : List (Str × Int), ps.map (·.1) = xs.take i ∧ (∀ c ∈ ps, W c.2) ∧ PairsAt H2 ps ys ∧ ps.length ≤ 100 ∧ H2 D' = some (.lst ys) ∧ DealAt H2 d l ∧ Else d l H1 H2 ∧ H1 D' = none ∧ D' ≠ d ∧ D' ≠ l) ?_ ?_ ?_ ?_
  · intro D' hD'
    obtain ⟨n1, n2⟩ := D.fresh hD'
    exact ⟨[], by simp, by simp, rfl, by decide, upd_same, D.put n1 n2, Else.lay hD', hD', n1, n2⟩
  · rintro D' i ys H2 hi ⟨ps, e, hw, hp, hl, hD', D2, e2, _⟩
    exact ⟨SqL.of (e2 _ _ ha na1 na2), hD', by rw [hp.len]; exact small1000 (by omega)⟩
  · rintro D' i x ys H2 hx ⟨ps, e, hw, hp, hl, hD', D2, e2, hn', n1, n2⟩ z
    rw [List.getElem?_map] at hx
    cases hxi : xs[i]? with
    | none => rw [hxi] at hx; cases hx
    | some y =>
      rw [hxi] at hx
      obtain rfl := Option.some.inj hx
      have hm : y ∈ xs := List.mem_of_getElem? hxi
      have hil : i < xs.length := (List.getElem?_eq_some_iff.mp hxi).1
      refine noIf (hs H2 z y _ hm D2 e2 fun p c H3 wc hpc D3 e3 => ?_)
      have hD3 := e3 D' _ hD' n1 n2
      refine ⟨hD3, ps ++ [(y, c)], ?_, ?_, ((hp.keep (TupKeep.else D2 e3)).snoc hpc).keep (TupKeep.put hD3), ?_, upd_same, D3.put n1 n2, fun b o eb h1 h2 => ?_, hn', n1, n2⟩
      · rw [List.map_append, e, List.take_add_one, hxi]; rfl
      · intro q hq
        rcases List.mem_append.mp hq with q1 | q1
        · exact hw q q1
        · rw [List.mem_singleton.mp q1]; exact wc
      · have h1 := congrArg List.length e
        rw [List.length_map, List.length_take] at h1
        rw [List.length_append]
        show ps.length + 1 ≤ 100
        omega
      · rw [upd_ne (ne_of_none eb hn')]; exact e3 b o (e2 b o eb h1 h2) h1 h2
  · rintro D' ys H2 ⟨ps, e, hw, hp, hl, hD', D2, e2, _⟩
    rw [List.length_map, List.take_length] at e
    exact hd D' ps ys H2 e hw hD' hp D2 e2
end My

set_option Elab.async false
set_option linter.all false
set_option maxRecDepth 100000
set_option maxHeartbeats 4000000
namespace My
open PySem L2
theorem cut_sub (ys : List Str) (lo hi : Option Int) : ∃ zs : List Str, cutV (ys.map V.str) lo hi = zs.map V.str ∧ zs.Sublist ys := by
  refine ⟨(ys.drop (HT.sIx (ys.map V.str).length 0 lo)).take (HT.sIx (ys.map V.str).length (ys.map V.str).length hi - HT.sIx (ys.map V.str).length 0 lo), ?_, (List.take_sublist _ _).trans (List.drop_sublist _ _)⟩
  unfold cutV
  rw [List.map_take, List.map_drop]
theorem cut_first {ys : List Str} {n : Int} (h0 : 1 ≤ n) (hy : ys ≠ []) : ∃ zs : List Str, cutV (ys.map V.str) none (some n) = zs.map V.str ∧ zs.Sublist ys ∧ zs ≠ [] := by
  obtain ⟨zs, e, s⟩ := cut_sub ys none (some n)
  refine ⟨zs, e, s, ?_⟩
  rintro rfl
  have hl := congrArg List.length e
  have hp := List.length_pos_iff.mpr hy
  unfold cutV at hl
  rw [List.length_take, List.length_drop, List.length_map] at hl
  have e1 : HT.sIx ys.length ys.length (some n) = min n.toNat ys.length := by
    show (if n < 0 then _ else _) = _
    rw [if_neg (by omega)]
  have e0 : HT.sIx ys.length 0 none = 0 := rfl
  rw [e1, e0] at hl
  simp only [List.map_nil, List.length_nil] at hl
  omega
theorem merge_scene (c r f : Addr) : mergeK [] [((.inr "cells", .ref c) : Key × V), (.inr "rows", .ref r), (.inr "defs", .ref f)] = scK c r f := by
  simp [mergeK, putK, scK, cr, cd, rd, Ne.symm cr, Ne.symm cd, Ne.symm rd]
end My

set_option Elab.async false
set_option linter.all false
set_option maxRecDepth 100000
set_option maxHeartbeats 4000000
namespace My
open PySem L2
def spProg : Sp := fun vs H Q _ => ∃ d l : Addr, vs = [.ref d] ∧ DealAt H d l ∧ ∀ (v : V) (g : Prog) (H' : Hp), PrAt H' g v → g.ok → DealAt H' d l → Else d l H H' → Q v H'
section
variable {P : Program} {w : World} {K : PySem.W.Frag} {mg : Str → Option Value} {base : Heap}
theorem scProg : FnScope ["_law_deal_here", "_law_names_here", "_law_cells", "_law_rows", "_law_defs", "_law_scene", "_law_left", "_law_told", "_law_f", "_law_body_here", "_law_begins"] ["_law_deal_here"] (defScope sProg) := ⟨rfl, rfl, rfl, by decide +kernel, rfl, by decide +kernel, by decide +kernel⟩
theorem ok_prog {f : Addr} {fd : FuncData} (F : Fun K "_law_program" "_law_program" sProg f fd) (C : Con7 mg) (T : Blt mg) (hD : HDraw P w K mg base) (hN : Has P w K mg base "_law_names" 2 ["_law_deal_here", "_law_many"] spNames)
    (hW : Has P w K mg base "_law_word" 2 ["_law_deal_here"] spWord) (hB3 : Has P w K mg base "_law_body" 16 statPs (spBody 3)) (hB4 : Has P w K mg base "_law_body" 19 statPs (spBody 4)) (hS4 : Has P w K mg base "_law_statement" 18 statPs (spStat 4)) :
    FnOk P w K mg base CX0 20 f fd ["_law_deal_here"] spProg := by
  refine F.ok scProg (fun vs H Q E h => ?_) (fun cdv A outer s H vs Q E hr h => ?_)
  · obtain ⟨d, l, rfl, _⟩ := h
    rfl
  · obtain ⟨d, l, rfl, D, k⟩ := h
    have hu := hu_of hr
    have hr1 : Room 1 _ := hr.mono (by omega)
    have hr2 : Room 2 _ := hr.mono (by omega)
    have hr16 : Room 16 _ := hr.mono (by omega)
    have hr18 : Room 18 _ := hr.mono (by omega)
    refine ⟨_, pss_cons (ps_set (i := 1) scProg.nd rfl (Or.inl rfl) (pe_has hN hr2 (by rfl) (pa_cons (pv 0) (pa_cons pe_int pa_nil))))
      (pss_cons (ps_set (i := 2) scProg.nd rfl (Or.inl rfl) (pe_slice sl_list (pv 1) po_none (po_some (pe_op op_add pe_int (pe_has hD hr1 (by rfl) (pa_cons (pv 0) (pa_cons pe_int pa_nil)))))))
      (pss_cons (ps_set (i := 3) scProg.nd rfl (Or.inl rfl) (pe_slice sl_list (pe_slice sl_list (pv 1) (po_some (pe_ix ix_list (pe_lst (pa_cons pe_int (pa_cons pe_int pa_nil))) (pe_has hD hr1 (by rfl) (pa_cons (pv 0) (pa_cons pe_int pa_nil))) (fun _ _ => rfl))) po_none) po_none (po_some (pe_has hD hr1 (by rfl) (pa_cons (pv 0) (pa_cons pe_int pa_nil))))))
      (pss_cons (ps_set (i := 4) scProg.nd rfl (Or.inl rfl) (pe_slice sl_list (pe_slice sl_list (pv 1) (po_some (pe_ix ix_list (pe_lst (pa_cons pe_int (pa_cons pe_int (pa_cons pe_int pa_nil)))) (pe_has hD hr1 (by rfl) (pa_cons (pv 0) (pa_cons pe_int pa_nil))) (fun _ _ => rfl))) po_none) po_none (po_some (pe_has hD hr1 (by rfl) (pa_cons (pv 0) (pa_cons pe_int pa_nil))))))
      (pss_cons (ps_set (i := 5) scProg.nd rfl (Or.inl rfl) (pe_disp (pps_cons pe_str (pv 2) (pps_cons pe_str (pv 3) (pps_cons pe_str (pv 4) pps_nil))) rfl rfl (by simp) (by decide)))
      (pss_cons (ps_set (i := 6) scProg.nd rfl (Or.inl rfl) (pe_lst (pa_cons pe_int pa_nil)))
      (pss_cons (ps_set (i := 7) scProg.nd rfl (Or.inl rfl) (pe_lst pa_nil))
      (pss_cons (ps_for PassesOwn.never rfl (pi_list (pv 4)) (pg_name (i := 8) scProg.nd rfl (Or.inl rfl))
        (pss_one (ps_expr (pe_bm PySem.F.plainAttrs_list PySem.F.slot_list_append PySem.F.type_list_append mt_append (pv 7)
          (pa_cons (pe_tup (pa_cons (pv 8) (pa_cons (pe_has hB3 hr16 (by rfl) (pa_cons (pv 0) (pa_cons (pv 5) (pa_cons (pv 6) (pa_cons pe_int pa_nil))))) pa_nil))) pa_nil)))))
      (pss_cons (ps_set (i := 6) scProg.nd rfl (Or.inl rfl) (pe_lst (pa_cons pe_int pa_nil)))
      (pss_cons (ps_set (i := 9) scProg.nd rfl (Or.inl rfl) (pe_has hB4 hr (by rfl) (pa_cons (pv 0) (pa_cons (pv 5) (pa_cons (pv 6) (pa_cons pe_int pa_nil))))))
      (pss_cons (ps_if (pt_cmpR op_eq (pe_callB call_len_seq (by rfl) T.len PySem.boot_len (pa_cons (pv 9) pa_nil)) pe_int (nomark _))
        (pss_one (ps_set (i := 9) scProg.nd rfl (Or.inl rfl) (pe_tup (pa_cons (pe_has hS4 hr18 (by rfl) (pa_cons (pv 0) (pa_cons (pv 5) (pa_cons (pv 6) (pa_cons pe_int pa_nil))))) pa_nil)))) pss_nil)
      (pss_cons (ps_set (i := 10) scProg.nd rfl (Or.inl rfl) (pe_callTy call_tuple_of (by rfl) C.tuple PyProof.Rows.boot_tuple (pa_cons
        (pe_comp (ys := ["_law_deal_here"]) (ix := [0]) (compOk_of (osc := defScope sProg) (N := ["_law_deal_here", "_law_names_here", "_law_cells", "_law_rows", "_law_defs", "_law_scene", "_law_left", "_law_told", "_law_f", "_law_body_here", "_law_begins"]) rfl rfl (by decide +kernel)) rfl
          (pi_list (pv 2)) (fun z => pifs_nil) (fun z => pe_tup (pa_cons (pv 0) (pa_cons (pe_has hW hr2 (by rfl) (pa_cons (pv 1) pa_nil)) pa_nil)))) pa_nil)))
      (pss_one (ps_ret (pe_tup (pa_cons (pv 10) (pa_cons (pe_callTy call_tuple_of (by rfl) C.tuple PyProof.Rows.boot_tuple (pa_cons
        (pe_comp (ys := ["_law_deal_here"]) (ix := [0]) (compOk_of (osc := defScope sProg) (N := ["_law_deal_here", "_law_names_here", "_law_cells", "_law_rows", "_law_defs", "_law_scene", "_law_left", "_law_told", "_law_f", "_law_body_here", "_law_begins"]) rfl rfl (by decide +kernel)) rfl
          (pi_list (pv 3)) (fun z => pifs_nil) (fun z => pe_tup (pa_cons (pv 0) (pa_cons (pe_op op_add pe_int (pe_has hD hr1 (by rfl) (pa_cons (pv 1) (pa_cons pe_int pa_nil)))) pa_nil)))) pa_nil))
        (pa_cons (pe_callTy call_tuple_of (by rfl) C.tuple PyProof.Rows.boot_tuple (pa_cons (pv 7) pa_nil)) (pa_cons (pv 9) pa_nil)))))))))))))))))), ?_⟩
    refine ⟨_, rfl, d, l, rfl, D, fun np ys H1 hnp hlen hyl hnd D1 e1 => ?_⟩
    have hys : ys ≠ [] := by rintro rfl; cases hlen
    have nn1 : np ≠ d := by
      obtain ⟨_, _, _, D1⟩ := D1
      exact ne_of hnp D1.dc (by intro z; cases z)
    have nn2 : np ≠ l := D1.apart hnp hys
    have subl : ∀ {zs : List Str}, zs.Sublist ys → zs.length ≤ 24 := fun h => by have := h.length_le; omega
    -- cells
    refine ⟨_, rfl, _, rfl, d, l, 6, rfl, D1, by decide, by decide, fun r2 H2 r20 r21 D2 e2 => ⟨_, _, rfl, rfl, _, rfl, np, _, rfl, SqL.of (e2 _ _ hnp nn1 nn2), fun cp hcp => ?_⟩⟩
    obtain ⟨cs, ec, sc1, cne⟩ := cut_first (ys := ys) (n := 1 + r2) (by omega) hys
    rw [ec]
    obtain ⟨nc1, nc2⟩ := D2.fresh hcp
    have hcp3 : (upd H2 cp (.lst (cs.map V.str))) cp = some (.lst (cs.map V.str)) := upd_same
    have E3 : Else d l H (upd H2 cp (.lst (cs.map V.str))) := e1.trans (e2.trans (Else.lay hcp))
    have D3 : DealAt (upd H2 cp (.lst (cs.map V.str))) d l := D2.lay hcp
    have hnp3 : (upd H2 cp (.lst (cs.map V.str))) np = some (.lst (ys.map V.str)) := Else.lay hcp _ _ (e2 _ _ hnp nn1 nn2) nn1 nn2
    generalize (upd H2 cp (.lst (cs.map V.str))) = H3 at hcp3 E3 D3 hnp3
    -- rows
    refine ⟨_, rfl, (by show 2 ≤ sizeLine; decide), fun q hq => ⟨_, rfl, d, l, 2, rfl, D3.lay hq, by decide, by decide, fun r4 H4 r40 r41 D4 e4 => ?_⟩⟩
    obtain ⟨nq1, nq2⟩ := D3.fresh hq
    obtain ⟨m4, em4⟩ : ∃ m, atI [V.int 6, V.int 0] r4 = some (.int m) := by
      rcases (by omega : r4 = 0 ∨ r4 = 1) with rfl | rfl
      · exact ⟨_, rfl⟩
      · exact ⟨_, rfl⟩
    have E34 : Else d l H3 H4 := (Else.lay hq).trans e4
    refine ⟨q, _, _, _, rfl, rfl, SqL.of (e4 _ _ upd_same nq1 nq2), em4, _, rfl, np, _, rfl, SqL.of (E34 _ _ hnp3 nn1 nn2), fun p1 hp1 => ?_⟩
    obtain ⟨z1, ez1, sz1⟩ := cut_sub ys (some m4) none
    rw [ez1]
    obtain ⟨np11, np12⟩ := D4.fresh hp1
    refine ⟨_, rfl, d, l, 4, rfl, D4.lay hp1, by decide, by decide, fun r5 H5 r50 r51 D5 e5 => ⟨_, rfl, p1, _, rfl, SqL.of (e5 _ _ upd_same np11 np12), fun rp hrp => ?_⟩⟩
    obtain ⟨rs, er, sr1⟩ := cut_sub z1 none (some r5)
    rw [er]
    have sr := sr1.trans sz1
    obtain ⟨nr1, nr2⟩ := D5.fresh hrp
    have E36 : Else d l H3 (upd H5 rp (.lst (rs.map V.str))) := E34.trans ((Else.lay hp1).trans (e5.trans (Else.lay hrp)))
    have hrp6 : (upd H5 rp (.lst (rs.map V.str))) rp = some (.lst (rs.map V.str)) := upd_same
    have D6 : DealAt (upd H5 rp (.lst (rs.map V.str))) d l := D5.lay hrp
    generalize (upd H5 rp (.lst (rs.map V.str))) = H6 at hrp6 E36 D6
    -- defs
    refine ⟨_, rfl, (by show 3 ≤ sizeLine; decide), fun q' hq' => ⟨_, rfl, d, l, 3, rfl, D6.lay hq', by decide, by decide, fun r7 H7 r70 r71 D7 e7 => ?_⟩⟩
    obtain ⟨nq1', nq2'⟩ := D6.fresh hq'
    obtain ⟨m7, em7⟩ : ∃ m, atI [V.int 12, V.int 6, V.int 0] r7 = some (.int m) := by
      rcases (by omega : r7 = 0 ∨ r7 = 1 ∨ r7 = 2) with rfl | rfl | rfl
      · exact ⟨_, rfl⟩
      · exact ⟨_, rfl⟩
      · exact ⟨_, rfl⟩
    have E67 : Else d l H6 H7 := (Else.lay hq').trans e7
    refine ⟨q', _, _, _, rfl, rfl, SqL.of (e7 _ _ upd_same nq1' nq2'), em7, _, rfl, np, _, rfl, SqL.of ((E36.trans E67) _ _ hnp3 nn1 nn2), fun p2 hp2 => ?_⟩
    obtain ⟨z2, ez2, sz2⟩ := cut_sub ys (some m7) none
    rw [ez2]
    obtain ⟨np21, np22⟩ := D7.fresh hp2
    refine ⟨_, rfl, d, l, 4, rfl, D7.lay hp2, by decide, by decide, fun r8 H8 r80 r81 D8 e8 => ⟨_, rfl, p2, _, rfl, SqL.of (e8 _ _ upd_same np21 np22), fun dp hdp => ?_⟩⟩
    obtain ⟨ds, ed, sd1⟩ := cut_sub z2 none (some r8)
    rw [ed]
    have sd := sd1.trans sz2
    obtain ⟨nd1, nd2⟩ := D8.fresh hdp
    have E69 : Else d l H6 (upd H8 dp (.lst (ds.map V.str))) := E67.trans ((Else.lay hp2).trans (e8.trans (Else.lay hdp)))
    have hdp9 : (upd H8 dp (.lst (ds.map V.str))) dp = some (.lst (ds.map V.str)) := upd_same
    have D9 : DealAt (upd H8 dp (.lst (ds.map V.str))) d l := D8.lay hdp
    have hrp9 := E69 _ _ hrp6 nr1 nr2
    have hcp9 := (E36.trans E69) _ _ hcp3 nc1 nc2
    have E9 := E3.trans (E36.trans E69)
    generalize (upd H8 dp (.lst (ds.map V.str))) = H9 at hdp9 D9 hrp9 hcp9 E9
    -- the scene
    refine fun sp hsp => ⟨_, rfl, _, rfl, _, rfl, upd_same, [(.inr "cells", .ref cp), (.inr "rows", .ref rp), (.inr "defs", .ref dp)], rfl, (by show 3 ≤ 15; decide), ?_⟩
    rw [merge_scene]
    obtain ⟨ns1, ns2⟩ := D9.fresh hsp
    have s10 : Same H9 (upd (upd H9 sp (.dK [])) sp (.dK (scK cp rp dp))) := fun b o e => by
      rw [upd_ne (ne_of_none e hsp), upd_ne (ne_of_none e hsp)]; exact e
    have S10 : SceneAt (upd (upd H9 sp (.dK [])) sp (.dK (scK cp rp dp))) d l sp cs rs ds :=
      ⟨⟨cp, rp, dp, upd_same, s10 _ _ hcp9, s10 _ _ hrp9, s10 _ _ hdp9, ns1, ns2, nc1, nc2, nr1, nr2, nd1, nd2⟩, cne, subl sc1, subl sr, subl sd⟩
    have D10 := D9.same s10
    have E10 := E9.trans (Else.of s10)
    have hcp10 := s10 _ _ hcp9
    have hrp10 := s10 _ _ hrp9
    have hdp10 := s10 _ _ hdp9
    generalize (upd (upd H9 sp (.dK [])) sp (.dK (scK cp rp dp))) = H10 at S10 D10 E10 hcp10 hrp10 hdp10
    -- the defs' bodies
    refine ⟨(by show 1 ≤ sizeLine; decide), fun lf hlf => ⟨Nat.zero_le _, fun tl htl => ?_⟩⟩
    obtain ⟨nlf1, nlf2⟩ := D10.fresh hlf
    have D11 : DealAt (upd H10 lf (.lst [.int 14])) d l := D10.lay hlf
    obtain ⟨nt1, nt2⟩ := D11.fresh htl
    have ntf : tl ≠ lf := by
      intro e
      rw [e, upd_same] at htl
      cases htl
    have nb : ∀ b o, H10 b = some o → b ≠ lf ∧ b ≠ tl := fun b o e => by
      have h1 := ne_of_none e hlf
      exact ⟨h1, ne_of_none (H := upd H10 lf (.lst [.int 14])) (o := o) (by rw [upd_ne h1]; exact e) htl⟩
    refine ⟨_, rfl, dp, rfl, ⟨_, SqL.of (by rw [upd_ne (nb _ _ hdp10).2, upd_ne (nb _ _ hdp10).1]; exact hdp10)⟩, for_list (K := K) (a := dp) (xs := ds.map V.str) (fun i σ H13 => ∃ (fs : List (Str × List Sm)) (vs : List V) (n : Int) (v8 : Option V),
      σ = [some (.ref d), some (.ref np), some (.ref cp), some (.ref rp), some (.ref dp), some (.ref sp), some (.ref lf), some (.ref tl), v8, none, none] ∧ H13 tl = some (.lst vs) ∧ DefsAt H13 fs vs ∧ fs.map (·.1) = ds.take i ∧
      (∀ f ∈ fs, okB cs rs ds f.2 ∧ sizeB f.2 ≤ bb 3) ∧ DealAt H13 d l ∧ LeftAt H13 d l lf n ∧ Else d l H10 H13)
      ⟨[], [], 14, none, rfl, upd_same, rfl, by simp, by simp, D11.lay htl, ⟨by rw [upd_ne (Ne.symm ntf)]; exact upd_same, nlf1, nlf2⟩, fun b o e _ _ => by rw [upd_ne (nb _ _ e).2, upd_ne (nb _ _ e).1]; exact e⟩
      (fun i σ H2 _ ⟨_, _, _, _, _, _, _, _, _, _, _, e⟩ => SqL.of (e _ _ hdp10 nd1 nd2)) ?_ ?_⟩
    · rintro i x σ H13 hx ⟨fs, vs, n, v8, rfl, ht13, hfs, efs, okf, D13, L13, e13⟩
      rw [List.getElem?_map] at hx
      cases hxi : ds[i]? with
      | none => rw [hxi] at hx; cases hx
      | some y =>
        rw [hxi] at hx
        obtain rfl := Option.some.inj hx
        have hil : i < ds.length := (List.getElem?_eq_some_iff.mp hxi).1
        have hdl := subl sd
        refine ⟨_, rfl, .inl ⟨rfl, _, SqL.of ht13⟩, _, rfl, _, rfl, _, rfl, _, rfl, d, l, sp, lf, cs, rs, ds, 1, n, rfl, by decide, by decide, by decide, D13, S10.else e13, L13, fun bp us b n' H14 hbp hb okb szb D14 L14 e14 => ⟨(by show 2 ≤ sizeLine; decide), fun p hp => ?_⟩⟩
        have ht14 : H14 tl = some (.lst vs) := e14 _ _ ht13 nt1 nt2 ntf
        have htp : (upd H14 p (.tup [.str y, .ref bp])) tl = some (.lst vs) := by rw [upd_ne (ne_of_none ht14 hp)]; exact ht14
        have hfl : fs.length ≤ i := by
          have h1 := congrArg List.length efs
          rw [List.length_map, List.length_take] at h1
          omega
        refine ⟨tl, _, _, rfl, rfl, htp, by rw [hfs.len]; exact small1000 (by omega), ?_⟩
        have kp : TupKeep H14 (upd (upd H14 p (.tup [.str y, .ref bp])) tl (.lst (vs ++ [.ref p]))) := (TupKeep.lay hp).trans (TupKeep.put htp)
        refine ⟨fs ++ [(y, b)], _, n', _, rfl, upd_same, (hfs.keep ((TupKeep.else3 D13 L13 e14).trans kp)).snoc (TupKeep.put htp _ _ upd_same) (kp _ _ hbp) (hb.keep kp), ?_, ?_, (D14.lay hp).put nt1 nt2, ⟨by rw [upd_ne (Ne.symm ntf)]; exact (L14.lay hp).at_, nlf1, nlf2⟩, fun b o e h1 h2 => ?_⟩
        · rw [List.map_append, efs, List.take_add_one, hxi]; rfl
        · intro q hq
          rcases List.mem_append.mp hq with q1 | q1
          · exact okf q q1
          · rw [List.mem_singleton.mp q1]; exact ⟨okb, szb⟩
        · have e' := e14 _ _ (e13 _ _ e h1 h2) h1 h2 (nb _ _ e).1
          rw [upd_ne (nb _ _ e).2, upd_ne (ne_of_none e' hp)]; exact e'
    · rintro σ H13 ⟨fs, vs, n, v8, rfl, ht13, hfs, efs, okf, D13, L13, e13⟩
      rw [List.length_map, List.take_length] at efs
      refine ⟨(by show 1 ≤ sizeLine; decide), fun lf2 hlf2 => ?_⟩
      obtain ⟨nl21, nl22⟩ := D13.fresh hlf2
      have nt3 : tl ≠ lf2 := ne_of_none ht13 hlf2
      have S14 := (S10.else e13).else (Else.lay (d := d) (l := l) (o := .lst [.int 22]) hlf2)
      have L14 : LeftAt (upd H13 lf2 (.lst [.int 22])) d l lf2 22 := ⟨upd_same, nl21, nl22⟩
      have D14 : DealAt (upd H13 lf2 (.lst [.int 22])) d l := D13.lay hlf2
      refine ⟨_, rfl, _, rfl, _, rfl, d, l, sp, lf2, cs, rs, ds, 0, 22, rfl, by decide, by decide, by decide, D14, S14, L14, fun bp us b n2 H15 hbp hb okb szb D15 L15 e15 => ?_⟩
      have ht15 : H15 tl = some (.lst vs) := e15 _ _ (by rw [upd_ne nt3]; exact ht13) nt1 nt2 nt3
      have k15 : TupKeep H13 H15 := (TupKeep.lay hlf2).trans (TupKeep.else3 D14 L14 e15)
      have E15 : Else d l H10 H15 := fun x o e h1 h2 => by
        have e' := e13 _ _ e h1 h2
        have h3 := ne_of_none e' hlf2
        exact e15 _ _ (by rw [upd_ne h3]; exact e') h1 h2 h3
      refine ⟨_, rfl, bp, _, rfl, .inr (SqT.of hbp), rfl, _, rfl, ite2 (fun g => ?_) (fun _ => ?_)⟩
      · refine ⟨_, rfl, _, rfl, _, rfl, d, l, sp, lf2, cs, rs, ds, 0, n2, rfl, by decide, by decide, by decide, D15, S10.else E15, L15, fun v st n3 H16x hs oks szs D16x L16x e16x => ⟨(by show 1 ≤ sizeLine; decide), fun p hp => ?_⟩⟩
        have hb4 : sb 4 + 0 ≤ bb 4 := by decide
        have ht16x := e16x _ _ ht15 nt1 nt2 nt3
        have hbpX : (upd H16x p (.tup [v])) p = some (.tup [v]) := upd_same
        have hbX : SmsAt (upd H16x p (.tup [v])) [st] [v] := ⟨v, [], rfl, hs.keep (TupKeep.lay hp), rfl⟩
        have okbX : okB cs rs ds [st] := ⟨oks, trivial⟩
        have szbX : sizeB [st] ≤ bb 4 := by show st.size + 0 ≤ _; omega
        have D15X : DealAt (upd H16x p (.tup [v])) d l := D16x.lay hp
        have ht15X : (upd H16x p (.tup [v])) tl = some (.lst vs) := by rw [upd_ne (ne_of_none ht16x hp)]; exact ht16x
        have hfsX : DefsAt (upd H16x p (.tup [v])) fs vs := hfs.keep (k15.trans ((TupKeep.else3 D15 L15 e16x).trans (TupKeep.lay hp)))
        have E15X : Else d l H10 (upd H16x p (.tup [v])) := fun x o e h1 h2 => by
          have h3 : x ≠ lf2 := ne_of_none (e13 _ _ e h1 h2) hlf2
          have e' := e16x _ _ (E15 _ _ e h1 h2) h1 h2 h3
          rw [upd_ne (ne_of_none e' hp)]; exact e'
        have hcp15 := E15X _ _ hcp10 nc1 nc2
        have hrp15 := E15X _ _ hrp10 nr1 nr2
        have hcl := subl sc1
        have hrl := subl sr
        have hdl := subl sd
        refine ⟨_, rfl, cp, rfl, ⟨_, SqL.of hcp15⟩, comp_pairs (W := Word) (xs := cs) (by omega) D15X hcp15 nc1 nc2 ?_ ?_⟩
        · intro H2 z x Q' hx D2 e2 kk
          exact ⟨_, rfl, _, rfl, d, l, rfl, D2, fun r H3 wr D3 e3 => ⟨(by show 2 ≤ sizeLine; decide), fun pz hpz => kk pz r _ wr upd_same (D3.lay hpz) (e3.trans (Else.lay hpz))⟩⟩
        intro cl ps cv H16 eps hw hcv hps D16 e16
        refine ⟨cl, _, rfl, .inl ⟨SqL.of hcv, fun bg hbg => ?_⟩⟩
        have D17 : DealAt (upd H16 bg (.tup cv)) d l := D16.lay hbg
        have e17 : Else d l (upd H16x p (.tup [v])) (upd H16 bg (.tup cv)) := e16.trans (Else.lay hbg)
        refine ⟨_, rfl, _, rfl, rp, rfl, ⟨_, SqL.of (e17 _ _ hrp15 nr1 nr2)⟩, comp_pairs (W := fun c => 1 ≤ c ∧ c ≤ 8) (xs := rs) (by omega) D17 (e17 _ _ hrp15 nr1 nr2) nr1 nr2 ?_ ?_⟩
        · intro H2 z x Q' hx D2 e2 kk
          exact ⟨_, rfl, _, rfl, d, l, 8, rfl, D2, by decide, by decide, fun r H3 r0 r1 D3 e3 => ⟨_, _, rfl, rfl, (by show 2 ≤ sizeLine; decide), fun pz hpz => kk pz (1 + r) _ ⟨by omega, by omega⟩ upd_same (D3.lay hpz) (e3.trans (Else.lay hpz))⟩⟩
        intro rl ps2 rv H18 eps2 hw2 hrv hps2 D18 e18
        refine ⟨rl, _, rfl, .inl ⟨SqL.of hrv, fun rt hrt => ?_⟩⟩
        have ht18 := (e17.trans e18) _ _ ht15X nt1 nt2
        have ht19 : (upd H18 rt (.tup rv)) tl = some (.lst vs) := by rw [upd_ne (ne_of_none ht18 hrt)]; exact ht18
        refine ⟨_, rfl, tl, _, rfl, .inl ⟨SqL.of ht19, fun ft hft => ⟨_, rfl, (by show 4 ≤ sizeLine; decide), fun pp hpp => ?_⟩⟩⟩
        have kA : TupKeep (upd (upd H18 rt (.tup rv)) ft (.tup vs)) (upd (upd (upd H18 rt (.tup rv)) ft (.tup vs)) pp (.tup [.ref bg, .ref rt, .ref ft, .ref p])) := TupKeep.lay hpp
        have kB := (TupKeep.lay (o := .tup vs) hft).trans kA
        have kC := (TupKeep.lay (o := .tup rv) hrt).trans kB
        have kD := (TupKeep.else D17 e18).trans kC
        have kE := (TupKeep.lay (o := .tup cv) hbg).trans kD
        have kF := (TupKeep.else D15X e16).trans kE
        refine k (.ref pp) ⟨ps, ps2, fs, [st]⟩ _ ⟨pp, bg, rt, ft, p, cv, rv, vs, [v], rfl, upd_same, kD _ _ upd_same, hps.keep kE, kB _ _ upd_same, hps2.keep kC, kA _ _ upd_same, hfsX.keep kF, kF _ _ hbpX, hbX.keep kF⟩ ?_ (((D18.lay hrt).lay hft).lay hpp) (E10.trans (E15X.trans (e17.trans (e18.trans ((Else.lay hrt).trans ((Else.lay hft).trans (Else.lay hpp)))))))
        have l1 := congrArg List.length eps
        have l2 := congrArg List.length eps2
        have l3 := congrArg List.length efs
        rw [List.length_map] at l1 l2 l3
        exact { cn := by show (ps.map (·.1)).Nodup; rw [eps]; exact sc1.nodup hnd
                rn := by show (ps2.map (·.1)).Nodup; rw [eps2]; exact sr.nodup hnd
                dn := by show (fs.map (·.1)).Nodup; rw [efs]; exact sd.nodup hnd
                ne := by rintro (rfl : ps = []); exact cne eps.symm
                cl := by show ps.length ≤ 24; omega
                rl := by show ps2.length ≤ 24; omega
                dl := by show fs.length ≤ 24; omega
                cw := hw
                rw_ := hw2
                db := by show ∀ f ∈ fs, okB (ps.map (·.1)) (ps2.map (·.1)) (fs.map (·.1)) f.2 ∧ _; rw [eps, eps2, efs]; exact okf
                bo := by show okB (ps.map (·.1)) (ps2.map (·.1)) (fs.map (·.1)) [st]; rw [eps, eps2, efs]; exact okbX
                bs := szbX }
      · have hcp15 := E15 _ _ hcp10 nc1 nc2
        have hrp15 := E15 _ _ hrp10 nr1 nr2
        have hcl := subl sc1
        have hrl := subl sr
        have hdl := subl sd
        refine ⟨_, rfl, cp, rfl, ⟨_, SqL.of hcp15⟩, comp_pairs (W := Word) (xs := cs) (by omega) D15 hcp15 nc1 nc2 ?_ ?_⟩
        · intro H2 z x Q' hx D2 e2 kk
          exact ⟨_, rfl, _, rfl, d, l, rfl, D2, fun r H3 wr D3 e3 => ⟨(by show 2 ≤ sizeLine; decide), fun p hp => kk p r _ wr upd_same (D3.lay hp) (e3.trans (Else.lay hp))⟩⟩
        intro cl ps cv H16 eps hw hcv hps D16 e16
        refine ⟨cl, _, rfl, .inl ⟨SqL.of hcv, fun bg hbg => ?_⟩⟩
        have D17 : DealAt (upd H16 bg (.tup cv)) d l := D16.lay hbg
        have e17 : Else d l H15 (upd H16 bg (.tup cv)) := e16.trans (Else.lay hbg)
        refine ⟨_, rfl, _, rfl, rp, rfl, ⟨_, SqL.of (e17 _ _ hrp15 nr1 nr2)⟩, comp_pairs (W := fun c => 1 ≤ c ∧ c ≤ 8) (xs := rs) (by omega) D17 (e17 _ _ hrp15 nr1 nr2) nr1 nr2 ?_ ?_⟩
        · intro H2 z x Q' hx D2 e2 kk
          exact ⟨_, rfl, _, rfl, d, l, 8, rfl, D2, by decide, by decide, fun r H3 r0 r1 D3 e3 => ⟨_, _, rfl, rfl, (by show 2 ≤ sizeLine; decide), fun p hp => kk p (1 + r) _ ⟨by omega, by omega⟩ upd_same (D3.lay hp) (e3.trans (Else.lay hp))⟩⟩
        intro rl ps2 rv H18 eps2 hw2 hrv hps2 D18 e18
        refine ⟨rl, _, rfl, .inl ⟨SqL.of hrv, fun rt hrt => ?_⟩⟩
        have ht18 := (e17.trans e18) _ _ ht15 nt1 nt2
        have ht19 : (upd H18 rt (.tup rv)) tl = some (.lst vs) := by rw [upd_ne (ne_of_none ht18 hrt)]; exact ht18
        refine ⟨_, rfl, tl, _, rfl, .inl ⟨SqL.of ht19, fun ft hft => ⟨_, rfl, (by show 4 ≤ sizeLine; decide), fun pp hpp => ?_⟩⟩⟩
        have kA : TupKeep (upd (upd H18 rt (.tup rv)) ft (.tup vs)) (upd (upd (upd H18 rt (.tup rv)) ft (.tup vs)) pp (.tup [.ref bg, .ref rt, .ref ft, .ref bp])) := TupKeep.lay hpp
        have kB := (TupKeep.lay (o := .tup vs) hft).trans kA
        have kC := (TupKeep.lay (o := .tup rv) hrt).trans kB
        have kD := (TupKeep.else D17 e18).trans kC
        have kE := (TupKeep.lay (o := .tup cv) hbg).trans kD
        have kF := (TupKeep.else D15 e16).trans kE
        refine k (.ref pp) ⟨ps, ps2, fs, b⟩ _ ⟨pp, bg, rt, ft, bp, cv, rv, vs, us, rfl, upd_same, kD _ _ upd_same, hps.keep kE, kB _ _ upd_same, hps2.keep kC, kA _ _ upd_same, (hfs.keep k15).keep kF, kF _ _ hbp, hb.keep kF⟩ ?_ (((D18.lay hrt).lay hft).lay hpp) (E10.trans (E15.trans (e17.trans (e18.trans ((Else.lay hrt).trans ((Else.lay hft).trans (Else.lay hpp)))))))
        have l1 := congrArg List.length eps
        have l2 := congrArg List.length eps2
        have l3 := congrArg List.length efs
        rw [List.length_map] at l1 l2 l3
        exact { cn := by show (ps.map (·.1)).Nodup; rw [eps]; exact sc1.nodup hnd
                rn := by show (ps2.map (·.1)).Nodup; rw [eps2]; exact sr.nodup hnd
                dn := by show (fs.map (·.1)).Nodup; rw [efs]; exact sd.nodup hnd
                ne := by rintro (rfl : ps = []); exact cne eps.symm
                cl := by show ps.length ≤ 24; omega
                rl := by show ps2.length ≤ 24; omega
                dl := by show fs.length ≤ 24; omega
                cw := hw
                rw_ := hw2
                db := by show ∀ f ∈ fs, okB (ps.map (·.1)) (ps2.map (·.1)) (fs.map (·.1)) f.2 ∧ _; rw [eps, eps2, efs]; exact okf
                bo := by show okB (ps.map (·.1)) (ps2.map (·.1)) (fs.map (·.1)) b; rw [eps, eps2, efs]; exact okb
                bs := szb }
end
end My

set_option Elab.async false
set_option linter.all false
set_option maxRecDepth 100000
set_option maxHeartbeats 4000000
namespace My
open PySem L2
/-- the terms right within a term -/
def Tm.inner : Tm → List Tm
  | .num _ => [] | .cell _ => [] | .at_ _ t => [t] | .op _ a b => [a, b]
/-- all parts, in the text's order -/
def Tm.all : Tm → List Tm
  | .num n => [.num n] | .cell x => [.cell x] | .at_ r t => .at_ r t :: t.all | .op s a b => .op s a b :: (a.all ++ b.all)
theorem Tm.all_eq (t : Tm) : t.all = t :: t.inner.flatMap Tm.all := by
  cases t <;> simp [Tm.all, Tm.inner]
theorem Tm.all_len : ∀ t : Tm, t.all.length = t.size
  | .num _ => rfl
  | .cell _ => rfl
  | .at_ _ t => by simp [Tm.all, Tm.size, Tm.all_len t]
  | .op _ a b => by simp [Tm.all, Tm.size, Tm.all_len a, Tm.all_len b]
def sizeT (ts : List Tm) : Nat := (ts.map Tm.size).sum
theorem sizeT_cons (t : Tm) (ts : List Tm) : sizeT (t :: ts) = t.size + sizeT ts := by simp [sizeT]
theorem sizeT_app (ts us : List Tm) : sizeT (ts ++ us) = sizeT ts + sizeT us := by simp [sizeT]
theorem sizeT_inner (t : Tm) : sizeT t.inner + 1 = t.size := by
  cases t <;> simp [sizeT, Tm.inner, Tm.size]
theorem sizeT_all : ∀ ts : List Tm, (ts.flatMap Tm.all).length = sizeT ts
  | [] => rfl
  | t :: ts => by rw [List.flatMap_cons, List.length_append, sizeT_all ts, Tm.all_len, sizeT_cons]
theorem Tm.size_pos (t : Tm) : 1 ≤ t.size := by cases t <;> simp [Tm.size]
theorem len_sizeT : ∀ ts : List Tm, ts.length ≤ sizeT ts
  | [] => Nat.zero_le _
  | t :: ts => by
    rw [sizeT_cons, List.length_cons]
    have h1 := len_sizeT ts
    have h2 := t.size_pos
    omega
/-- the terms of a statement -/
def Sm.terms : Sm → List Tm
  | .set _ t => [t] | .put _ p t => [p, t] | .whil t _ => [t] | .iff t _ _ => [t] | .call _ => []
/-- the bodies right within a statement -/
def Sm.inner : Sm → List (List Sm)
  | .whil _ b => [b] | .iff _ b o => [b, o] | _ => []
mutual
/-- all statements, in the text's order -/
def Sm.all : Sm → List Sm
  | .set x t => [.set x t] | .put r p t => [.put r p t] | .whil t b => .whil t b :: allB b | .iff t b o => .iff t b o :: (allB b ++ allB o) | .call f => [.call f]
def allB : List Sm → List Sm
  | [] => []
  | s :: r => s.all ++ allB r
end
theorem allB_app : ∀ a b : List Sm, allB (a ++ b) = allB a ++ allB b
  | [], _ => rfl
  | s :: r, b => by
    show s.all ++ allB (r ++ b) = (s.all ++ allB r) ++ allB b
    rw [allB_app r b, List.append_assoc]
theorem Sm.all_eq (s : Sm) : s.all = s :: allB s.inner.flatten := by
  cases s with
  | whil t b => simp [Sm.all, Sm.inner]
  | iff t b o => simp [Sm.all, Sm.inner, allB_app]
  | _ => simp [Sm.all, Sm.inner, allB]
theorem sizeB_app : ∀ a b : List Sm, sizeB (a ++ b) = sizeB a + sizeB b
  | [], _ => by simp [sizeB]
  | s :: r, b => by
    show s.size + sizeB (r ++ b) = (s.size + sizeB r) + sizeB b
    rw [sizeB_app r b, Nat.add_assoc]
theorem sizeB_inner (s : Sm) : sizeB s.inner.flatten + 1 = s.size := by
  cases s with
  | whil t b => simp [Sm.inner, Sm.size, Nat.add_comm]
  | iff t b o => simp [Sm.inner, Sm.size, sizeB_app]; omega
  | _ => simp [Sm.inner, Sm.size, sizeB]
mutual
theorem Sm.all_len : ∀ s : Sm, s.all.length = s.size
  | .set _ _ => by simp [Sm.all, Sm.size]
  | .put _ _ _ => by simp [Sm.all, Sm.size]
  | .whil _ b => by simp [Sm.all, Sm.size, allB_len b, Nat.add_comm]
  | .iff _ b o => by simp [Sm.all, Sm.size, allB_len b, allB_len o]; omega
  | .call _ => by simp [Sm.all, Sm.size]
theorem allB_len : ∀ b : List Sm, (allB b).length = sizeB b
  | [] => by simp [allB, sizeB]
  | s :: r => by simp [allB, sizeB, Sm.all_len s, allB_len r]
end
theorem Sm.size_pos (s : Sm) : 1 ≤ s.size := by cases s <;> simp [Sm.size] <;> omega
theorem len_sizeB : ∀ b : List Sm, b.length ≤ sizeB b
  | [] => Nat.zero_le _
  | s :: r => by
    have h1 := len_sizeB r
    have h2 := s.size_pos
    show r.length + 1 ≤ s.size + sizeB r
    omega
abbrev TmsAt (H : Hp) : List Tm → List V → Prop := F2 (TmAt H)
theorem TmsAt.keep {H H' : Hp} {ts : List Tm} {vs : List V} (h : TmsAt H ts vs) (k : TupKeep H H') : TmsAt H' ts vs := h.mono fun _ _ r => r.keep k
theorem sms_f2 {H : Hp} : ∀ {b : List Sm} {vs : List V}, SmsAt H b vs → F2 (SmAt H) b vs
  | [], vs, h => by
    have e : vs = [] := h
    subst e
    exact .nil
  | s :: r, vs, h => by
    obtain ⟨v, us, rfl, h1, h2⟩ := h
    exact .cons h1 (sms_f2 h2)
theorem f2_keep {H H' : Hp} (k : TupKeep H H') {b : List Sm} {vs : List V} (h : F2 (SmAt H) b vs) : F2 (SmAt H') b vs := h.mono fun _ _ r => r.keep k
/-- a body stands at v -/
def BdAt (H : Hp) (b : List Sm) (v : V) : Prop := ∃ (p : Addr) (us : List V), v = .ref p ∧ H p = some (.tup us) ∧ F2 (SmAt H) b us
theorem BdAt.keep {H H' : Hp} (k : TupKeep H H') {b : List Sm} {v : V} (h : BdAt H b v) : BdAt H' b v := by
  obtain ⟨p, us, rfl, h1, h2⟩ := h
  exact ⟨p, us, rfl, k _ _ h1, f2_keep k h2⟩
mutual
theorem ok_all {cs rs ds : List Str} : ∀ {s : Sm}, s.ok cs rs ds → ∀ x ∈ s.all, x.ok cs rs ds
  | .set a t, h, x, hx => by
    have e : x = .set a t := by simpa [Sm.all] using hx
    rw [e]; exact h
  | .put r p t, h, x, hx => by
    have e : x = .put r p t := by simpa [Sm.all] using hx
    rw [e]; exact h
  | .whil t b, h, x, hx => by
    rcases List.mem_cons.mp (show x ∈ Sm.whil t b :: allB b by simpa [Sm.all] using hx) with e | e
    · rw [e]; exact h
    · exact ok_allB h.2 x e
  | .iff t b o, h, x, hx => by
    rcases List.mem_cons.mp (show x ∈ Sm.iff t b o :: (allB b ++ allB o) by simpa [Sm.all] using hx) with e | e
    · rw [e]; exact h
    · rcases List.mem_append.mp e with e | e
      · exact ok_allB h.2.1 x e
      · exact ok_allB h.2.2 x e
  | .call f, h, x, hx => by
    have e : x = .call f := by simpa [Sm.all] using hx
    rw [e]; exact h
theorem ok_allB {cs rs ds : List Str} : ∀ {b : List Sm}, okB cs rs ds b → ∀ x ∈ allB b, x.ok cs rs ds
  | [], _, x, hx => by simp [allB] at hx
  | s :: r, h, x, hx => by
    rcases List.mem_append.mp (show x ∈ s.all ++ allB r by simpa [allB] using hx) with e | e
    · exact ok_all h.1 x e
    · exact ok_allB h.2 x e
end
theorem ok0_all {cs rs : List Str} : ∀ {t : Tm}, t.ok0 cs rs → ∀ x ∈ t.all, x.ok0 cs rs
  | .num n, h, x, hx => by
    have e : x = .num n := by simpa [Tm.all] using hx
    rw [e]; exact h
  | .cell c, h, x, hx => by
    have e : x = .cell c := by simpa [Tm.all] using hx
    rw [e]; exact h
  | .at_ r t, h, x, hx => by
    rcases List.mem_cons.mp (show x ∈ Tm.at_ r t :: t.all by simpa [Tm.all] using hx) with e | e
    · rw [e]; exact h
    · exact ok0_all h.2 x e
  | .op s a b, h, x, hx => by
    rcases List.mem_cons.mp (show x ∈ Tm.op s a b :: (a.all ++ b.all) by simpa [Tm.all] using hx) with e | e
    · rw [e]; exact h
    · rcases List.mem_append.mp e with e | e
      · exact ok0_all h.2.1 x e
      · exact ok0_all h.2.2 x e
end My

set_option Elab.async false
set_option linter.all false
set_option maxRecDepth 100000
set_option maxHeartbeats 4000000
namespace My
open PySem L2
abbrev sInner : Stmt := top 4
abbrev sTermsIn : Stmt := top 5
theorem Same.lay {H : Hp} {p : Addr} {o : HO} (hp : H p = none) : Same H (upd H p o) := fun b u e => by rw [upd_ne (ne_of_none e hp)]; exact e
theorem TupKeep.at {H H' : Hp} {p : Addr} {xs : List V} (k : TupKeep H H') (h : H p = some (.tup xs)) : H' p = some (.tup xs) := k _ _ h
theorem neg1 {ta : TE} (h : ∀ σ H (Q : VK), Q (.int 1) H → ta σ H Q) : ∀ σ H (Q : VK), Q (.int (-1)) H → tUn (rU fun i => .int (-i)) ta σ H Q := fun σ H Q q => h σ H _ ⟨1, rfl, q⟩
def spInner : Sp := fun vs H Q _ => ∃ (t : Tm) (v : V), vs = [v] ∧ TmAt H t v ∧ ∀ (p : Addr) (us : List V), H p = none → TmsAt H t.inner us → Q (.ref p) (upd H p (.tup us))
section
variable {P : Program} {w : World} {K : PySem.W.Frag} {mg : Str → Option Value} {base : Heap}
theorem scInner : FnScope ["term"] ["term"] (defScope sInner) := ⟨rfl, rfl, rfl, by decide +kernel, rfl, by decide +kernel, by decide +kernel⟩
theorem iteNo {x y : Str} {A B : Prop} (h : ¬ x = y) (b : B) : if decide (V.str x = V.str y) = true then A else B := by
  rw [decide_eq_false (fun e => h (V.str.inj e))]
  exact iteF b
theorem iteYes {x : Str} {A B : Prop} (a : A) : if decide (V.str x = V.str x) = true then A else B := by
  rw [decide_eq_true rfl]
  exact iteT a
theorem ok_inner {f : Addr} {fd : FuncData} (F : Fun K "inner_terms" "inner_terms" sInner f fd) : FnOk P w K mg base CX0 1 f fd ["term"] spInner := by
  refine F.ok scInner (fun vs H Q E h => ?_) (fun cdv A outer s H vs Q E hr h => ?_)
  · obtain ⟨t, v, rfl, _⟩ := h
    rfl
  · obtain ⟨t, v, rfl, ht, k⟩ := h
    refine ⟨_, pss_cons (ps_if (pt_cmpR op_eq (pe_ix ix_tup (pv 0) pe_int (fun _ _ => rfl)) pe_str (nomark _)) (pss_one (ps_ret (pe_tup (pa_cons (pe_ix ix_tup (pv 0) pe_int (fun _ _ => rfl)) pa_nil)))) pss_nil)
      (pss_cons (ps_if (pt_cmpR op_eq (pe_ix ix_tup (pv 0) pe_int (fun _ _ => rfl)) pe_str (nomark _)) (pss_one (ps_ret (pe_tup (pa_cons (pe_ix ix_tup (pv 0) pe_int (fun _ _ => rfl)) (pa_cons (pe_ix ix_tup (pv 0) pe_int (fun _ _ => rfl)) pa_nil))))) pss_nil)
      (pss_one (ps_ret (pe_tup pa_nil)))), ?_⟩
    cases t with
    | num n =>
      obtain ⟨p, rfl, hp⟩ := ht
      refine ⟨_, rfl, p, _, _, _, rfl, rfl, SqT.of hp, rfl, rfl, _, rfl, iteNo (by decide +kernel) ?_⟩
      refine ⟨_, rfl, p, _, _, _, rfl, rfl, SqT.of hp, rfl, rfl, _, rfl, iteNo (by decide +kernel) ?_⟩
      exact ⟨Nat.zero_le _, fun q hq => k q [] hq .nil⟩
    | cell x =>
      obtain ⟨p, rfl, hp⟩ := ht
      refine ⟨_, rfl, p, _, _, _, rfl, rfl, SqT.of hp, rfl, rfl, _, rfl, iteNo (by decide +kernel) ?_⟩
      refine ⟨_, rfl, p, _, _, _, rfl, rfl, SqT.of hp, rfl, rfl, _, rfl, iteNo (by decide +kernel) ?_⟩
      exact ⟨Nat.zero_le _, fun q hq => k q [] hq .nil⟩
    | at_ r t =>
      obtain ⟨p, u, rfl, hp, hu⟩ := ht
      refine ⟨_, rfl, p, _, _, _, rfl, rfl, SqT.of hp, rfl, rfl, _, rfl, iteYes ?_⟩
      exact ⟨_, rfl, p, _, _, _, rfl, rfl, SqT.of hp, rfl, (by show 1 ≤ sizeLine; decide), fun q hq => k q [u] hq (.one hu)⟩
    | op s a b =>
      obtain ⟨p, u, z, rfl, hp, hu, hz⟩ := ht
      refine ⟨_, rfl, p, _, _, _, rfl, rfl, SqT.of hp, rfl, rfl, _, rfl, iteNo (by decide +kernel) ?_⟩
      refine ⟨_, rfl, p, _, _, _, rfl, rfl, SqT.of hp, rfl, rfl, _, rfl, iteYes ?_⟩
      exact ⟨_, rfl, p, _, _, _, rfl, rfl, SqT.of hp, rfl, _, rfl, p, _, _, _, rfl, rfl, SqT.of hp, rfl, (by show 2 ≤ sizeLine; decide), fun q hq => k q [u, z] hq (.cons hu (.one hz))⟩
abbrev HInner (P : Program) (w : World) (K : PySem.W.Frag) (mg : Str → Option Value) (base : Heap) : Prop := Has P w K mg base "inner_terms" 1 ["term"] spInner
/-! ### terms_in -/
def spTermsIn : Sp := fun vs H Q _ => ∃ (t : Tm) (v : V), vs = [v] ∧ TmAt H t v ∧ t.size < 16 ∧ ∀ (p : Addr) (us : List V) (H' : Hp), H' p = some (.lst us) → TmsAt H' t.all us → Same H H' → Q (.ref p) H'
structure TiInv (H : Hp) (t : Tm) (v : V) (tl lf : Addr) (m : Nat) (σ : St) (H1 : Hp) : Prop where
  ex : ∃ (ts : List Tm) (tv : List V) (st : List Tm) (sv : List V) (v3 : Option V), m = sizeT st ∧ σ = [some v, some (.ref tl), some (.ref lf), v3] ∧ H1 tl = some (.lst tv) ∧ H1 lf = some (.lst sv.reverse) ∧ TmsAt H1 ts tv ∧ TmsAt H1 st sv ∧ ts ++ st.flatMap Tm.all = t.all
  nt : tl ≠ lf
  ft : H tl = none
  fl : H lf = none
  same : Same H H1
theorem scTermsIn : FnScope ["term", "told", "left", "first"] ["term"] (defScope sTermsIn) := ⟨rfl, rfl, rfl, by decide +kernel, rfl, by decide +kernel, by decide +kernel⟩
theorem ok_termsIn {f : Addr} {fd : FuncData} (F : Fun K "terms_in" "terms_in" sTermsIn f fd) (hI : HInner P w K mg base) : FnOk P w K mg base CX0 2 f fd ["term"] spTermsIn := by
  refine F.ok scTermsIn (fun vs H Q E h => ?_) (fun cdv A outer s H vs Q E hr h => ?_)
  · obtain ⟨t, v, rfl, _⟩ := h
    rfl
  · obtain ⟨t, v, rfl, ht, hsz, k⟩ := h
    have hr1 : Room 1 _ := hr.mono (by omega)
    refine ⟨_, pss_cons (ps_set (i := 1) scTermsIn.nd rfl (Or.inl rfl) (pe_lst pa_nil))
      (pss_cons (ps_set (i := 2) scTermsIn.nd rfl (Or.inl rfl) (pe_lst (pa_cons (pv 0) pa_nil)))
      (pss_cons (ps_while PassesOwn.never (pt_truth (pv 2) (fun _ => rfl))
        (pss_cons (ps_set (i := 3) scTermsIn.nd rfl (Or.inl rfl) (pe_bm0 PySem.F.plainAttrs_list PySem.F.slot_list_pop PySem.F.type_list_pop mt_pop (pv 2)))
        (pss_cons (ps_expr (pe_bm PySem.F.plainAttrs_list PySem.F.slot_list_append PySem.F.type_list_append mt_append (pv 1) (pa_cons (pv 3) pa_nil)))
        (pss_one (ps_expr (pe_bm PySem.F.plainAttrs_list PySem.F.slot_list_extend PySem.F.type_list_extend mt_extendT (pv 2)
          (pa_cons (pe_revT (pe_has hI hr1 (by rfl) (pa_cons (pv 3) pa_nil)) (pe_un un_neg pe_int) (neg1 fun _ _ _ q => q)) pa_nil)))))))
      (pss_one (ps_ret (pv 1))))), ?_⟩
    refine ⟨Nat.zero_le _, fun tl htl => ⟨_, rfl, (by show 1 ≤ sizeLine; decide), fun lf hlf => ?_⟩⟩
    have nt : tl ≠ lf := by
      rintro rfl
      rw [upd_same] at hlf
      cases hlf
    have s1 : Same H (upd (upd H tl (.lst [])) lf (.lst [v])) := (Same.lay htl).trans (Same.lay hlf)
    have fl : H lf = none := by rw [upd_ne (Ne.symm nt)] at hlf; exact hlf
    refine ⟨TiInv H t v tl lf, ⟨_, ⟨[], [], [t], [v], none, rfl, rfl, by rw [upd_ne nt]; exact upd_same, upd_same, .nil, .one (ht.keep (TupKeep.same s1)), by simp⟩, nt, htl, fl, s1⟩, ?_⟩
    rintro m σ H1 ⟨⟨ts, tv, st, sv, v3, rfl, rfl, htl1, hlf1, hts, hst, hall⟩, _, _, _, s1⟩
    cases st with
    | nil =>
      cases hst
      refine ⟨_, rfl, false, .inl ⟨_, SqL.of hlf1, rfl⟩, iteF ?_⟩
      refine ⟨_, rfl, k tl tv H1 htl1 ?_ s1⟩
      have e : ts = t.all := by simpa using hall
      rw [← e]; exact hts
    | cons f rest =>
      obtain ⟨fv, rv, rfl, hf, hrv⟩ := hst.left
      rw [List.reverse_cons] at hlf1
      refine ⟨_, rfl, true, .inl ⟨_, SqL.of hlf1, by simp⟩, iteT ?_⟩
      refine ⟨fun σ' H' => ∃ m', m' < sizeT (f :: rest) ∧ TiInv H t v tl lf m' σ' H', fun σ' H' h => h, ?_⟩
      refine ⟨_, rfl, .inl ⟨rfl, _, SqL.of hlf1⟩, lf, _, fv, rfl, rfl, hlf1, by simp, ?_⟩
      rw [List.dropLast_concat]
      have k2 : TupKeep H1 (upd H1 lf (.lst rv.reverse)) := TupKeep.put hlf1
      have htl2 : (upd H1 lf (.lst rv.reverse)) tl = some (.lst tv) := by rw [upd_ne nt]; exact htl1
      have hlf2 : (upd H1 lf (.lst rv.reverse)) lf = some (.lst rv.reverse) := upd_same
      have s2 : ∀ b o, H1 b = some o → b ≠ lf → (upd H1 lf (.lst rv.reverse)) b = some o := fun b o e n => by rw [upd_ne n]; exact e
      generalize (upd H1 lf (.lst rv.reverse)) = H2 at k2 htl2 hlf2 s2
      have hlen : ts.length + (f :: rest).length ≤ 16 := by
        have h1 := congrArg List.length hall
        rw [List.length_append, sizeT_all, Tm.all_len] at h1
        have h2 := len_sizeT (f :: rest)
        omega
      rw [List.length_cons] at hlen
      have hlt := hts.len
      have hlr := hrv.len
      refine ⟨_, rfl, .inl ⟨rfl, _, SqL.of htl2⟩, _, rfl, tl, _, _, rfl, rfl, htl2, small1000 (by omega), ?_⟩
      have k3 : TupKeep H2 (upd H2 tl (.lst (tv ++ [fv]))) := TupKeep.put htl2
      have htl3 : (upd H2 tl (.lst (tv ++ [fv]))) tl = some (.lst (tv ++ [fv])) := upd_same
      have hlf3 : (upd H2 tl (.lst (tv ++ [fv]))) lf = some (.lst rv.reverse) := by rw [upd_ne (Ne.symm nt)]; exact hlf2
      have s3 : ∀ b o, H1 b = some o → b ≠ lf → b ≠ tl → (upd H2 tl (.lst (tv ++ [fv]))) b = some o := fun b o e n n' => by rw [upd_ne n']; exact s2 b o e n
      generalize (upd H2 tl (.lst (tv ++ [fv]))) = H3 at k3 htl3 hlf3 s3
      have k13 := k2.trans k3
      refine ⟨_, rfl, .inl ⟨rfl, _, SqL.of hlf3⟩, _, rfl, f, fv, rfl, hf.keep k13, fun p us hp hus => ⟨p, us, rfl, SqT.of upd_same, fun q hq => ?_⟩⟩
      have hlu := hus.len
      have hli : f.inner.length ≤ 2 := by cases f <;> simp [Tm.inner]
      have k5 : TupKeep H3 (upd (upd H3 p (.tup us)) q (.tup us.reverse)) := (TupKeep.lay hp).trans (TupKeep.lay hq)
      have s5 : Same H3 (upd (upd H3 p (.tup us)) q (.tup us.reverse)) := (Same.lay hp).trans (Same.lay hq)
      have hq5 : (upd (upd H3 p (.tup us)) q (.tup us.reverse)) q = some (.tup us.reverse) := upd_same
      generalize (upd (upd H3 p (.tup us)) q (.tup us.reverse)) = H5 at k5 s5 hq5
      have hlf5 := s5 _ _ hlf3
      have htl5 := s5 _ _ htl3
      refine ⟨lf, q, _, _, rfl, rfl, hlf5, SqT.of hq5, ?_, ?_⟩
      · rw [List.length_reverse, List.length_reverse]
        exact Nat.le_of_lt (small1000 (by omega))
      have k6 := TupKeep.put (ws := rv.reverse ++ us.reverse) hlf5
      refine ⟨_, ?_, ⟨ts ++ [f], tv ++ [fv], f.inner ++ rest, us ++ rv, some fv, rfl, rfl, by rw [upd_ne nt]; exact htl5, by rw [List.reverse_append]; exact upd_same, ?_, ?_, ?_⟩, nt, htl, fl, fun b o e => ?_⟩
      · rw [sizeT_app, sizeT_cons, ← sizeT_inner f]; omega
      · exact TmsAt.keep (hts.app (.one hf)) (k13.trans (k5.trans k6))
      · exact (TmsAt.keep hus (k5.trans k6)).app (TmsAt.keep hrv (k13.trans (k5.trans k6)))
      · rw [← hall, List.flatMap_cons, Tm.all_eq f]; simp [List.flatMap_append]
      · have n1 := ne_of_none e fl
        have n2 := ne_of_none e htl
        rw [upd_ne n1]
        exact s5 _ _ (s3 b o (s1 b o e) n1 n2)
end
end My

set_option Elab.async false
set_option linter.all false
set_option maxRecDepth 100000
set_option maxHeartbeats 4000000
namespace My
open PySem L2
abbrev sOwnT : Stmt := top 6
abbrev sInnerB : Stmt := top 7
abbrev sStatsIn : Stmt := top 8
abbrev sBodies : Stmt := top 9
abbrev BdsAt (H : Hp) : List (List Sm) → List V → Prop := F2 (BdAt H)
theorem BdsAt.keep {H H' : Hp} (k : TupKeep H H') {bs : List (List Sm)} {vs : List V} (h : BdsAt H bs vs) : BdsAt H' bs vs := h.mono fun _ _ r => r.keep k
theorem bd_of {H : Hp} {z : Addr} {b : List Sm} {vs : List V} (hz : H z = some (.tup vs)) (hb : SmsAt H b vs) : BdAt H b (.ref z) := ⟨z, vs, rfl, hz, sms_f2 hb⟩
def spOwnT : Sp := fun vs H Q _ => ∃ (s : Sm) (v : V), vs = [v] ∧ SmAt H s v ∧ ∀ (p : Addr) (us : List V), H p = none → TmsAt H s.terms us → Q (.ref p) (upd H p (.tup us))
def spInnerB : Sp := fun vs H Q _ => ∃ (s : Sm) (v : V), vs = [v] ∧ SmAt H s v ∧ ∀ (p : Addr) (us : List V), H p = none → BdsAt H s.inner us → Q (.ref p) (upd H p (.tup us))
section
variable {P : Program} {w : World} {K : PySem.W.Frag} {mg : Str → Option Value} {base : Heap}
theorem scOwnT : FnScope ["statement"] ["statement"] (defScope sOwnT) := ⟨rfl, rfl, rfl, by decide +kernel, rfl, by decide +kernel, by decide +kernel⟩
theorem scInnerB : FnScope ["statement"] ["statement"] (defScope sInnerB) := ⟨rfl, rfl, rfl, by decide +kernel, rfl, by decide +kernel, by decide +kernel⟩
theorem ok_ownT {f : Addr} {fd : FuncData} (F : Fun K "own_terms" "own_terms" sOwnT f fd) : FnOk P w K mg base CX0 1 f fd ["statement"] spOwnT := by
  refine F.ok scOwnT (fun vs H Q E h => ?_) (fun cdv A outer s H vs Q E hr h => ?_)
  · obtain ⟨t, v, rfl, _⟩ := h
    rfl
  · obtain ⟨t, v, rfl, ht, k⟩ := h
    refine ⟨_, pss_cons (ps_if (pt_cmpR op_eq (pe_ix ix_tup (pv 0) pe_int (fun _ _ => rfl)) pe_str (nomark _)) (pss_one (ps_ret (pe_tup (pa_cons (pe_ix ix_tup (pv 0) pe_int (fun _ _ => rfl)) (pa_cons (pe_ix ix_tup (pv 0) pe_int (fun _ _ => rfl)) pa_nil))))) pss_nil)
      (pss_cons (ps_if (pt_cmpR op_eq (pe_ix ix_tup (pv 0) pe_int (fun _ _ => rfl)) pe_str (nomark _)) (pss_one (ps_ret (pe_tup (pa_cons (pe_ix ix_tup (pv 0) pe_int (fun _ _ => rfl)) pa_nil)))) pss_nil)
      (pss_cons (ps_if (pt_cmpR op_eq (pe_ix ix_tup (pv 0) pe_int (fun _ _ => rfl)) pe_str (nomark _)) (pss_one (ps_ret (pe_tup pa_nil))) pss_nil)
      (pss_one (ps_ret (pe_tup (pa_cons (pe_ix ix_tup (pv 0) pe_int (fun _ _ => rfl)) pa_nil)))))), ?_⟩
    cases t with
    | set x t =>
      obtain ⟨p, u, rfl, hp, hu⟩ := ht
      refine ⟨_, rfl, p, _, _, _, rfl, rfl, SqT.of hp, rfl, rfl, _, rfl, iteNo (by decide +kernel) ?_⟩
      refine ⟨_, rfl, p, _, _, _, rfl, rfl, SqT.of hp, rfl, rfl, _, rfl, iteYes ?_⟩
      exact ⟨_, rfl, p, _, _, _, rfl, rfl, SqT.of hp, rfl, (by show 1 ≤ sizeLine; decide), fun q hq => k q [u] hq (.one hu)⟩
    | put r a t =>
      obtain ⟨p, u, z, rfl, hp, hu, hz⟩ := ht
      refine ⟨_, rfl, p, _, _, _, rfl, rfl, SqT.of hp, rfl, rfl, _, rfl, iteYes ?_⟩
      exact ⟨_, rfl, p, _, _, _, rfl, rfl, SqT.of hp, rfl, _, rfl, p, _, _, _, rfl, rfl, SqT.of hp, rfl, (by show 2 ≤ sizeLine; decide), fun q hq => k q [u, z] hq (.cons hu (.one hz))⟩
    | whil t b =>
      obtain ⟨p, u, z, vs, rfl, hp, hu, hz, hb⟩ := ht
      refine ⟨_, rfl, p, _, _, _, rfl, rfl, SqT.of hp, rfl, rfl, _, rfl, iteNo (by decide +kernel) ?_⟩
      refine ⟨_, rfl, p, _, _, _, rfl, rfl, SqT.of hp, rfl, rfl, _, rfl, iteNo (by decide +kernel) ?_⟩
      refine ⟨_, rfl, p, _, _, _, rfl, rfl, SqT.of hp, rfl, rfl, _, rfl, iteNo (by decide +kernel) ?_⟩
      exact ⟨_, rfl, p, _, _, _, rfl, rfl, SqT.of hp, rfl, (by show 1 ≤ sizeLine; decide), fun q hq => k q [u] hq (.one hu)⟩
    | iff t b o =>
      obtain ⟨p, u, z, vs, z', vs', rfl, hp, hu, hz, hb, hz', hb'⟩ := ht
      refine ⟨_, rfl, p, _, _, _, rfl, rfl, SqT.of hp, rfl, rfl, _, rfl, iteNo (by decide +kernel) ?_⟩
      refine ⟨_, rfl, p, _, _, _, rfl, rfl, SqT.of hp, rfl, rfl, _, rfl, iteNo (by decide +kernel) ?_⟩
      refine ⟨_, rfl, p, _, _, _, rfl, rfl, SqT.of hp, rfl, rfl, _, rfl, iteNo (by decide +kernel) ?_⟩
      exact ⟨_, rfl, p, _, _, _, rfl, rfl, SqT.of hp, rfl, (by show 1 ≤ sizeLine; decide), fun q hq => k q [u] hq (.one hu)⟩
    | call g =>
      obtain ⟨p, rfl, hp⟩ := ht
      refine ⟨_, rfl, p, _, _, _, rfl, rfl, SqT.of hp, rfl, rfl, _, rfl, iteNo (by decide +kernel) ?_⟩
      refine ⟨_, rfl, p, _, _, _, rfl, rfl, SqT.of hp, rfl, rfl, _, rfl, iteNo (by decide +kernel) ?_⟩
      refine ⟨_, rfl, p, _, _, _, rfl, rfl, SqT.of hp, rfl, rfl, _, rfl, iteYes ?_⟩
      exact ⟨Nat.zero_le _, fun q hq => k q [] hq .nil⟩
theorem ok_innerB {f : Addr} {fd : FuncData} (F : Fun K "inner_bodies" "inner_bodies" sInnerB f fd) : FnOk P w K mg base CX0 1 f fd ["statement"] spInnerB := by
  refine F.ok scInnerB (fun vs H Q E h => ?_) (fun cdv A outer s H vs Q E hr h => ?_)
  · obtain ⟨t, v, rfl, _⟩ := h
    rfl
  · obtain ⟨t, v, rfl, ht, k⟩ := h
    refine ⟨_, pss_cons (ps_if (pt_cmpR op_eq (pe_ix ix_tup (pv 0) pe_int (fun _ _ => rfl)) pe_str (nomark _)) (pss_one (ps_ret (pe_tup (pa_cons (pe_ix ix_tup (pv 0) pe_int (fun _ _ => rfl)) pa_nil)))) pss_nil)
      (pss_cons (ps_if (pt_cmpR op_eq (pe_ix ix_tup (pv 0) pe_int (fun _ _ => rfl)) pe_str (nomark _)) (pss_one (ps_ret (pe_tup (pa_cons (pe_ix ix_tup (pv 0) pe_int (fun _ _ => rfl)) (pa_cons (pe_ix ix_tup (pv 0) pe_int (fun _ _ => rfl)) pa_nil))))) pss_nil)
      (pss_one (ps_ret (pe_tup pa_nil)))), ?_⟩
    cases t with
    | set x t =>
      obtain ⟨p, u, rfl, hp, hu⟩ := ht
      refine ⟨_, rfl, p, _, _, _, rfl, rfl, SqT.of hp, rfl, rfl, _, rfl, iteNo (by decide +kernel) ?_⟩
      refine ⟨_, rfl, p, _, _, _, rfl, rfl, SqT.of hp, rfl, rfl, _, rfl, iteNo (by decide +kernel) ?_⟩
      exact ⟨Nat.zero_le _, fun q hq => k q [] hq .nil⟩
    | put r a t =>
      obtain ⟨p, u, z, rfl, hp, hu, hz⟩ := ht
      refine ⟨_, rfl, p, _, _, _, rfl, rfl, SqT.of hp, rfl, rfl, _, rfl, iteNo (by decide +kernel) ?_⟩
      refine ⟨_, rfl, p, _, _, _, rfl, rfl, SqT.of hp, rfl, rfl, _, rfl, iteNo (by decide +kernel) ?_⟩
      exact ⟨Nat.zero_le _, fun q hq => k q [] hq .nil⟩
    | whil t b =>
      obtain ⟨p, u, z, vs, rfl, hp, hu, hz, hb⟩ := ht
      refine ⟨_, rfl, p, _, _, _, rfl, rfl, SqT.of hp, rfl, rfl, _, rfl, iteYes ?_⟩
      exact ⟨_, rfl, p, _, _, _, rfl, rfl, SqT.of hp, rfl, (by show 1 ≤ sizeLine; decide), fun q hq => k q [.ref z] hq (.one (bd_of hz hb))⟩
    | iff t b o =>
      obtain ⟨p, u, z, vs, z', vs', rfl, hp, hu, hz, hb, hz', hb'⟩ := ht
      refine ⟨_, rfl, p, _, _, _, rfl, rfl, SqT.of hp, rfl, rfl, _, rfl, iteNo (by decide +kernel) ?_⟩
      refine ⟨_, rfl, p, _, _, _, rfl, rfl, SqT.of hp, rfl, rfl, _, rfl, iteYes ?_⟩
      exact ⟨_, rfl, p, _, _, _, rfl, rfl, SqT.of hp, rfl, _, rfl, p, _, _, _, rfl, rfl, SqT.of hp, rfl, (by show 2 ≤ sizeLine; decide), fun q hq => k q [.ref z, .ref z'] hq (.cons (bd_of hz hb) (.one (bd_of hz' hb')))⟩
    | call g =>
      obtain ⟨p, rfl, hp⟩ := ht
      refine ⟨_, rfl, p, _, _, _, rfl, rfl, SqT.of hp, rfl, rfl, _, rfl, iteNo (by decide +kernel) ?_⟩
      refine ⟨_, rfl, p, _, _, _, rfl, rfl, SqT.of hp, rfl, rfl, _, rfl, iteNo (by decide +kernel) ?_⟩
      exact ⟨Nat.zero_le _, fun q hq => k q [] hq .nil⟩
abbrev HInnerB (P : Program) (w : World) (K : PySem.W.Frag) (mg : Str → Option Value) (base : Heap) : Prop := Has P w K mg base "inner_bodies" 1 ["statement"] spInnerB
/-! ### statements_in -/
def spStatsIn : Sp := fun vs H Q _ => ∃ (b : List Sm) (v : V), vs = [v] ∧ BdAt H b v ∧ sizeB b ≤ 12300 ∧ ∀ (p : Addr) (us : List V) (H' : Hp), H' p = some (.lst us) → F2 (SmAt H') (allB b) us → Same H H' → Q (.ref p) H'
structure SiInv (H : Hp) (b : List Sm) (v : V) (tl lf : Addr) (m : Nat) (σ : St) (H1 : Hp) : Prop where
  ex : ∃ (ts : List Sm) (tv : List V) (st : List Sm) (sv : List V) (v3 v4 : Option V), m = sizeB st ∧ σ = [some v, some (.ref tl), some (.ref lf), v3, v4] ∧ H1 tl = some (.lst tv) ∧ H1 lf = some (.lst sv.reverse) ∧ F2 (SmAt H1) ts tv ∧ F2 (SmAt H1) st sv ∧ ts ++ allB st = allB b
  nt : tl ≠ lf
  ft : H tl = none
  fl : H lf = none
  same : Same H H1
theorem small15 {n : Nat} (h : n ≤ 100000) : n < sizeLine := Nat.lt_of_le_of_lt h (by decide)
theorem take_rev_flat {α : Type} {bs : List (List α)} {i : Nat} {b : List α} (h : bs[i]? = some b) : (bs.take (i + 1)).reverse.flatten = b ++ (bs.take i).reverse.flatten := by
  rw [List.take_add_one, h]
  simp
theorem sizeB_mem {b : List Sm} : ∀ {bs : List (List Sm)}, b ∈ bs → sizeB b ≤ sizeB bs.flatten
  | [], h => by simp at h
  | c :: r, h => by
    rw [List.flatten_cons, sizeB_app]
    rcases List.mem_cons.mp h with e | e
    · rw [e]; omega
    · have := sizeB_mem e; omega
theorem inner_two (s : Sm) : s.inner.length ≤ 2 := by cases s <;> simp [Sm.inner]
theorem scStatsIn : FnScope ["body", "told", "left", "first", "inner"] ["body"] (defScope sStatsIn) := ⟨rfl, rfl, rfl, by decide +kernel, rfl, by decide +kernel, by decide +kernel⟩
theorem ok_statsIn {f : Addr} {fd : FuncData} (F : Fun K "statements_in" "statements_in" sStatsIn f fd) (T : Blt mg) (hI : HInnerB P w K mg base) : FnOk P w K mg base CX0 2 f fd ["body"] spStatsIn := by
  refine F.ok scStatsIn (fun vs H Q E h => ?_) (fun cdv A outer s H vs Q E hr h => ?_)
  · obtain ⟨t, v, rfl, _⟩ := h
    rfl
  · obtain ⟨b, v, rfl, hb, hsz, k⟩ := h
    obtain ⟨bp, bus, rfl, hbp, hbus⟩ := hb
    have hr1 : Room 1 _ := hr.mono (by omega)
    refine ⟨_, pss_cons (ps_set (i := 1) scStatsIn.nd rfl (Or.inl rfl) (pe_lst pa_nil))
      (pss_cons (ps_set (i := 2) scStatsIn.nd rfl (Or.inl rfl) (pe_callTy call_list_of (by rfl) T.list PyProof.Rows.boot_list (pa_cons (pe_revT (pv 0) (pe_un un_neg pe_int) (neg1 fun _ _ _ q => q)) pa_nil)))
      (pss_cons (ps_while PassesOwn.never (pt_truth (pv 2) (fun _ => rfl))
        (pss_cons (ps_set (i := 3) scStatsIn.nd rfl (Or.inl rfl) (pe_bm0 PySem.F.plainAttrs_list PySem.F.slot_list_pop PySem.F.type_list_pop mt_pop (pv 2)))
        (pss_cons (ps_expr (pe_bm PySem.F.plainAttrs_list PySem.F.slot_list_append PySem.F.type_list_append mt_append (pv 1) (pa_cons (pv 3) pa_nil)))
        (pss_one (ps_for PassesOwn.never rfl (pi_tup (pe_revT (pe_has hI hr1 (by rfl) (pa_cons (pv 3) pa_nil)) (pe_un un_neg pe_int) (neg1 fun _ _ _ q => q))) (pg_name (i := 4) scStatsIn.nd rfl (Or.inl rfl))
          (pss_one (ps_expr (pe_bm PySem.F.plainAttrs_list PySem.F.slot_list_extend PySem.F.type_list_extend mt_extendT (pv 2)
            (pa_cons (pe_revT (pv 4) (pe_un un_neg pe_int) (neg1 fun _ _ _ q => q)) pa_nil)))))))))
      (pss_one (ps_ret (pv 1))))), ?_⟩
    refine ⟨Nat.zero_le _, fun tl htl => ?_⟩
    have hbp1 := Same.lay (o := .lst []) htl _ _ hbp
    refine ⟨_, rfl, bp, bus, rfl, SqT.of hbp1, fun q hq => ⟨q, _, rfl, .inr (SqT.of upd_same), fun lf hlf => ?_⟩⟩
    have htl1 : (upd (upd H tl (.lst [])) q (.tup bus.reverse)) tl = some (.lst []) := Same.lay hq _ _ upd_same
    have nt : tl ≠ lf := ne_of_none htl1 hlf
    have s1 : Same H (upd (upd (upd H tl (.lst [])) q (.tup bus.reverse)) lf (.lst bus.reverse)) := ((Same.lay htl).trans (Same.lay hq)).trans (Same.lay hlf)
    have fl : H lf = none := ((Same.lay htl).trans (Same.lay hq)).free hlf
    refine ⟨SiInv H b (.ref bp) tl lf, ⟨_, ⟨[], [], b, bus, none, none, rfl, rfl, by rw [upd_ne nt]; exact htl1, upd_same, .nil, f2_keep (TupKeep.same s1) hbus, by simp⟩, nt, htl, fl, s1⟩, ?_⟩
    rintro m σ H1 ⟨⟨ts, tv, st, sv, v3, v4, rfl, rfl, htl1, hlf1, hts, hst, hall⟩, _, _, _, s1⟩
    have hle : ts.length + sizeB st ≤ 12300 := by
      have h1 := congrArg List.length hall
      rw [List.length_append, allB_len, allB_len] at h1
      omega
    cases st with
    | nil =>
      cases hst
      refine ⟨_, rfl, false, .inl ⟨_, SqL.of hlf1, rfl⟩, iteF ?_⟩
      refine ⟨_, rfl, k tl tv H1 htl1 ?_ s1⟩
      have e : ts = allB b := by simpa [allB] using hall
      rw [← e]; exact hts
    | cons f rest =>
      obtain ⟨fv, rv, rfl, hf, hrv⟩ := hst.left
      rw [List.reverse_cons] at hlf1
      refine ⟨_, rfl, true, .inl ⟨_, SqL.of hlf1, by simp⟩, iteT ?_⟩
      refine ⟨fun σ' H' => ∃ m', m' < sizeB (f :: rest) ∧ SiInv H b (.ref bp) tl lf m' σ' H', fun σ' H' h => h, ?_⟩
      refine ⟨_, rfl, .inl ⟨rfl, _, SqL.of hlf1⟩, lf, _, fv, rfl, rfl, hlf1, by simp, ?_⟩
      rw [List.dropLast_concat]
      have k2 : TupKeep H1 (upd H1 lf (.lst rv.reverse)) := TupKeep.put hlf1
      have htl2 : (upd H1 lf (.lst rv.reverse)) tl = some (.lst tv) := by rw [upd_ne nt]; exact htl1
      have hlf2 : (upd H1 lf (.lst rv.reverse)) lf = some (.lst rv.reverse) := upd_same
      have s2 : ∀ b o, H1 b = some o → b ≠ lf → (upd H1 lf (.lst rv.reverse)) b = some o := fun b o e n => by rw [upd_ne n]; exact e
      generalize (upd H1 lf (.lst rv.reverse)) = H2 at k2 htl2 hlf2 s2
      have hfs : f.size + sizeB rest = sizeB (f :: rest) := rfl
      have hf1 := sizeB_inner f
      have hlr0 := len_sizeB rest
      have hlt := hts.len
      have hlr := hrv.len
      refine ⟨_, rfl, .inl ⟨rfl, _, SqL.of htl2⟩, _, rfl, tl, _, _, rfl, rfl, htl2, small15 (by omega), ?_⟩
      have k3 : TupKeep H2 (upd H2 tl (.lst (tv ++ [fv]))) := TupKeep.put htl2
      have htl3 : (upd H2 tl (.lst (tv ++ [fv]))) tl = some (.lst (tv ++ [fv])) := upd_same
      have hlf3 : (upd H2 tl (.lst (tv ++ [fv]))) lf = some (.lst rv.reverse) := by rw [upd_ne (Ne.symm nt)]; exact hlf2
      have s3 : ∀ b o, H1 b = some o → b ≠ lf → b ≠ tl → (upd H2 tl (.lst (tv ++ [fv]))) b = some o := fun b o e n n' => by rw [upd_ne n']; exact s2 b o e n
      generalize (upd H2 tl (.lst (tv ++ [fv]))) = H3 at k3 htl3 hlf3 s3
      have k13 := k2.trans k3
      refine ⟨_, rfl, f, fv, rfl, hf.keep k13, fun p us hp hus => ⟨p, us, rfl, SqT.of upd_same, fun q' hq' => ⟨q', rfl, ⟨_, SqT.of upd_same⟩, ?_⟩⟩⟩
      have k5 : TupKeep H3 (upd (upd H3 p (.tup us)) q' (.tup us.reverse)) := (TupKeep.lay hp).trans (TupKeep.lay hq')
      have s5 : Same H3 (upd (upd H3 p (.tup us)) q' (.tup us.reverse)) := (Same.lay hp).trans (Same.lay hq')
      have hq5 : (upd (upd H3 p (.tup us)) q' (.tup us.reverse)) q' = some (.tup us.reverse) := upd_same
      generalize (upd (upd H3 p (.tup us)) q' (.tup us.reverse)) = H5 at k5 s5 hq5
      have hlf5 := s5 _ _ hlf3
      have htl5 := s5 _ _ htl3
      have hus5 := (BdsAt.keep k5 hus).rev
      have hrv5 := f2_keep (k13.trans k5) hrv
      have hul := hus5.len
      have hi2 := inner_two f
      refine for_tup (K := K) (a := q') (xs := us.reverse) (fun i σ H' => ∃ (sv : List V) (v4 : Option V), σ = [some (.ref bp), some (.ref tl), some (.ref lf), some fv, v4] ∧ H' tl = some (.lst (tv ++ [fv])) ∧ H' lf = some (.lst sv.reverse) ∧
        F2 (SmAt H') ((f.inner.reverse.take i).reverse.flatten ++ rest) sv ∧ sv.length ≤ (i + 1) * 12300 ∧ TupKeep H5 H' ∧ ∀ b o, H5 b = some o → b ≠ lf → H' b = some o) ⟨rv, v4, rfl, htl5, hlf5, by simpa using hrv5, by omega, TupKeep.refl _, fun _ _ e _ => e⟩ ?_ ?_ ?_
      · rintro i σ H' _ ⟨_, _, _, _, _, _, _, k', _⟩
        exact SqT.of (k' _ _ hq5)
      · rintro i x σ H' hx ⟨sv, v4', rfl, htl', hlf', hsv, hsl, k', s'⟩
        have hil : i < us.reverse.length := (List.getElem?_eq_some_iff.mp hx).1
        rw [hul, List.length_reverse] at hil
        obtain ⟨bi, hbi, p1, u1, rfl, hp1, hu1⟩ := hus5.get hx
        have hmem : bi ∈ f.inner := List.mem_reverse.mp (List.mem_of_getElem? hbi)
        have hsb := sizeB_mem hmem
        have hl1 := len_sizeB bi
        have hl2 := hu1.len
        have hp1' := k' _ _ hp1
        refine ⟨_, rfl, .inl ⟨rfl, _, SqL.of hlf'⟩, _, rfl, p1, u1, rfl, SqT.of hp1', fun q2 hq2 => ?_⟩
        have hlf6 := Same.lay (o := .tup u1.reverse) hq2 _ _ hlf'
        have htl6 := Same.lay (o := .tup u1.reverse) hq2 _ _ htl'
        have hsl' : sv.length ≤ 36900 := by
          have : (i + 1) * 12300 ≤ 3 * 12300 := Nat.mul_le_mul_right _ (by omega)
          omega
        refine ⟨lf, q2, _, _, rfl, rfl, hlf6, SqT.of upd_same, ?_, ?_⟩
        · rw [List.length_reverse, List.length_reverse]
          exact Nat.le_of_lt (small15 (by omega))
        have k6 : TupKeep H' _ := (TupKeep.lay hq2).trans (TupKeep.put (ws := sv.reverse ++ u1.reverse) hlf6)
        refine ⟨u1 ++ sv, some (.ref p1), rfl, by rw [upd_ne nt]; exact htl6, by rw [List.reverse_append]; exact upd_same, ?_, ?_, k'.trans k6, fun c o e n => ?_⟩
        · rw [take_rev_flat hbi, List.append_assoc]
          exact (f2_keep (k'.trans k6) hu1).app (f2_keep k6 hsv)
        · rw [List.length_append, Nat.succ_mul]; omega
        · rw [upd_ne n]
          exact Same.lay hq2 _ _ (s' c o e n)
      · rintro σ H' ⟨sv, v4', rfl, htl', hlf', hsv, hsl, k', s'⟩
        have efl : (f.inner.reverse.take us.reverse.length).reverse.flatten = f.inner.flatten := by
          rw [hul, List.take_length, List.reverse_reverse]
        rw [efl] at hsv
        refine ⟨_, ?_, ⟨ts ++ [f], tv ++ [fv], f.inner.flatten ++ rest, sv, some fv, v4', rfl, rfl, htl', hlf', ?_, hsv, ?_⟩, nt, htl, fl, fun c o e => ?_⟩
        · rw [sizeB_app]; omega
        · exact f2_keep (k13.trans (k5.trans k')) (hts.app (.one hf))
        · rw [← hall, allB_app]
          show (ts ++ [f]) ++ (allB f.inner.flatten ++ allB rest) = ts ++ (f.all ++ allB rest)
          rw [Sm.all_eq f]; simp
        · have n1 := ne_of_none e fl
          have n2 := ne_of_none e htl
          exact s' c o (s5 _ _ (s3 c o (s1 c o e) n1 n2)) n1
end
end My

set_option Elab.async false
set_option linter.all false
set_option maxRecDepth 100000
set_option maxHeartbeats 4000000
namespace My
open PySem L2
abbrev sOnce : Stmt := top 11
abbrev sUp : Stmt := top 12
abbrev sLookT : Stmt := top 13
abbrev sLookS : Stmt := top 14
abbrev sLook : Stmt := top 15
/-! ### bodies_in -/
def Prog.bodies (g : Prog) : List (List Sm) := g.defs.map (·.2) ++ [g.body]
def spBodies : Sp := fun vs H Q _ => ∃ (g : Prog) (v : V), vs = [v] ∧ PrAt H g v ∧ g.defs.length ≤ 24 ∧ ∀ (p : Addr) (us : List V) (H' : Hp), H' p = some (.lst us) → BdsAt H' g.bodies us → Same H H' → Q (.ref p) H'
theorem DefsAt.get {H : Hp} : ∀ {fs : List (Str × List Sm)} {vs : List V}, DefsAt H fs vs → F2 (fun (f : Str × List Sm) v => ∃ (p q : Addr) (bs : List V), v = .ref p ∧ H p = some (.tup [.str f.1, .ref q]) ∧ H q = some (.tup bs) ∧ SmsAt H f.2 bs) fs vs
  | [], vs, h => by
    have e : vs = [] := h
    subst e
    exact .nil
  | (x, b) :: r, vs, h => by
    obtain ⟨p, q, bs, us, rfl, h1, h2, h3, h4⟩ := h
    exact .cons ⟨p, q, bs, rfl, h1, h2, h3⟩ (DefsAt.get h4)
section
variable {P : Program} {w : World} {K : PySem.W.Frag} {mg : Str → Option Value} {base : Heap}
theorem scBodies : FnScope ["program"] ["program"] (defScope sBodies) := ⟨rfl, rfl, rfl, by decide +kernel, rfl, by decide +kernel, by decide +kernel⟩
theorem ok_bodies {f : Addr} {fd : FuncData} (F : Fun K "bodies_in" "bodies_in" sBodies f fd) : FnOk P w K mg base CX0 1 f fd ["program"] spBodies := by
  refine F.ok scBodies (fun vs H Q E h => ?_) (fun cdv A outer s H vs Q E hr h => ?_)
  · obtain ⟨t, v, rfl, _⟩ := h
    rfl
  · obtain ⟨g, v, rfl, hg, hd24, k⟩ := h
    obtain ⟨p, c, r, f, b, cv, rv, fv, bv, rfl, h0, h1, h2, h3, h4, h5, h6, h7, h8⟩ := hg
    refine ⟨_, pss_one (ps_ret (pe_op op_cat
      (pe_comp (ys := []) (ix := []) (compOk_of (osc := defScope sBodies) (N := ["program"]) rfl rfl (by decide +kernel)) rfl (pi_tup (pe_ix ix_tup (pv 0) pe_int (fun _ _ => rfl))) (fun z => pifs_nil) (fun z => pe_ix ix_tup (pv 0) pe_int (fun _ _ => rfl)))
      (pe_lst (pa_cons (pe_ix ix_tup (pv 0) pe_int (fun _ _ => rfl)) pa_nil)))), ?_⟩
    have hF := h6.get
    have hfl := hF.len
    refine ⟨_, rfl, p, _, _, _, rfl, rfl, SqT.of h0, rfl, f, rfl, ⟨_, SqT.of h5⟩, ?_⟩
    refine compw_tup (K := K) (a := f) (xs := fv) (fun D i ys H' => H' D = some (.lst ys) ∧ H D = none ∧ Same H H' ∧ ys.length = i ∧ BdsAt H ((g.defs.take i).map (·.2)) ys) ?_ ?_ ?_ ?_
    · intro D hD
      exact ⟨upd_same, hD, Same.lay hD, rfl, by simpa using F2.nil⟩
    · rintro D i ys H' hi ⟨hD, hn, s', hl, hb⟩
      exact ⟨SqT.of (s' _ _ h5), hD, by rw [hl]; exact small1000 (by omega)⟩
    · rintro D i x ys H' hx ⟨hD, hn, s', hl, hb⟩ z
      obtain ⟨fi, hfi, p1, q1, bs1, rfl, hp1, hq1, hs1⟩ := hF.get hx
      refine noIf ⟨_, rfl, p1, _, _, _, rfl, rfl, SqT.of (s' _ _ hp1), rfl, hD, upd_same, hn, fun c o e => ?_, by rw [List.length_append, hl]; rfl, ?_⟩
      · rw [upd_ne (ne_of_none e hn)]; exact s' c o e
      · rw [take_map_snoc hfi]
        exact hb.app (.one (bd_of hq1 hs1))
    · rintro D ys H' ⟨hD, hn, s', hl, hb⟩
      rw [hfl, List.take_length] at hb
      refine ⟨_, rfl, p, _, _, _, rfl, rfl, SqT.of (s' _ _ h0), rfl, (by show 1 ≤ sizeLine; decide), fun q hq => ?_⟩
      refine ⟨D, q, _, _, rfl, rfl, Same.lay hq _ _ hD, upd_same, ?_, fun l hl2 => ?_⟩
      · rw [hl]; show fv.length + 1 ≤ sizeLine
        exact Nat.le_of_lt (small1000 (by omega))
      have sA : Same H _ := s'.trans ((Same.lay hq).trans (Same.lay (o := .lst (ys ++ [.ref b])) hl2))
      exact k l _ _ upd_same ((BdsAt.keep (TupKeep.same sA) hb).app (.one (bd_of (sA _ _ h7) (h8.keep (TupKeep.same sA))))) sA
/-! ### names_once -/
/-- names as the keys of a dict -/
def nmK (xs : List Str) : List (Key × V) := xs.map fun x => ((.inr x : Key), V.bl true)
theorem nm_none {x : Str} : ∀ {xs : List Str}, x ∉ xs → valV (nmK xs) (Sum.inr x : Key) = none
  | [], _ => rfl
  | y :: r, h => by
    show valV (((.inr y : Key), V.bl true) :: nmK r) (Sum.inr x : Key) = none
    rw [valV_neg (fun e => h (by rw [← Sum.inr.inj e]; exact List.mem_cons_self))]
    exact nm_none fun m => h (List.mem_cons_of_mem _ m)
theorem nm_some {x : Str} : ∀ {xs : List Str}, x ∈ xs → valV (nmK xs) (Sum.inr x : Key) = some (.bl true)
  | [], h => by simp at h
  | y :: r, h => by
    show valV (((.inr y : Key), V.bl true) :: nmK r) (Sum.inr x : Key) = some (.bl true)
    by_cases e : y = x
    · rw [valV_pos (by rw [e])]
    · rw [valV_neg (fun z => e (Sum.inr.inj z))]
      rcases List.mem_cons.mp h with q | q
      · exact absurd q.symm e
      · exact nm_some q
abbrev NamedAt (H : Hp) : List Str → List V → Prop := F2 fun x v => ∃ (q : Addr) (r : List V), v = .ref q ∧ H q = some (.tup (.str x :: r))
def spOnce : Sp := fun vs H Q _ => ∃ (p : Addr) (xs : List Str) (us : List V), vs = [.ref p] ∧ H p = some (.tup us) ∧ NamedAt H xs us ∧ xs.Nodup ∧ xs.length ≤ 24 ∧ ∀ (d : Addr) (H' : Hp), H' d = some (.dK (nmK xs)) → Same H H' → Q (.ref d) H'
theorem scOnce : FnScope ["part", "names", "named"] ["part"] (defScope sOnce) := ⟨rfl, rfl, rfl, by decide +kernel, rfl, by decide +kernel, by decide +kernel⟩
theorem ok_once {f : Addr} {fd : FuncData} (F : Fun K "names_once" "names_once" sOnce f fd) : FnOk P w K mg base CX0 1 f fd ["part"] spOnce := by
  refine F.ok scOnce (fun vs H Q E h => ?_) (fun cdv A outer s H vs Q E hr h => ?_)
  · obtain ⟨p, xs, us, rfl, _⟩ := h
    rfl
  · obtain ⟨p, xs, us, rfl, hp, hus, nd, hl24, k⟩ := h
    have hu := hu_of hr
    refine ⟨_, pss_cons (ps_set (i := 1) scOnce.nd rfl (Or.inl rfl) pe_dnewK)
      (pss_cons (ps_for PassesOwn.never rfl (pi_tup (pv 0)) (pg_name (i := 2) scOnce.nd rfl (Or.inl rfl))
        (pss_cons (ps_if (pt_cmp (pc_din hu (pe_ix ix_tup (pv 2) pe_int (fun _ _ => rfl)) (pv 1))) (pss_one ps_never) pss_nil)
        (pss_one (ps_dput hu (pv 1) (pe_ix ix_tup (pv 2) pe_int (fun _ _ => rfl)) pe_bl rfl))))
      (pss_one (ps_ret (pv 1)))), ?_⟩
    intro d hd
    have hlu := hus.len
    refine ⟨_, rfl, p, rfl, ⟨_, SqT.of (Same.lay hd _ _ hp)⟩, for_tup (K := K) (a := p) (xs := us) (fun i σ H' => ∃ v2 : Option V, σ = [some (.ref p), some (.ref d), v2] ∧ H' d = some (.dK (nmK (xs.take i))) ∧ Same H H')
      ⟨none, rfl, by simpa [nmK] using upd_same, Same.lay hd⟩ (fun i σ H' _ ⟨_, _, _, s'⟩ => SqT.of (s' _ _ hp)) ?_ ?_⟩
    · rintro i x σ H' hx ⟨v2, rfl, hd', s'⟩
      obtain ⟨y, hy, q, r, rfl, hq⟩ := hus.get hx
      have hq' := s' _ _ hq
      have hyn : y ∉ xs.take i := by
        intro m
        obtain ⟨hlt, e⟩ := List.getElem?_eq_some_iff.mp hy
        have h2 := nd
        rw [← List.take_append_drop i xs, List.drop_eq_getElem_cons hlt, e] at h2
        exact (List.nodup_append.mp h2).2.2 y m y List.mem_cons_self rfl
      refine ⟨_, rfl, q, _, _, _, rfl, rfl, SqT.of hq', atI_nat (j := 0) rfl, _, rfl, d, _, rfl, DGet.k (k := (Sum.inr y : Key)) hd', _, rfl, ?_⟩
      rw [nm_none hyn]
      refine iteF ?_
      refine ⟨_, rfl, _, rfl, q, _, _, _, rfl, rfl, SqT.of hq', atI_nat (j := 0) rfl, d, _, rfl, DPut.k (k := (Sum.inr y : Key)) hd' (by unfold nmK; rw [List.length_map, List.length_take]; exact small1000 (by omega)), ?_⟩
      rw [putK_new _ (nm_none hyn)]
      refine ⟨_, rfl, ?_, fun c o e => ?_⟩
      · have : nmK (xs.take (i + 1)) = nmK (xs.take i) ++ [((Sum.inr y : Key), V.bl true)] := take_map_snoc hy
        rw [this]; exact upd_same
      · rw [upd_ne (ne_of_none e hd)]; exact s' c o e
    · rintro σ H' ⟨v2, rfl, hd', s'⟩
      rw [hlu, List.take_length] at hd'
      exact ⟨_, rfl, k d H' hd' s'⟩
/-! ### look_up -/
def spUp : Sp := fun vs H Q _ => ∃ (x : Str) (d : Addr) (xs : List Str), vs = [.str x, .ref d] ∧ H d = some (.dK (nmK xs)) ∧ x ∈ xs ∧ Q .non H
theorem scUp : FnScope ["name", "names"] ["name", "names"] (defScope sUp) := ⟨rfl, rfl, rfl, by decide +kernel, rfl, by decide +kernel, by decide +kernel⟩
theorem ok_up {f : Addr} {fd : FuncData} (F : Fun K "look_up" "look_up" sUp f fd) : FnOk P w K mg base CX0 1 f fd ["name", "names"] spUp := by
  refine F.ok scUp (fun vs H Q E h => ?_) (fun cdv A outer s H vs Q E hr h => ?_)
  · obtain ⟨p, xs, us, rfl, _⟩ := h
    rfl
  · obtain ⟨x, d, xs, rfl, hd, hx, k⟩ := h
    have hu := hu_of hr
    refine ⟨_, pss_one (ps_if (pt_cmp (pc_dnotin hu (pv 0) (pv 1))) (pss_one ps_never) pss_nil), ?_⟩
    refine ⟨_, rfl, _, rfl, d, _, rfl, DGet.k (k := (Sum.inr x : Key)) hd, _, rfl, ?_⟩
    rw [nm_some hx]
    exact iteF k
abbrev HUp (P : Program) (w : World) (K : PySem.W.Frag) (mg : Str → Option Value) (base : Heap) : Prop := Has P w K mg base "look_up" 1 ["name", "names"] spUp
/-! ### look_at_term -/
def spLookT : Sp := fun vs H Q _ => ∃ (t : Tm) (v : V) (c r : Addr) (cs rs : List Str), vs = [v, .ref c, .ref r] ∧ TmAt H t v ∧ t.ok cs rs ∧ H c = some (.dK (nmK cs)) ∧ H r = some (.dK (nmK rs)) ∧ ∀ H', Same H H' → Q .non H'
theorem scLookT : FnScope ["term", "cells", "rows", "part"] ["term", "cells", "rows"] (defScope sLookT) := ⟨rfl, rfl, rfl, by decide +kernel, rfl, by decide +kernel, by decide +kernel⟩
theorem ok_lookT {f : Addr} {fd : FuncData} (F : Fun K "look_at_term" "look_at_term" sLookT f fd) (hT : Has P w K mg base "terms_in" 2 ["term"] spTermsIn) (hU : HUp P w K mg base) : FnOk P w K mg base CX0 3 f fd ["term", "cells", "rows"] spLookT := by
  refine F.ok scLookT (fun vs H Q E h => ?_) (fun cdv A outer s H vs Q E hr h => ?_)
  · obtain ⟨t, v, c, r, cs, rs, rfl, _⟩ := h
    rfl
  · obtain ⟨t, v, c, r, cs, rs, rfl, ht, hok, hc, hrr, k⟩ := h
    have hr1 : Room 1 _ := hr.mono (by omega)
    have hr2 : Room 2 _ := hr.mono (by omega)
    refine ⟨_, pss_one (ps_for PassesOwn.never rfl (pi_list (pe_has hT hr2 (by rfl) (pa_cons (pv 0) pa_nil))) (pg_name (i := 3) scLookT.nd rfl (Or.inl rfl))
      (pss_one (ps_if (pt_cmpR op_eq (pe_ix ix_tup (pv 3) pe_int (fun _ _ => rfl)) pe_str (nomark _))
        (pss_one (ps_expr (pe_has hU hr1 (by rfl) (pa_cons (pe_ix ix_tup (pv 3) pe_int (fun _ _ => rfl)) (pa_cons (pv 1) pa_nil)))))
        (pss_one (ps_if (pt_cmpR op_eq (pe_ix ix_tup (pv 3) pe_int (fun _ _ => rfl)) pe_str (nomark _))
          (pss_one (ps_expr (pe_has hU hr1 (by rfl) (pa_cons (pe_ix ix_tup (pv 3) pe_int (fun _ _ => rfl)) (pa_cons (pv 2) pa_nil))))) pss_nil))))), ?_⟩
    refine ⟨_, rfl, t, v, rfl, ht, hok.2, fun p us H1 hp hus s1 => ⟨p, rfl, ⟨_, SqL.of hp⟩, for_list (K := K) (a := p) (xs := us) (fun i σ H' => ∃ v3 : Option V, σ = [some v, some (.ref c), some (.ref r), v3] ∧ H' = H1)
      ⟨none, rfl, rfl⟩ (fun i σ H' _ ⟨_, _, e⟩ => by subst e; exact SqL.of hp) ?_ (fun σ H' ⟨_, _, e⟩ => by subst e; exact k _ s1)⟩⟩
    rintro i x σ H' hx ⟨v3, rfl, rfl⟩
    obtain ⟨y, hy, hyt⟩ := hus.get hx
    have hyo := ok0_all hok.1 y (List.mem_of_getElem? hy)
    have hc1 := s1 _ _ hc
    have hr1' := s1 _ _ hrr
    cases y with
    | num n =>
      obtain ⟨q, rfl, hq⟩ := hyt
      refine ⟨_, rfl, q, _, _, _, rfl, rfl, SqT.of hq, rfl, rfl, _, rfl, iteNo (by decide +kernel) ?_⟩
      exact ⟨_, rfl, q, _, _, _, rfl, rfl, SqT.of hq, rfl, rfl, _, rfl, iteNo (by decide +kernel) ⟨_, rfl, rfl⟩⟩
    | cell z =>
      obtain ⟨q, rfl, hq⟩ := hyt
      refine ⟨_, rfl, q, _, _, _, rfl, rfl, SqT.of hq, rfl, rfl, _, rfl, iteYes ?_⟩
      exact ⟨_, rfl, q, _, _, _, rfl, rfl, SqT.of hq, rfl, _, rfl, z, c, cs, rfl, hc1, hyo, _, rfl, rfl⟩
    | at_ z u =>
      obtain ⟨q, w', rfl, hq, _⟩ := hyt
      refine ⟨_, rfl, q, _, _, _, rfl, rfl, SqT.of hq, rfl, rfl, _, rfl, iteNo (by decide +kernel) ?_⟩
      refine ⟨_, rfl, q, _, _, _, rfl, rfl, SqT.of hq, rfl, rfl, _, rfl, iteYes ?_⟩
      exact ⟨_, rfl, q, _, _, _, rfl, rfl, SqT.of hq, rfl, _, rfl, z, r, rs, rfl, hr1', hyo.1, _, rfl, rfl⟩
    | op s' a b =>
      obtain ⟨q, w', w'', rfl, hq, _, _⟩ := hyt
      refine ⟨_, rfl, q, _, _, _, rfl, rfl, SqT.of hq, rfl, rfl, _, rfl, iteNo (by decide +kernel) ?_⟩
      exact ⟨_, rfl, q, _, _, _, rfl, rfl, SqT.of hq, rfl, rfl, _, rfl, iteNo (by decide +kernel) ⟨_, rfl, rfl⟩⟩
/-! ### look_at_statement -/
def spLookS : Sp := fun vs H Q _ => ∃ (s : Sm) (v : V) (c r f : Addr) (cs rs ds : List Str), vs = [v, .ref c, .ref r, .ref f] ∧ SmAt H s v ∧ s.ok cs rs ds ∧ H c = some (.dK (nmK cs)) ∧ H r = some (.dK (nmK rs)) ∧ H f = some (.dK (nmK ds)) ∧ ∀ H', Same H H' → Q .non H'
theorem terms_ok {cs rs ds : List Str} {s : Sm} (h : s.ok cs rs ds) : ∀ t ∈ s.terms, t.ok cs rs := by
  intro t ht
  cases s with
  | set x u =>
    have e : t = u := by simpa [Sm.terms] using ht
    rw [e]; exact h.2
  | put r a u =>
    have e : t = a ∨ t = u := by simpa [Sm.terms] using ht
    rcases e with e | e
    · rw [e]; exact h.2.1
    · rw [e]; exact h.2.2
  | whil u b =>
    have e : t = u := by simpa [Sm.terms] using ht
    rw [e]; exact h.1
  | iff u b o =>
    have e : t = u := by simpa [Sm.terms] using ht
    rw [e]; exact h.1
  | call g => simp [Sm.terms] at ht
theorem scLookS : FnScope ["statement", "cells", "rows", "defs", "term"] ["statement", "cells", "rows", "defs"] (defScope sLookS) := ⟨rfl, rfl, rfl, by decide +kernel, rfl, by decide +kernel, by decide +kernel⟩
theorem ok_lookS {f : Addr} {fd : FuncData} (F : Fun K "look_at_statement" "look_at_statement" sLookS f fd) (hU : HUp P w K mg base) (hO : Has P w K mg base "own_terms" 1 ["statement"] spOwnT) (hL : Has P w K mg base "look_at_term" 3 ["term", "cells", "rows"] spLookT) :
    FnOk P w K mg base CX0 4 f fd ["statement", "cells", "rows", "defs"] spLookS := by
  refine F.ok scLookS (fun vs H Q E h => ?_) (fun cdv A outer s H vs Q E hr h => ?_)
  · obtain ⟨t, v, c, r, f, cs, rs, ds, rfl, _⟩ := h
    rfl
  · obtain ⟨t, v, c, r, f, cs, rs, ds, rfl, ht, hok, hc, hrr, hff, k⟩ := h
    have hr1 : Room 1 _ := hr.mono (by omega)
    have hr3 : Room 3 _ := hr.mono (by omega)
    refine ⟨_, pss_cons (ps_if (pt_cmpR op_eq (pe_ix ix_tup (pv 0) pe_int (fun _ _ => rfl)) pe_str (nomark _))
        (pss_one (ps_expr (pe_has hU hr1 (by rfl) (pa_cons (pe_ix ix_tup (pv 0) pe_int (fun _ _ => rfl)) (pa_cons (pv 1) pa_nil)))))
        (pss_one (ps_if (pt_cmpR op_eq (pe_ix ix_tup (pv 0) pe_int (fun _ _ => rfl)) pe_str (nomark _))
          (pss_one (ps_expr (pe_has hU hr1 (by rfl) (pa_cons (pe_ix ix_tup (pv 0) pe_int (fun _ _ => rfl)) (pa_cons (pv 2) pa_nil)))))
          (pss_one (ps_if (pt_cmpR op_eq (pe_ix ix_tup (pv 0) pe_int (fun _ _ => rfl)) pe_str (nomark _))
            (pss_one (ps_expr (pe_has hU hr1 (by rfl) (pa_cons (pe_ix ix_tup (pv 0) pe_int (fun _ _ => rfl)) (pa_cons (pv 3) pa_nil))))) pss_nil)))))
      (pss_one (ps_for PassesOwn.never rfl (pi_tup (pe_has hO hr1 (by rfl) (pa_cons (pv 0) pa_nil))) (pg_name (i := 4) scLookS.nd rfl (Or.inl rfl))
        (pss_one (ps_expr (pe_has hL hr3 (by rfl) (pa_cons (pv 4) (pa_cons (pv 1) (pa_cons (pv 2) pa_nil)))))))), ?_⟩
    cases t
    case' set x u =>
      obtain ⟨p, q, e, hp, hq⟩ := id ht
      subst e
      refine ⟨_, rfl, p, _, _, _, rfl, rfl, SqT.of hp, rfl, rfl, _, rfl, iteYes ⟨_, rfl, p, _, _, _, rfl, rfl, SqT.of hp, rfl, _, rfl, x, c, cs, rfl, hc, hok.1, ?_⟩⟩
    case' put x a u =>
      obtain ⟨p, q, q', e, hp, hq, hq'⟩ := id ht
      subst e
      refine ⟨_, rfl, p, _, _, _, rfl, rfl, SqT.of hp, rfl, rfl, _, rfl, iteNo (by decide +kernel) ?_⟩
      refine ⟨_, rfl, p, _, _, _, rfl, rfl, SqT.of hp, rfl, rfl, _, rfl, iteYes ⟨_, rfl, p, _, _, _, rfl, rfl, SqT.of hp, rfl, _, rfl, x, r, rs, rfl, hrr, hok.1, ?_⟩⟩
    case' whil u b =>
      obtain ⟨p, q, z, vs, e, hp, hq⟩ := id ht
      subst e
      refine ⟨_, rfl, p, _, _, _, rfl, rfl, SqT.of hp, rfl, rfl, _, rfl, iteNo (by decide +kernel) ?_⟩
      refine ⟨_, rfl, p, _, _, _, rfl, rfl, SqT.of hp, rfl, rfl, _, rfl, iteNo (by decide +kernel) ?_⟩
      refine ⟨_, rfl, p, _, _, _, rfl, rfl, SqT.of hp, rfl, rfl, _, rfl, iteNo (by decide +kernel) ?_⟩
    case' iff u b o =>
      obtain ⟨p, q, z, vs, z', vs', e, hp, hq⟩ := id ht
      subst e
      refine ⟨_, rfl, p, _, _, _, rfl, rfl, SqT.of hp, rfl, rfl, _, rfl, iteNo (by decide +kernel) ?_⟩
      refine ⟨_, rfl, p, _, _, _, rfl, rfl, SqT.of hp, rfl, rfl, _, rfl, iteNo (by decide +kernel) ?_⟩
      refine ⟨_, rfl, p, _, _, _, rfl, rfl, SqT.of hp, rfl, rfl, _, rfl, iteNo (by decide +kernel) ?_⟩
    case' call x =>
      obtain ⟨p, e, hp⟩ := id ht
      subst e
      refine ⟨_, rfl, p, _, _, _, rfl, rfl, SqT.of hp, rfl, rfl, _, rfl, iteNo (by decide +kernel) ?_⟩
      refine ⟨_, rfl, p, _, _, _, rfl, rfl, SqT.of hp, rfl, rfl, _, rfl, iteNo (by decide +kernel) ?_⟩
      refine ⟨_, rfl, p, _, _, _, rfl, rfl, SqT.of hp, rfl, rfl, _, rfl, iteYes ⟨_, rfl, p, _, _, _, rfl, rfl, SqT.of hp, rfl, _, rfl, x, f, ds, rfl, hff, hok, ?_⟩⟩
    all_goals
      refine ⟨_, rfl, _, _, rfl, ht, fun p2 us hp2 hus => ⟨p2, rfl, ⟨_, SqT.of upd_same⟩, for_tup (K := K) (a := p2) (xs := us) (fun i σ H' => ∃ v4 : Option V, σ = [some (.ref p), some (.ref c), some (.ref r), some (.ref f), v4] ∧ Same (upd H p2 (.tup us)) H')
        ⟨none, rfl, Same.refl _⟩ (fun i σ H' _ ⟨_, _, s'⟩ => SqT.of (s' _ _ upd_same)) ?_ (fun σ H' ⟨_, _, s'⟩ => k _ ((Same.lay hp2).trans s'))⟩⟩
      rintro i x' σ H' hx ⟨v4, rfl, s'⟩
      obtain ⟨y, hy, hyt⟩ := hus.get hx
      have sA : Same H H' := (Same.lay hp2).trans s'
      exact ⟨_, rfl, _, rfl, _, rfl, y, x', c, r, cs, rs, rfl, hyt.keep (TupKeep.same sA), terms_ok hok y (List.mem_of_getElem? hy), sA _ _ hc, sA _ _ hrr, fun H'' s'' => ⟨_, rfl, s'.trans s''⟩⟩
/-! ### look -/
theorem PairsAt.named {H : Hp} : ∀ {b : List (Str × Int)} {vs : List V}, PairsAt H b vs → NamedAt H (b.map (·.1)) vs
  | [], vs, h => by
    have e : vs = [] := h
    subst e
    exact .nil
  | (x, a) :: r, vs, h => by
    obtain ⟨p, us, rfl, h1, h2⟩ := h
    exact .cons ⟨p, _, rfl, h1⟩ (PairsAt.named h2)
theorem DefsAt.named {H : Hp} : ∀ {b : List (Str × List Sm)} {vs : List V}, DefsAt H b vs → NamedAt H (b.map (·.1)) vs
  | [], vs, h => by
    have e : vs = [] := h
    subst e
    exact .nil
  | (x, a) :: r, vs, h => by
    obtain ⟨p, q, bs, us, rfl, h1, h2, h3, h4⟩ := h
    exact .cons ⟨p, _, rfl, h1⟩ (DefsAt.named h4)
theorem Prog.ok.bodies {g : Prog} (h : g.ok) : ∀ b ∈ g.bodies, okB (g.cells.map (·.1)) (g.rows.map (·.1)) (g.defs.map (·.1)) b ∧ sizeB b ≤ 12300 := by
  intro b hb
  rcases List.mem_append.mp hb with e | e
  · obtain ⟨f, hf, rfl⟩ := List.mem_map.mp e
    have h1 := h.db f hf
    exact ⟨h1.1, Nat.le_trans h1.2 (by decide)⟩
  · rw [List.mem_singleton.mp e]
    exact ⟨h.bo, Nat.le_trans h.bs (by decide)⟩
theorem NamedAt.keep {H H' : Hp} (k : TupKeep H H') {xs : List Str} {vs : List V} (h : NamedAt H xs vs) : NamedAt H' xs vs := h.mono fun _ _ ⟨q, r, e, hq⟩ => ⟨q, r, e, k _ _ hq⟩
def spLook : Sp := fun vs H Q _ => ∃ (g : Prog) (v : V), vs = [v] ∧ PrAt H g v ∧ g.ok ∧ ∀ H', Same H H' → Q (.bl true) H'
theorem scLook : FnScope ["program", "cells", "rows", "defs", "body", "statement"] ["program"] (defScope sLook) := ⟨rfl, rfl, rfl, by decide +kernel, rfl, by decide +kernel, by decide +kernel⟩
theorem ok_look {f : Addr} {fd : FuncData} (F : Fun K "look" "look" sLook f fd) (hO : Has P w K mg base "names_once" 1 ["part"] spOnce) (hB : Has P w K mg base "bodies_in" 1 ["program"] spBodies) (hS : Has P w K mg base "statements_in" 2 ["body"] spStatsIn)
    (hL : Has P w K mg base "look_at_statement" 4 ["statement", "cells", "rows", "defs"] spLookS) : FnOk P w K mg base CX0 5 f fd ["program"] spLook := by
  refine F.ok scLook (fun vs H Q E h => ?_) (fun cdv A outer s H vs Q E hr h => ?_)
  · obtain ⟨t, v, rfl, _⟩ := h
    rfl
  · obtain ⟨g, v, rfl, hg, hok, k⟩ := h
    obtain ⟨p, c, r, f, b, cv, rv, fv, bv, rfl, h0, h1, h2, h3, h4, h5, h6, h7, h8⟩ := id hg
    have hr1 : Room 1 _ := hr.mono (by omega)
    have hr2 : Room 2 _ := hr.mono (by omega)
    have hr4 : Room 4 _ := hr.mono (by omega)
    refine ⟨_, pss_cons (ps_set (i := 1) scLook.nd rfl (Or.inl rfl) (pe_has hO hr1 (by rfl) (pa_cons (pe_ix ix_tup (pv 0) pe_int (fun _ _ => rfl)) pa_nil)))
      (pss_cons (ps_set (i := 2) scLook.nd rfl (Or.inl rfl) (pe_has hO hr1 (by rfl) (pa_cons (pe_ix ix_tup (pv 0) pe_int (fun _ _ => rfl)) pa_nil)))
      (pss_cons (ps_set (i := 3) scLook.nd rfl (Or.inl rfl) (pe_has hO hr1 (by rfl) (pa_cons (pe_ix ix_tup (pv 0) pe_int (fun _ _ => rfl)) pa_nil)))
      (pss_cons (ps_for PassesOwn.never rfl (pi_list (pe_has hB hr1 (by rfl) (pa_cons (pv 0) pa_nil))) (pg_name (i := 4) scLook.nd rfl (Or.inl rfl))
        (pss_one (ps_for PassesOwn.never rfl (pi_list (pe_has hS hr2 (by rfl) (pa_cons (pv 4) pa_nil))) (pg_name (i := 5) scLook.nd rfl (Or.inl rfl))
          (pss_one (ps_expr (pe_has hL hr4 (by rfl) (pa_cons (pv 5) (pa_cons (pv 1) (pa_cons (pv 2) (pa_cons (pv 3) pa_nil))))))))))
      (pss_one (ps_ret pe_bl))))), ?_⟩
    refine ⟨_, rfl, p, _, _, _, rfl, rfl, SqT.of h0, rfl, c, _, cv, rfl, h1, h2.named, hok.cn, (by rw [List.length_map]; exact hok.cl), fun dc H1 hdc s1 => ?_⟩
    refine ⟨_, rfl, p, _, _, _, rfl, rfl, SqT.of (s1 _ _ h0), rfl, r, _, rv, rfl, s1 _ _ h3, NamedAt.keep (TupKeep.same s1) h4.named, hok.rn, (by rw [List.length_map]; exact hok.rl), fun dr H2 hdr s2 => ?_⟩
    have s02 := s1.trans s2
    refine ⟨_, rfl, p, _, _, _, rfl, rfl, SqT.of (s02 _ _ h0), rfl, f, _, fv, rfl, s02 _ _ h5, NamedAt.keep (TupKeep.same s02) h6.named, hok.dn, (by rw [List.length_map]; exact hok.dl), fun df H3 hdf s3 => ?_⟩
    have s03 := s02.trans s3
    refine ⟨_, rfl, g, .ref p, rfl, hg.keep (TupKeep.same s03), hok.dl, fun lb ub H4 hlb hub s4 => ⟨lb, rfl, ⟨_, SqL.of hlb⟩, for_list (K := K) (a := lb) (xs := ub) (fun i σ H' => ∃ v4 v5 : Option V, σ = [some (.ref p), some (.ref dc), some (.ref dr), some (.ref df), v4, v5] ∧ Same H4 H')
      ⟨none, none, rfl, Same.refl _⟩ (fun i σ H' _ ⟨_, _, _, s'⟩ => SqL.of (s' _ _ hlb)) ?_ (fun σ H' ⟨_, _, _, s'⟩ => k _ ((s03.trans s4).trans s'))⟩⟩
    rintro i x σ H' hx ⟨v4, v5, rfl, s'⟩
    obtain ⟨bi, hbi, hbx⟩ := hub.get hx
    obtain ⟨okb, szb⟩ := hok.bodies bi (List.mem_of_getElem? hbi)
    refine ⟨_, rfl, bi, x, rfl, hbx.keep (TupKeep.same s'), szb, fun ls us H5 hls hus s5 => ⟨ls, rfl, ⟨_, SqL.of hls⟩, for_list (K := K) (a := ls) (xs := us) (fun i σ H' => ∃ v5 : Option V, σ = [some (.ref p), some (.ref dc), some (.ref dr), some (.ref df), some x, v5] ∧ Same H5 H')
      ⟨v5, rfl, Same.refl _⟩ (fun i σ H' _ ⟨_, _, s'⟩ => SqL.of (s' _ _ hls)) ?_ (fun σ H'' ⟨v5, e, s''⟩ => ⟨some x, v5, e, (s'.trans s5).trans s''⟩)⟩⟩
    rintro j y σ H'' hy ⟨v5, rfl, s''⟩
    obtain ⟨si, hsi, hsy⟩ := hus.get hy
    have s45 := (s'.trans s5).trans s''
    have s35 := s4.trans s45
    exact ⟨_, rfl, _, rfl, _, rfl, _, rfl, si, y, dc, dr, df, _, _, _, rfl, hsy.keep (TupKeep.same s''), ok_allB okb si (List.mem_of_getElem? hsi), (s2.trans (s3.trans s35)) _ _ hdc, (s3.trans s35) _ _ hdr, s35 _ _ hdf, fun H6 s6 => ⟨_, rfl, s''.trans s6⟩⟩
end
end My

set_option Elab.async false
set_option linter.all false
set_option maxRecDepth 100000
set_option maxHeartbeats 4000000
namespace My
open PySem L2
/-! ### _law_lean -/
def Prog.lean1 (g : Prog) : Prog := ⟨g.cells, g.rows, g.defs.map fun f => (f.1, []), g.body⟩
def Prog.lean2 (g : Prog) : Prog := ⟨g.cells, g.rows, g.defs, []⟩
theorem lean_names (fs : List (Str × List Sm)) : (fs.map fun f => (f.1, ([] : List Sm))).map (·.1) = fs.map (·.1) := by
  rw [List.map_map]; rfl
theorem Prog.ok.lean1 {g : Prog} (h : g.ok) : g.lean1.ok := by
  obtain ⟨a1, a2, a3, a4, a5, a6, a7, a8, a9, a10, a11, a12⟩ := h
  refine ⟨a1, a2, ?_, a4, a5, a6, ?_, a8, a9, fun f hf => ?_, ?_, a12⟩
  · show ((g.defs.map fun f => (f.1, ([] : List Sm))).map (·.1)).Nodup
    rw [lean_names]; exact a3
  · show (g.defs.map fun f => (f.1, ([] : List Sm))).length ≤ 24
    rw [List.length_map]; exact a7
  · obtain ⟨f0, _, rfl⟩ := List.mem_map.mp hf
    exact ⟨trivial, Nat.zero_le _⟩
  · show okB _ _ ((g.defs.map fun f => (f.1, ([] : List Sm))).map (·.1)) g.body
    rw [lean_names]; exact a11
theorem Prog.ok.lean2 {g : Prog} (h : g.ok) : g.lean2.ok := by
  obtain ⟨a1, a2, a3, a4, a5, a6, a7, a8, a9, a10, a11, a12⟩ := h
  exact ⟨a1, a2, a3, a4, a5, a6, a7, a8, a9, a10, trivial, Nat.zero_le _⟩
def spLean : Sp := fun vs H Q _ => ∃ (g : Prog) (v : V), vs = [v] ∧ PrAt H g v ∧ g.ok ∧ ∀ (p : Addr) (u1 u2 : V) (H' : Hp), H' p = some (.lst [u1, u2]) → PrAt H' g.lean1 u1 → PrAt H' g.lean2 u2 → Same H H' → Q (.ref p) H'
theorem DefsAt.of {H : Hp} : ∀ {fs : List Str} {vs : List V}, F2 (fun x v => ∃ p q : Addr, v = .ref p ∧ H p = some (.tup [.str x, .ref q]) ∧ H q = some (.tup [])) fs vs → DefsAt H (fs.map fun x => (x, [])) vs
  | [], vs, h => by
    cases h
    rfl
  | x :: r, vs, h => by
    obtain ⟨v, us, rfl, ⟨p, q, rfl, h1, h2⟩, h3⟩ := h.left
    exact ⟨p, q, [], us, rfl, h1, h2, rfl, DefsAt.of h3⟩
section
variable {P : Program} {w : World} {K : PySem.W.Frag} {mg : Str → Option Value} {base : Heap}
theorem scLean : FnScope ["_law_program_here", "_law_cells", "_law_rows", "_law_defs", "_law_body_here"] ["_law_program_here"] (defScope sLean) := ⟨rfl, rfl, rfl, by decide +kernel, rfl, by decide +kernel, by decide +kernel⟩
theorem ok_lean {f : Addr} {fd : FuncData} (F : Fun K "_law_lean" "_law_lean" sLean f fd) (C : Con7 mg) : FnOk P w K mg base CX0 1 f fd ["_law_program_here"] spLean := by
  refine F.ok scLean (fun vs H Q E h => ?_) (fun cdv A outer s H vs Q E hr h => ?_)
  · obtain ⟨t, v, rfl, _⟩ := h
    rfl
  · obtain ⟨g, v, rfl, hg, hok, k⟩ := h
    obtain ⟨p, c, r, f, b, cv, rv, fv, bv, rfl, h0, h1, h2, h3, h4, h5, h6, h7, h8⟩ := id hg
    refine ⟨_, pss_cons (ps_asg (pv 0) (pg_tup rfl (pgs_cons (pg_name (i := 1) scLean.nd rfl (Or.inl rfl)) (pgs_cons (pg_name (i := 2) scLean.nd rfl (Or.inl rfl)) (pgs_cons (pg_name (i := 3) scLean.nd rfl (Or.inl rfl)) (pgs_cons (pg_name (i := 4) scLean.nd rfl (Or.inl rfl)) pgs_nil))))))
      (pss_one (ps_ret (pe_lst (pa_cons (pe_tup (pa_cons (pv 1) (pa_cons (pv 2) (pa_cons
        (pe_callTy call_tuple_of (by rfl) C.tuple PyProof.Rows.boot_tuple (pa_cons
          (pe_compG (xs := ["_law_f", "_law_own"]) (ys := []) (ix := []) (compOkN_of (osc := defScope sLean) (N := ["_law_program_here", "_law_cells", "_law_rows", "_law_defs", "_law_body_here"]) rfl rfl (by decide +kernel)) rfl (pi_tup (pv 3))
            (fun z => pg_tup rfl (pgs_cons (pg_own (i := 0) (ix := []) (compOkN_of (osc := defScope sLean) (N := ["_law_program_here", "_law_cells", "_law_rows", "_law_defs", "_law_body_here"]) rfl rfl (by decide +kernel)) rfl) (pgs_cons (pg_own (i := 1) (ix := []) (compOkN_of (osc := defScope sLean) (N := ["_law_program_here", "_law_cells", "_law_rows", "_law_defs", "_law_body_here"]) rfl rfl (by decide +kernel)) rfl) pgs_nil)))
            (fun z => pifs_nil) (fun z => pe_tup (pa_cons (pv 0) (pa_cons (pe_tup pa_nil) pa_nil)))) pa_nil))
        (pa_cons (pv 4) pa_nil))))) (pa_cons (pe_tup (pa_cons (pv 1) (pa_cons (pv 2) (pa_cons (pv 3) (pa_cons (pe_tup pa_nil) pa_nil))))) pa_nil))))), ?_⟩
    have hF := h6.get
    have hfl := hF.len
    have hdl := hok.dl
    refine ⟨_, rfl, p, _, rfl, SqT.of h0, rfl, _, _, rfl, _, _, rfl, _, _, rfl, _, _, rfl, rfl, ?_⟩
    refine ⟨_, rfl, _, rfl, _, rfl, f, rfl, ⟨_, SqT.of h5⟩, ?_⟩
    refine compwg_tup (K := K) (a := f) (xs := fv) (fun D i ys H' => H' D = some (.lst ys) ∧ H D = none ∧ Same H H' ∧ F2 (fun x v => ∃ p q : Addr, v = .ref p ∧ H' p = some (.tup [.str x, .ref q]) ∧ H' q = some (.tup [])) ((g.defs.take i).map (·.1)) ys) ?_ ?_ ?_ ?_
    · intro D hD
      exact ⟨upd_same, hD, Same.lay hD, by simpa using F2.nil⟩
    · rintro D i ys H' hi ⟨hD, hn, s', hb⟩
      exact ⟨SqT.of (s' _ _ h5), hD, by rw [hb.len, List.length_map, List.length_take]; exact small1000 (by omega)⟩
    · rintro D i x ys H' hx ⟨hD, hn, s', hb⟩ z
      obtain ⟨fi, hfi, p1, q1, bs1, rfl, hp1, hq1, hs1⟩ := hF.get hx
      refine ⟨p1, _, rfl, SqT.of (s' _ _ hp1), rfl, _, _, rfl, _, _, rfl, rfl, ((KeepN.refl 2 [] _).set (by decide)).set (by decide), noIf ⟨_, rfl, Nat.zero_le _, fun q hq => ⟨(by show 2 ≤ sizeLine; decide), fun p' hp' => ?_⟩⟩⟩
      have hD5 := ((Same.lay (o := .tup []) hq).trans (Same.lay (o := .tup [.str fi.1, .ref q]) hp')) _ _ hD
      have kq : TupKeep (upd H' q (.tup [])) _ := (TupKeep.lay hp').trans (TupKeep.put (ws := ys ++ [.ref p']) hD5)
      have kA : TupKeep H' _ := (TupKeep.lay hq).trans kq
      refine ⟨hD5, upd_same, hn, fun b o e => ?_, ?_⟩
      · rw [upd_ne (ne_of_none e hn)]
        exact ((Same.lay hq).trans (Same.lay hp')) _ _ (s' b o e)
      · rw [take_map_snoc hfi]
        exact (hb.mono fun x v ⟨a1, a2, e, e1, e2⟩ => ⟨a1, a2, e, kA _ _ e1, kA _ _ e2⟩).app (.one ⟨p', q, rfl, TupKeep.put hD5 _ _ upd_same, kq _ _ upd_same⟩)
    · rintro D ys H1 ⟨hD, hn, s1, hb⟩
      rw [hfl, List.take_length] at hb
      refine ⟨D, _, rfl, .inl ⟨SqL.of hD, fun dt hdt => ⟨_, rfl, (by show 4 ≤ sizeLine; decide), fun a ha => ⟨_, rfl, _, rfl, _, rfl, Nat.zero_le _, fun e he => ⟨(by show 4 ≤ sizeLine; decide), fun a2 ha2 => ⟨(by show 2 ≤ sizeLine; decide), fun l hl => ?_⟩⟩⟩⟩⟩⟩
      have t6 := Same.lay (o := .lst [.ref a, .ref a2]) hl
      have t5 := (Same.lay (o := .tup [.ref c, .ref r, .ref f, .ref e]) ha2).trans t6
      have t4 := (Same.lay (o := .tup []) he).trans t5
      have t3 := (Same.lay (o := .tup [.ref c, .ref r, .ref dt, .ref b]) ha).trans t4
      have t2 := (Same.lay (o := .tup ys) hdt).trans t3
      have sA : Same H _ := s1.trans t2
      have kA := TupKeep.same sA
      have k1 := TupKeep.same t2
      refine k l (.ref a) (.ref a2) _ upd_same ⟨a, c, r, dt, b, cv, rv, ys, bv, rfl, t4 _ _ upd_same, sA _ _ h1, h2.keep kA, sA _ _ h3, h4.keep kA, t3 _ _ upd_same, ?_, sA _ _ h7, h8.keep kA⟩
        ⟨a2, c, r, f, e, cv, rv, fv, [], rfl, t6 _ _ upd_same, sA _ _ h1, h2.keep kA, sA _ _ h3, h4.keep kA, sA _ _ h5, h6.keep kA, t5 _ _ upd_same, rfl⟩ sA
      have hd := DefsAt.of (hb.mono fun x v ⟨a1, a2, e, e1, e2⟩ => ⟨a1, a2, e, k1 _ _ e1, k1 _ _ e2⟩)
      rw [List.map_map] at hd
      exact hd
end
end My

set_option Elab.async false
set_option linter.all false
set_option maxRecDepth 100000
set_option maxHeartbeats 4000000
namespace My
open PySem L2
/-! ### law -/
def spLaw (K : PySem.W.Frag) : Sp := fun vs H Q _ => ∃ (a : Addr) (ns : List Int), vs = [.ref a] ∧ SqL K H a (ns.map V.int) ∧ ns.length ≤ 63 ∧ ∀ H', Q (.bl true) H'
section
variable {P : Program} {w : World} {K : PySem.W.Frag} {mg : Str → Option Value} {base : Heap}
theorem scLaw : FnScope ["_law_script", "_law_deal_here", "_law_one", "_law_other", "_law_program_here"] ["_law_script"] (defScope sLaw) := ⟨rfl, rfl, rfl, by decide +kernel, rfl, by decide +kernel, by decide +kernel⟩
theorem ok_law {f : Addr} {fd : FuncData} (F : Fun K "law" "law" sLaw f fd) (hDe : Has P w K mg base "_law_deal" 1 ["_law_script", "_law_base"] (spDeal K)) (hPr : Has P w K mg base "_law_program" 20 ["_law_deal_here"] spProg)
    (hLe : Has P w K mg base "_law_lean" 1 ["_law_program_here"] spLean) (hLo : Has P w K mg base "look" 5 ["program"] spLook) : FnOk P w K mg base CX0 21 f fd ["_law_script"] (spLaw K) := by
  refine F.ok scLaw (fun vs H Q E h => ?_) (fun cdv A outer s H vs Q E hr h => ?_)
  · obtain ⟨a, ns, rfl, _⟩ := h
    rfl
  · obtain ⟨sa, ns, rfl, hS, hn, k⟩ := h
    have hr1 : Room 1 _ := hr.mono (by decide)
    have hr5 : Room 5 _ := hr.mono (by decide)
    have hr20 : Room 20 _ := hr.mono (by decide)
    refine ⟨_, pss_cons (ps_set (i := 1) scLaw.nd rfl (Or.inl rfl) (pe_has hDe hr1 (by rfl) (pa_cons (pv 0) (pa_cons pe_int pa_nil))))
      (pss_cons (ps_set (i := 2) scLaw.nd rfl (Or.inl rfl) (pe_has hPr hr20 (by rfl) (pa_cons (pv 1) pa_nil)))
      (pss_cons (ps_set (i := 3) scLaw.nd rfl (Or.inl rfl) (pe_has hPr hr20 (by rfl) (pa_cons (pv 1) pa_nil)))
      (pss_cons (ps_for PassesOwn.never rfl (pi_list (pe_op op_cat (pe_op op_cat (pe_lst (pa_cons (pv 2) (pa_cons (pv 3) (pa_cons (pv 2) pa_nil)))) (pe_has hLe hr1 (by rfl) (pa_cons (pv 2) pa_nil))) (pe_has hLe hr1 (by rfl) (pa_cons (pv 3) pa_nil)))) (pg_name (i := 4) scLaw.nd rfl (Or.inl rfl))
        (pss_one (ps_if (pt_cmpR op_isnot_bl (pe_has hLo hr5 (by rfl) (pa_cons (pv 4) pa_nil)) pe_bl (nomark _)) (pss_one (ps_ret pe_bl)) pss_nil)))
      (pss_one (ps_ret pe_bl))))), ?_⟩
    refine ⟨_, rfl, sa, ns, 0, rfl, hS, hn, by decide, by decide, fun d l H1 hd hl D1 s1 => ?_⟩
    refine ⟨_, rfl, d, l, rfl, D1, fun v1 g1 H2 p1 ok1 D2 e2 => ?_⟩
    refine ⟨_, rfl, d, l, rfl, D2, fun v2 g2 H3 p2 ok2 D3 e3 => ?_⟩
    have p13 := p1.keep (TupKeep.else D2 e3)
    refine ⟨_, rfl, _, rfl, _, rfl, (by show 3 ≤ sizeLine; decide), fun q1 hq1 => ?_⟩
    have t4 := Same.lay (o := .lst [v1, v2, v1]) hq1
    refine ⟨_, rfl, g1, v1, rfl, p13.keep (TupKeep.same t4), ok1, fun q2 u1 u2 H5 hq2 pu1 pu2 s5 => ?_⟩
    refine ⟨q1, q2, _, _, rfl, rfl, s5 _ _ upd_same, hq2, (by show 5 ≤ sizeLine; decide), fun q3 hq3 => ?_⟩
    have t6 := Same.lay (o := .lst ([v1, v2, v1] ++ [u1, u2])) hq3
    refine ⟨_, rfl, g2, v2, rfl, p2.keep (TupKeep.same ((t4.trans s5).trans t6)), ok2, fun q4 u3 u4 H7 hq4 pu3 pu4 s7 => ?_⟩
    refine ⟨q3, q4, _, _, rfl, rfl, s7 _ _ upd_same, hq4, (by show 7 ≤ sizeLine; decide), fun q5 hq5 => ?_⟩
    have t8 := Same.lay (o := .lst (([v1, v2, v1] ++ [u1, u2]) ++ [u3, u4])) hq5
    have hq8 : (upd H7 q5 (.lst (([v1, v2, v1] ++ [u1, u2]) ++ [u3, u4]))) q5 = some (.lst (([v1, v2, v1] ++ [u1, u2]) ++ [u3, u4])) := upd_same
    generalize (upd H7 q5 (.lst (([v1, v2, v1] ++ [u1, u2]) ++ [u3, u4]))) = H8 at t8 hq8
    have s78 := s7.trans t8
    have s58 := t6.trans s78
    have s38 := (t4.trans s5).trans s58
    have all : ∀ x ∈ ([v1, v2, v1] ++ [u1, u2]) ++ [u3, u4], ∃ g : Prog, PrAt H8 g x ∧ g.ok := by
      intro x hx
      have hx' : x = v1 ∨ x = v2 ∨ x = v1 ∨ x = u1 ∨ x = u2 ∨ x = u3 ∨ x = u4 := by simpa using hx
      have a1 : ∃ g : Prog, PrAt H8 g v1 ∧ g.ok := ⟨g1, p13.keep (TupKeep.same s38), ok1⟩
      rcases hx' with rfl | rfl | rfl | rfl | rfl | rfl | rfl
      · exact a1
      · exact ⟨g2, p2.keep (TupKeep.same s38), ok2⟩
      · exact a1
      · exact ⟨_, pu1.keep (TupKeep.same s58), ok1.lean1⟩
      · exact ⟨_, pu2.keep (TupKeep.same s58), ok1.lean2⟩
      · exact ⟨_, pu3.keep (TupKeep.same t8), ok2.lean1⟩
      · exact ⟨_, pu4.keep (TupKeep.same t8), ok2.lean2⟩
    refine ⟨q5, rfl, ⟨_, SqL.of hq8⟩, for_list (K := K) (a := q5) (xs := ([v1, v2, v1] ++ [u1, u2]) ++ [u3, u4]) (fun i σ H' => ∃ v4 : Option V, σ = [some (.ref sa), some (.ref d), some v1, some v2, v4] ∧ Same H8 H')
      ⟨none, rfl, Same.refl _⟩ (fun i σ H' _ ⟨_, _, s'⟩ => SqL.of (s' _ _ hq8)) ?_ (fun σ H' _ => k H')⟩
    rintro i x σ H' hx ⟨v4, rfl, s'⟩
    obtain ⟨g, pg, okg⟩ := all x (List.mem_of_getElem? hx)
    exact ⟨_, rfl, g, x, rfl, pg.keep (TupKeep.same s'), okg, fun H'' s'' => ⟨true, true, rfl, rfl, _, rfl, iteF ⟨_, rfl, s'.trans s''⟩⟩⟩
end
end My

set_option Elab.async false
set_option linter.all false
set_option maxRecDepth 100000
set_option maxHeartbeats 4000000
namespace My
open PySem L2
theorem all_mk {l : PySem.W.OpenLaw} {w : World} {K : PySem.W.Frag} {h : Heap} {mg : Str → Option Value} {fa f1 f2 f3 f4 f5 f6 f7 f8 f9 f10 f11 f12 f13 f14 f15 f16 f17 f18 f19 f20 f21 f22 : Addr} (X : K.In h) (G : h.Ns mainGlobals mg) (hfa : mg "law" = some (.ref fa))
    {od1 an1 od2 an2 od3 an3 od4 an4 od5 an5 od6 an6 od7 an7 od8 an8 od9 an9 od10 an10 od11 an11 od12 an12 od13 an13 od14 an14 od15 an15 od16 an16 od17 an17 od18 an18 od19 an19 od20 an20 od21 an21 od22 an22 : Option Addr} {sl1 sl2 sl3 sl4 sl5 sl6 sl7 sl8 sl9 sl10 sl11 sl12 sl13 sl14 sl15 sl16 sl17 sl18 sl19 sl20 sl21 sl22 : Array (Option Value)} {oc1 kV1 dc1 pm1 cd1 ct1 oc2 kV2 dc2 pm2 cd2 ct2 oc3 kV3 dc3 pm3 cd3 ct3 oc4 kV4 dc4 pm4 cd4 ct4 oc5 kV5 dc5 pm5 cd5 ct5 oc6 kV6 dc6 pm6 cd6 ct6 oc7 kV7 dc7 pm7 cd7 ct7 oc8 kV8 dc8 pm8 cd8 ct8 oc9 kV9 dc9 pm9 cd9 ct9 oc10 kV10 dc10 pm10 cd10 ct10 oc11 kV11 dc11 pm11 cd11 ct11 oc12 kV12 dc12 pm12 cd12 ct12 oc13 kV13 dc13 pm13 cd13 ct13 oc14 kV14 dc14 pm14 cd14 ct14 oc15 kV15 dc15 pm15 cd15 ct15 oc16 kV16 dc16 pm16 cd16 ct16 oc17 kV17 dc17 pm17 cd17 ct17 oc18 kV18 dc18 pm18 cd18 ct18 oc19 kV19 dc19 pm19 cd19 ct19 oc20 kV20 dc20 pm20 cd20 ct20 oc21 kV21 dc21 pm21 cd21 ct21 oc22 kV22 dc22 pm22 cd22 ct22 : Value}
    (a1 : PySem.W.nsIn K mainGlobals "inner_terms" = some (some (.ref f1))) (l1 : K.lookup f1 = some ⟨oc1, od1, .func (PySem.W.fnOf "inner_terms" "inner_terms" (defArgs sInner) (defBody sInner) (defScope sInner) .none kV1 dc1 pm1 an1 cd1 ct1), sl1⟩) (c1 : PySem.W.codeIn K cd1 "inner_terms" = true) (k1 : PySem.W.keepIn K (.ref f1) = true)
    (a2 : PySem.W.nsIn K mainGlobals "terms_in" = some (some (.ref f2))) (l2 : K.lookup f2 = some ⟨oc2, od2, .func (PySem.W.fnOf "terms_in" "terms_in" (defArgs sTermsIn) (defBody sTermsIn) (defScope sTermsIn) .none kV2 dc2 pm2 an2 cd2 ct2), sl2⟩) (c2 : PySem.W.codeIn K cd2 "terms_in" = true) (k2 : PySem.W.keepIn K (.ref f2) = true)
    (a3 : PySem.W.nsIn K mainGlobals "own_terms" = some (some (.ref f3))) (l3 : K.lookup f3 = some ⟨oc3, od3, .func (PySem.W.fnOf "own_terms" "own_terms" (defArgs sOwnT) (defBody sOwnT) (defScope sOwnT) .none kV3 dc3 pm3 an3 cd3 ct3), sl3⟩) (c3 : PySem.W.codeIn K cd3 "own_terms" = true) (k3 : PySem.W.keepIn K (.ref f3) = true)
    (a4 : PySem.W.nsIn K mainGlobals "inner_bodies" = some (some (.ref f4))) (l4 : K.lookup f4 = some ⟨oc4, od4, .func (PySem.W.fnOf "inner_bodies" "inner_bodies" (defArgs sInnerB) (defBody sInnerB) (defScope sInnerB) .none kV4 dc4 pm4 an4 cd4 ct4), sl4⟩) (c4 : PySem.W.codeIn K cd4 "inner_bodies" = true) (k4 : PySem.W.keepIn K (.ref f4) = true)
    (a5 : PySem.W.nsIn K mainGlobals "statements_in" = some (some (.ref f5))) (l5 : K.lookup f5 = some ⟨oc5, od5, .func (PySem.W.fnOf "statements_in" "statements_in" (defArgs sStatsIn) (defBody sStatsIn) (defScope sStatsIn) .none kV5 dc5 pm5 an5 cd5 ct5), sl5⟩) (c5 : PySem.W.codeIn K cd5 "statements_in" = true) (k5 : PySem.W.keepIn K (.ref f5) = true)
    (a6 : PySem.W.nsIn K mainGlobals "bodies_in" = some (some (.ref f6))) (l6 : K.lookup f6 = some ⟨oc6, od6, .func (PySem.W.fnOf "bodies_in" "bodies_in" (defArgs sBodies) (defBody sBodies) (defScope sBodies) .none kV6 dc6 pm6 an6 cd6 ct6), sl6⟩) (c6 : PySem.W.codeIn K cd6 "bodies_in" = true) (k6 : PySem.W.keepIn K (.ref f6) = true)
    (a7 : PySem.W.nsIn K mainGlobals "names_once" = some (some (.ref f7))) (l7 : K.lookup f7 = some ⟨oc7, od7, .func (PySem.W.fnOf "names_once" "names_once" (defArgs sOnce) (defBody sOnce) (defScope sOnce) .none kV7 dc7 pm7 an7 cd7 ct7), sl7⟩) (c7 : PySem.W.codeIn K cd7 "names_once" = true) (k7 : PySem.W.keepIn K (.ref f7) = true)
    (a8 : PySem.W.nsIn K mainGlobals "look_up" = some (some (.ref f8))) (l8 : K.lookup f8 = some ⟨oc8, od8, .func (PySem.W.fnOf "look_up" "look_up" (defArgs sUp) (defBody sUp) (defScope sUp) .none kV8 dc8 pm8 an8 cd8 ct8), sl8⟩) (c8 : PySem.W.codeIn K cd8 "look_up" = true) (k8 : PySem.W.keepIn K (.ref f8) = true)
    (a9 : PySem.W.nsIn K mainGlobals "look_at_term" = some (some (.ref f9))) (l9 : K.lookup f9 = some ⟨oc9, od9, .func (PySem.W.fnOf "look_at_term" "look_at_term" (defArgs sLookT) (defBody sLookT) (defScope sLookT) .none kV9 dc9 pm9 an9 cd9 ct9), sl9⟩) (c9 : PySem.W.codeIn K cd9 "look_at_term" = true) (k9 : PySem.W.keepIn K (.ref f9) = true)
    (a10 : PySem.W.nsIn K mainGlobals "look_at_statement" = some (some (.ref f10))) (l10 : K.lookup f10 = some ⟨oc10, od10, .func (PySem.W.fnOf "look_at_statement" "look_at_statement" (defArgs sLookS) (defBody sLookS) (defScope sLookS) .none kV10 dc10 pm10 an10 cd10 ct10), sl10⟩) (c10 : PySem.W.codeIn K cd10 "look_at_statement" = true) (k10 : PySem.W.keepIn K (.ref f10) = true)
    (a11 : PySem.W.nsIn K mainGlobals "look" = some (some (.ref f11))) (l11 : K.lookup f11 = some ⟨oc11, od11, .func (PySem.W.fnOf "look" "look" (defArgs sLook) (defBody sLook) (defScope sLook) .none kV11 dc11 pm11 an11 cd11 ct11), sl11⟩) (c11 : PySem.W.codeIn K cd11 "look" = true) (k11 : PySem.W.keepIn K (.ref f11) = true)
    (a12 : PySem.W.nsIn K mainGlobals "_law_deal" = some (some (.ref f12))) (l12 : K.lookup f12 = some ⟨oc12, od12, .func (PySem.W.fnOf "_law_deal" "_law_deal" (defArgs sDeal) (defBody sDeal) (defScope sDeal) .none kV12 dc12 pm12 an12 cd12 ct12), sl12⟩) (c12 : PySem.W.codeIn K cd12 "_law_deal" = true) (k12 : PySem.W.keepIn K (.ref f12) = true)
    (a13 : PySem.W.nsIn K mainGlobals "_law_draw" = some (some (.ref f13))) (l13 : K.lookup f13 = some ⟨oc13, od13, .func (PySem.W.fnOf "_law_draw" "_law_draw" (defArgs sDraw) (defBody sDraw) (defScope sDraw) .none kV13 dc13 pm13 an13 cd13 ct13), sl13⟩) (c13 : PySem.W.codeIn K cd13 "_law_draw" = true) (k13 : PySem.W.keepIn K (.ref f13) = true)
    (a14 : PySem.W.nsIn K mainGlobals "_law_names" = some (some (.ref f14))) (l14 : K.lookup f14 = some ⟨oc14, od14, .func (PySem.W.fnOf "_law_names" "_law_names" (defArgs sNames) (defBody sNames) (defScope sNames) .none kV14 dc14 pm14 an14 cd14 ct14), sl14⟩) (c14 : PySem.W.codeIn K cd14 "_law_names" = true) (k14 : PySem.W.keepIn K (.ref f14) = true)
    (a15 : PySem.W.nsIn K mainGlobals "_law_word" = some (some (.ref f15))) (l15 : K.lookup f15 = some ⟨oc15, od15, .func (PySem.W.fnOf "_law_word" "_law_word" (defArgs sWord) (defBody sWord) (defScope sWord) .none kV15 dc15 pm15 an15 cd15 ct15), sl15⟩) (c15 : PySem.W.codeIn K cd15 "_law_word" = true) (k15 : PySem.W.keepIn K (.ref f15) = true)
    (a16 : PySem.W.nsIn K mainGlobals "_law_term" = some (some (.ref f16))) (l16 : K.lookup f16 = some ⟨oc16, od16, .func (PySem.W.fnOf "_law_term" "_law_term" (defArgs sTerm) (defBody sTerm) (defScope sTerm) .none kV16 dc16 pm16 an16 cd16 ct16), sl16⟩) (c16 : PySem.W.codeIn K cd16 "_law_term" = true) (k16 : PySem.W.keepIn K (.ref f16) = true)
    (a17 : PySem.W.nsIn K mainGlobals "_law_round" = some (some (.ref f17))) (l17 : K.lookup f17 = some ⟨oc17, od17, .func (PySem.W.fnOf "_law_round" "_law_round" (defArgs sRound) (defBody sRound) (defScope sRound) .none kV17 dc17 pm17 an17 cd17 ct17), sl17⟩) (c17 : PySem.W.codeIn K cd17 "_law_round" = true) (k17 : PySem.W.keepIn K (.ref f17) = true)
    (a18 : PySem.W.nsIn K mainGlobals "_law_statement" = some (some (.ref f18))) (l18 : K.lookup f18 = some ⟨oc18, od18, .func (PySem.W.fnOf "_law_statement" "_law_statement" (defArgs sStat) (defBody sStat) (defScope sStat) .none kV18 dc18 pm18 an18 cd18 ct18), sl18⟩) (c18 : PySem.W.codeIn K cd18 "_law_statement" = true) (k18 : PySem.W.keepIn K (.ref f18) = true)
    (a19 : PySem.W.nsIn K mainGlobals "_law_body" = some (some (.ref f19))) (l19 : K.lookup f19 = some ⟨oc19, od19, .func (PySem.W.fnOf "_law_body" "_law_body" (defArgs sBody) (defBody sBody) (defScope sBody) .none kV19 dc19 pm19 an19 cd19 ct19), sl19⟩) (c19 : PySem.W.codeIn K cd19 "_law_body" = true) (k19 : PySem.W.keepIn K (.ref f19) = true)
    (a20 : PySem.W.nsIn K mainGlobals "_law_program" = some (some (.ref f20))) (l20 : K.lookup f20 = some ⟨oc20, od20, .func (PySem.W.fnOf "_law_program" "_law_program" (defArgs sProg) (defBody sProg) (defScope sProg) .none kV20 dc20 pm20 an20 cd20 ct20), sl20⟩) (c20 : PySem.W.codeIn K cd20 "_law_program" = true) (k20 : PySem.W.keepIn K (.ref f20) = true)
    (a21 : PySem.W.nsIn K mainGlobals "_law_lean" = some (some (.ref f21))) (l21 : K.lookup f21 = some ⟨oc21, od21, .func (PySem.W.fnOf "_law_lean" "_law_lean" (defArgs sLean) (defBody sLean) (defScope sLean) .none kV21 dc21 pm21 an21 cd21 ct21), sl21⟩) (c21 : PySem.W.codeIn K cd21 "_law_lean" = true) (k21 : PySem.W.keepIn K (.ref f21) = true)
    (a22 : PySem.W.nsIn K mainGlobals "law" = some (some (.ref f22))) (l22 : K.lookup f22 = some ⟨oc22, od22, .func (PySem.W.fnOf "law" "law" (defArgs sLaw) (defBody sLaw) (defScope sLaw) .none kV22 dc22 pm22 an22 cd22 ct22), sl22⟩) (c22 : PySem.W.codeIn K cd22 "law" = true) (k22 : PySem.W.keepIn K (.ref f22) = true)
    (z1 : PySem.W.nsIn K mainGlobals "len" = some none)
    (z2 : PySem.W.nsIn K mainGlobals "max" = some none)
    (z3 : PySem.W.nsIn K mainGlobals "list" = some none)
    (z4 : PySem.W.nsIn K mainGlobals "reversed" = some none)
    (z5 : PySem.W.nsIn K mainGlobals "range" = some none)
    (z6 : PySem.W.nsIn K mainGlobals "int" = some none)
    (z7 : PySem.W.nsIn K mainGlobals "tuple" = some none)
    : ∃ fd : FuncData, (∀ (s : Shared) (v : Value), BindsTo s fd ⟨[v], []⟩ [("_law_script", v)]) ∧ ∀ base : Heap, K.In base → base.Ns mainGlobals mg → FnOk l.prog w K mg base CX0 21 fa fd ["_law_script"] (spLaw K) := by
  have e := hfa.symm.trans (PySem.W.mg_of X G a22)
  cases e
  have T : Blt mg := ⟨PySem.W.mg_none_of X G z1, PySem.W.mg_none_of X G z2, PySem.W.mg_none_of X G z3, PySem.W.mg_none_of X G z4⟩
  have C : Con7 mg := ⟨PySem.W.mg_none_of X G z5, PySem.W.mg_none_of X G z6, PySem.W.mg_none_of X G z7⟩
  have F1 := fun_mk (st := sInner) l1 c1 k1
  have b1 := F1.binds (ps := ["term"]) fun _ _ _ _ _ _ us hl => match us, hl with | [_], _ => rfl
  have F2 := fun_mk (st := sTermsIn) l2 c2 k2
  have b2 := F2.binds (ps := ["term"]) fun _ _ _ _ _ _ us hl => match us, hl with | [_], _ => rfl
  have F3 := fun_mk (st := sOwnT) l3 c3 k3
  have b3 := F3.binds (ps := ["statement"]) fun _ _ _ _ _ _ us hl => match us, hl with | [_], _ => rfl
  have F4 := fun_mk (st := sInnerB) l4 c4 k4
  have b4 := F4.binds (ps := ["statement"]) fun _ _ _ _ _ _ us hl => match us, hl with | [_], _ => rfl
  have F5 := fun_mk (st := sStatsIn) l5 c5 k5
  have b5 := F5.binds (ps := ["body"]) fun _ _ _ _ _ _ us hl => match us, hl with | [_], _ => rfl
  have F6 := fun_mk (st := sBodies) l6 c6 k6
  have b6 := F6.binds (ps := ["program"]) fun _ _ _ _ _ _ us hl => match us, hl with | [_], _ => rfl
  have F7 := fun_mk (st := sOnce) l7 c7 k7
  have b7 := F7.binds (ps := ["part"]) fun _ _ _ _ _ _ us hl => match us, hl with | [_], _ => rfl
  have F8 := fun_mk (st := sUp) l8 c8 k8
  have b8 := F8.binds (ps := ["name", "names"]) fun _ _ _ _ _ _ us hl => match us, hl with | [_, _], _ => rfl
  have F9 := fun_mk (st := sLookT) l9 c9 k9
  have b9 := F9.binds (ps := ["term", "cells", "rows"]) fun _ _ _ _ _ _ us hl => match us, hl with | [_, _, _], _ => rfl
  have F10 := fun_mk (st := sLookS) l10 c10 k10
  have b10 := F10.binds (ps := ["statement", "cells", "rows", "defs"]) fun _ _ _ _ _ _ us hl => match us, hl with | [_, _, _, _], _ => rfl
  have F11 := fun_mk (st := sLook) l11 c11 k11
  have b11 := F11.binds (ps := ["program"]) fun _ _ _ _ _ _ us hl => match us, hl with | [_], _ => rfl
  have F12 := fun_mk (st := sDeal) l12 c12 k12
  have b12 := F12.binds (ps := ["_law_script", "_law_base"]) fun _ _ _ _ _ _ us hl => match us, hl with | [_, _], _ => rfl
  have F13 := fun_mk (st := sDraw) l13 c13 k13
  have b13 := F13.binds (ps := ["_law_deal_here", "_law_many"]) fun _ _ _ _ _ _ us hl => match us, hl with | [_, _], _ => rfl
  have F14 := fun_mk (st := sNames) l14 c14 k14
  have b14 := F14.binds (ps := ["_law_deal_here", "_law_many"]) fun _ _ _ _ _ _ us hl => match us, hl with | [_, _], _ => rfl
  have F15 := fun_mk (st := sWord) l15 c15 k15
  have b15 := F15.binds (ps := ["_law_deal_here"]) fun _ _ _ _ _ _ us hl => match us, hl with | [_], _ => rfl
  have F16 := fun_mk (st := sTerm) l16 c16 k16
  have b16 := F16.binds (ps := ["_law_deal_here", "_law_scene", "_law_room"]) fun _ _ _ _ _ _ us hl => match us, hl with | [_, _, _], _ => rfl
  have F17 := fun_mk (st := sRound) l17 c17 k17
  have b17 := F17.binds (ps := ["_law_deal_here", "_law_scene", "_law_left", "_law_deep"]) fun _ _ _ _ _ _ us hl => match us, hl with | [_, _, _, _], _ => rfl
  have F18 := fun_mk (st := sStat) l18 c18 k18
  have b18 := F18.binds (ps := ["_law_deal_here", "_law_scene", "_law_left", "_law_deep"]) fun _ _ _ _ _ _ us hl => match us, hl with | [_, _, _, _], _ => rfl
  have F19 := fun_mk (st := sBody) l19 c19 k19
  have b19 := F19.binds (ps := ["_law_deal_here", "_law_scene", "_law_left", "_law_deep"]) fun _ _ _ _ _ _ us hl => match us, hl with | [_, _, _, _], _ => rfl
  have F20 := fun_mk (st := sProg) l20 c20 k20
  have b20 := F20.binds (ps := ["_law_deal_here"]) fun _ _ _ _ _ _ us hl => match us, hl with | [_], _ => rfl
  have F21 := fun_mk (st := sLean) l21 c21 k21
  have b21 := F21.binds (ps := ["_law_program_here"]) fun _ _ _ _ _ _ us hl => match us, hl with | [_], _ => rfl
  have F22 := fun_mk (st := sLaw) l22 c22 k22
  have b22 := F22.binds (ps := ["_law_script"]) fun _ _ _ _ _ _ us hl => match us, hl with | [_], _ => rfl
  refine ⟨PySem.W.fnOf "law" "law" (defArgs sLaw) (defBody sLaw) (defScope sLaw) .none kV22 dc22 pm22 an22 cd22 ct22, fun s v => .of_eq rfl, fun base _ _ => ?_⟩
  have hI : Has l.prog w K mg base "inner_terms" 1 ["term"] spInner := ⟨f1, _, PySem.W.mg_of X G a1, k1, b1, ok_inner F1⟩
  have hTi : Has l.prog w K mg base "terms_in" 2 ["term"] spTermsIn := ⟨f2, _, PySem.W.mg_of X G a2, k2, b2, ok_termsIn F2 hI⟩
  have hOt : Has l.prog w K mg base "own_terms" 1 ["statement"] spOwnT := ⟨f3, _, PySem.W.mg_of X G a3, k3, b3, ok_ownT F3⟩
  have hIb : Has l.prog w K mg base "inner_bodies" 1 ["statement"] spInnerB := ⟨f4, _, PySem.W.mg_of X G a4, k4, b4, ok_innerB F4⟩
  have hSi : Has l.prog w K mg base "statements_in" 2 ["body"] spStatsIn := ⟨f5, _, PySem.W.mg_of X G a5, k5, b5, ok_statsIn F5 T hIb⟩
  have hBi : Has l.prog w K mg base "bodies_in" 1 ["program"] spBodies := ⟨f6, _, PySem.W.mg_of X G a6, k6, b6, ok_bodies F6⟩
  have hOn : Has l.prog w K mg base "names_once" 1 ["part"] spOnce := ⟨f7, _, PySem.W.mg_of X G a7, k7, b7, ok_once F7⟩
  have hU : Has l.prog w K mg base "look_up" 1 ["name", "names"] spUp := ⟨f8, _, PySem.W.mg_of X G a8, k8, b8, ok_up F8⟩
  have hLt : Has l.prog w K mg base "look_at_term" 3 ["term", "cells", "rows"] spLookT := ⟨f9, _, PySem.W.mg_of X G a9, k9, b9, ok_lookT F9 hTi hU⟩
  have hLs : Has l.prog w K mg base "look_at_statement" 4 ["statement", "cells", "rows", "defs"] spLookS := ⟨f10, _, PySem.W.mg_of X G a10, k10, b10, ok_lookS F10 hU hOt hLt⟩
  have hLo : Has l.prog w K mg base "look" 5 ["program"] spLook := ⟨f11, _, PySem.W.mg_of X G a11, k11, b11, ok_look F11 hOn hBi hSi hLs⟩
  have hDe : Has l.prog w K mg base "_law_deal" 1 ["_law_script", "_law_base"] (spDeal K) := ⟨f12, _, PySem.W.mg_of X G a12, k12, b12, ok_deal F12 T⟩
  have hD : Has l.prog w K mg base "_law_draw" 1 ["_law_deal_here", "_law_many"] spDraw := ⟨f13, _, PySem.W.mg_of X G a13, k13, b13, ok_draw F13 T⟩
  have hNa : Has l.prog w K mg base "_law_names" 2 ["_law_deal_here", "_law_many"] spNames := ⟨f14, _, PySem.W.mg_of X G a14, k14, b14, ok_names F14 T C hD⟩
  have hWo : Has l.prog w K mg base "_law_word" 2 ["_law_deal_here"] spWord := ⟨f15, _, PySem.W.mg_of X G a15, k15, b15, ok_word F15 hD⟩
  have oT : Own K mg "_law_term" sTerm termPs f16 _ := ⟨F16, PySem.W.mg_of X G a16, k16, b16⟩
  have oR : Own K mg "_law_round" sRound statPs f17 _ := ⟨F17, PySem.W.mg_of X G a17, k17, b17⟩
  have oS : Own K mg "_law_statement" sStat statPs f18 _ := ⟨F18, PySem.W.mg_of X G a18, k18, b18⟩
  have oB : Own K mg "_law_body" sBody statPs f19 _ := ⟨F19, PySem.W.mg_of X G a19, k19, b19⟩
  have hT : HTerm l.prog w K mg base := has_term oT T hD hWo 4
  have hB3 : Has l.prog w K mg base "_law_body" 16 statPs (spBody 3) := has_body oR oS oB C T hD hT 3
  have hB4 : Has l.prog w K mg base "_law_body" 19 statPs (spBody 4) := has_body oR oS oB C T hD hT 4
  have hS4 : Has l.prog w K mg base "_law_statement" 18 statPs (spStat 4) := has_stat oR oS oB C T hD hT 3
  have hPr : Has l.prog w K mg base "_law_program" 20 ["_law_deal_here"] spProg := ⟨f20, _, PySem.W.mg_of X G a20, k20, b20, ok_prog F20 C T hD hNa hWo hB3 hB4 hS4⟩
  have hLe : Has l.prog w K mg base "_law_lean" 1 ["_law_program_here"] spLean := ⟨f21, _, PySem.W.mg_of X G a21, k21, b21, ok_lean F21 C⟩
  exact ok_law F22 hDe hPr hLe hLo
theorem walk {l : PySem.W.OpenLaw} {q : Program} {loose : List Str} {XP : (Str → Option Value) → Heap → Prop} {YP : World → Heap → Prop} {d : DefRec} {K : Params → PySem.W.Frag} (hn : l.most = some 63) (hdf : d.params.defaults = [])
    (hY : ∀ (w : World) (h : Heap), YP w h → (K w.params).In h)
    (F : ∀ (w : World) (mg : Str → Option Value) (fa : Addr) (h : Heap), (K w.params).In h → h.Ns mainGlobals mg → mg d.name = some (.ref fa) →
      ∃ fd : FuncData, (∀ (s : Shared) (u : Value), BindsTo s fd ⟨[u], []⟩ [("_law_script", u)]) ∧ ∀ base : Heap, (K w.params).In base → base.Ns mainGlobals mg → FnOk l.prog w (K w.params) mg base CX0 21 fa fd ["_law_script"] (spLaw (K w.params))) :
    PySem.W.WalkO q loose XP YP l.row.toRowW d [] (fun f vs => PySem.call f vs) :=
  L2.walk_of (n := 63) (k := 21) (x := "_law_script") (CX := fun _ => CX0) (sp := fun w => spLaw (K w.params)) hn (by decide) hdf ⟨rfl, by decide, by decide⟩ hY F (fun _ _ a ns hl _ hS => ⟨a, ns, rfl, hS, hl, fun _ => rfl⟩) fun _ _ _ _ _ z => z
end My
open PySem PySem.W PyProof.Rows
set_option maxRecDepth 100000 in
set_option maxHeartbeats 0 in
theorem PySem.Challenge.cw_stepcourt_k07_programs_let_by_holds : PySem.Challenge.rw_stepcourt_k07_programs_let_by.Holds := by
  w_on; o_law; k_head; (case hw => w_witness2)
  k_fill
  refine My.walk (l := PySem.Challenge.rw_stepcourt_k07_programs_let_by) rfl rfl (fun w h Y => PySem.W.kIn_of Y) ?F
  case F =>
    intro w mg fa h KX G hmg
    refine' My.all_mk KX G hmg ?a1 ?l1 ?c1 ?k1 ?a2 ?l2 ?c2 ?k2 ?a3 ?l3 ?c3 ?k3 ?a4 ?l4 ?c4 ?k4 ?a5 ?l5 ?c5 ?k5 ?a6 ?l6 ?c6 ?k6 ?a7 ?l7 ?c7 ?k7 ?a8 ?l8 ?c8 ?k8 ?a9 ?l9 ?c9 ?k9 ?a10 ?l10 ?c10 ?k10 ?a11 ?l11 ?c11 ?k11 ?a12 ?l12 ?c12 ?k12 ?a13 ?l13 ?c13 ?k13 ?a14 ?l14 ?c14 ?k14 ?a15 ?l15 ?c15 ?k15 ?a16 ?l16 ?c16 ?k16 ?a17 ?l17 ?c17 ?k17 ?a18 ?l18 ?c18 ?k18 ?a19 ?l19 ?c19 ?k19 ?a20 ?l20 ?c20 ?k20 ?a21 ?l21 ?c21 ?k21 ?a22 ?l22 ?c22 ?k22 ?z1 ?z2 ?z3 ?z4 ?z5 ?z6 ?z7
    (case a1 => k_is)
    (case l1 => k_is)
    (case c1 => k_is)
    (case k1 => k_is)
    (case a2 => k_is)
    (case l2 => k_is)
    (case c2 => k_is)
    (case k2 => k_is)
    (case a3 => k_is)
    (case l3 => k_is)
    (case c3 => k_is)
    (case k3 => k_is)
    (case a4 => k_is)
    (case l4 => k_is)
    (case c4 => k_is)
    (case k4 => k_is)
    (case a5 => k_is)
    (case l5 => k_is)
    (case c5 => k_is)
    (case k5 => k_is)
    (case a6 => k_is)
    (case l6 => k_is)
    (case c6 => k_is)
    (case k6 => k_is)
    (case a7 => k_is)
    (case l7 => k_is)
    (case c7 => k_is)
    (case k7 => k_is)
    (case a8 => k_is)
    (case l8 => k_is)
    (case c8 => k_is)
    (case k8 => k_is)
    (case a9 => k_is)
    (case l9 => k_is)
    (case c9 => k_is)
    (case k9 => k_is)
    (case a10 => k_is)
    (case l10 => k_is)
    (case c10 => k_is)
    (case k10 => k_is)
    (case a11 => k_is)
    (case l11 => k_is)
    (case c11 => k_is)
    (case k11 => k_is)
    (case a12 => k_is)
    (case l12 => k_is)
    (case c12 => k_is)
    (case k12 => k_is)
    (case a13 => k_is)
    (case l13 => k_is)
    (case c13 => k_is)
    (case k13 => k_is)
    (case a14 => k_is)
    (case l14 => k_is)
    (case c14 => k_is)
    (case k14 => k_is)
    (case a15 => k_is)
    (case l15 => k_is)
    (case c15 => k_is)
    (case k15 => k_is)
    (case a16 => k_is)
    (case l16 => k_is)
    (case c16 => k_is)
    (case k16 => k_is)
    (case a17 => k_is)
    (case l17 => k_is)
    (case c17 => k_is)
    (case k17 => k_is)
    (case a18 => k_is)
    (case l18 => k_is)
    (case c18 => k_is)
    (case k18 => k_is)
    (case a19 => k_is)
    (case l19 => k_is)
    (case c19 => k_is)
    (case k19 => k_is)
    (case a20 => k_is)
    (case l20 => k_is)
    (case c20 => k_is)
    (case k20 => k_is)
    (case a21 => k_is)
    (case l21 => k_is)
    (case c21 => k_is)
    (case k21 => k_is)
    (case a22 => k_is)
    (case l22 => k_is)
    (case c22 => k_is)
    (case k22 => k_is)
    (case z1 => k_is)
    (case z2 => k_is)
    (case z3 => k_is)
    (case z4 => k_is)
    (case z5 => k_is)
    (case z6 => k_is)
    (case z7 => k_is)

