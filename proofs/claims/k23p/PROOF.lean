import PyProof.Rows.All
import Wide.All
import OpenK.AllK
import Wide.FinOn
import Lean
import PyProof.EqAt
import PyProof.EqKinds
import PyProof.TupleCall
import PyProof.CompFree
import PyProof.NeKinds
import PyProof.Rows.RegReprOcc
import PyProof.Rows.StrCase
import PyProof.ZipIter
import PyProof.EnumMake
import PyProof.Draws
import PyProof.Rows.Range3
import KE.BitLaws
import PySem.Challenge.RW_stepcourt_k23_opened_by_paths
set_option Elab.async false
set_option linter.all false
set_option maxRecDepth 100000
namespace L2
open PySem PySem.Spec PyProof.Rows
/-- a key: an int or a str -/
abbrev Key := Sum Int Str
def keyIs : Key → Value → Bool
  | .inl k, v => Value.isInt k v
  | .inr x, v => Value.isStrOf x v
def keyH (w : World) : Key → Int
  | .inl k => hashInt k
  | .inr x => hashStr w x
theorem keyIs_shape : ∀ {k : Key} {v : Value}, keyIs k v = true → (∃ i t, k = Sum.inl i ∧ v = Value.int i t) ∨ (∃ x t, k = Sum.inr x ∧ v = Value.str x t)
  | .inl i, v, h => by
    obtain ⟨t, e⟩ := Value.isInt_shape (k := i) (v := v) h
    exact .inl ⟨i, t, rfl, e⟩
  | .inr x, v, h => by
    obtain ⟨t, e⟩ := Value.isStrOf_shape (x := x) (v := v) h
    exact .inr ⟨x, t, rfl, e⟩
theorem keyIs_int (i : Int) (t : Tok) : keyIs (.inl i) (.int i t) = true := by simp [keyIs, Value.isInt]
theorem keyIs_str (x : Str) (t : Tok) : keyIs (.inr x) (.str x t) = true := by simp [keyIs, Value.isStrOf]
theorem key_ll (a b : Int) : decide ((Sum.inl a : Key) = Sum.inl b) = (a == b) := by
  by_cases e : a = b
  · subst e; simp
  · have h : ¬ (Sum.inl a : Key) = Sum.inl b := fun q => e (Sum.inl.inj q)
    rw [decide_eq_false h]
    exact (beq_eq_false_iff_ne.mpr e).symm
theorem key_rr (a b : Str) : decide ((Sum.inr a : Key) = Sum.inr b) = decide (a = b) := by
  by_cases e : a = b
  · subst e; simp
  · have h : ¬ (Sum.inr a : Key) = Sum.inr b := fun q => e (Sum.inr.inj q)
    rw [decide_eq_false h, decide_eq_false e]
theorem key_lr (a : Int) (b : Str) : decide ((Sum.inl a : Key) = Sum.inr b) = false := decide_eq_false (fun q => nomatch q)
theorem key_rl (a : Str) (b : Int) : decide ((Sum.inr a : Key) = Sum.inl b) = false := decide_eq_false (fun q => nomatch q)
def mixKind (prog : Program) (w : World) : PySem.KeyKind prog w Key where
  is := keyIs
  hash := keyH w
  inj := fun v a b ha hb => by
    rcases keyIs_shape ha with ⟨i, t, rfl, rfl⟩ | ⟨x, t, rfl, rfl⟩
    · rcases keyIs_shape hb with ⟨j, u, rfl, e⟩ | ⟨y, u, rfl, e⟩
      · injection e with e1 _; rw [e1]
      · exact nomatch e
    · rcases keyIs_shape hb with ⟨j, u, rfl, e⟩ | ⟨y, u, rfl, e⟩
      · exact nomatch e
      · injection e with e1 _; rw [e1]
  byValue := fun k v h => by
    rcases keyIs_shape h with ⟨i, t, rfl, rfl⟩ | ⟨x, t, rfl, rfl⟩ <;> rfl
  pyHash := fun hv h => by
    rcases keyIs_shape hv with ⟨i, t, rfl, rfl⟩ | ⟨x, t, rfl, rfl⟩
    · exact wpAny_pyHash_int h
    · exact wpAny_pyHash_str h
  eqBool := fun hu hv h => by
    rcases keyIs_shape hu with ⟨i, t, rfl, rfl⟩ | ⟨x, t, rfl, rfl⟩
    · rcases keyIs_shape hv with ⟨j, u, rfl, rfl⟩ | ⟨y, u, rfl, rfl⟩
      · rw [key_ll] at h; exact wpAny_eqBool_int h
      · rw [key_lr] at h; exact SeqAt.EqAt.int_str i t y u _ _ _ _ h
    · rcases keyIs_shape hv with ⟨j, u, rfl, rfl⟩ | ⟨y, u, rfl, rfl⟩
      · rw [key_rl] at h; exact SeqAt.EqAt.str_int x t j u _ _ _ _ h
      · rw [key_rr] at h; exact wpAny_eqBool_str h
  «strs» := fun k x t v h => by
    rcases keyIs_shape h with ⟨i, u, rfl, e⟩ | ⟨y, u, rfl, e⟩
    · exact nomatch e
    · injection e with e1 _
      subst e1
      cases v <;> rfl
theorem mixKind_int (prog : Program) (w : World) (i : Int) (t : Tok) : (mixKind prog w).is (.inl i) (.int i t) = true := keyIs_int i t
theorem mixKind_str (prog : Program) (w : World) (x : Str) (t : Tok) : (mixKind prog w).is (.inr x) (.str x t) = true := keyIs_str x t
end L2
namespace L2
open PySem PySem.Spec PyProof.Rows
/-- a value, without the heap -/
inductive V where
  | non | bl (b : Bool) | int (i : Int) | str (x : Str) | byt (b : Array UInt8) | flt (b : UInt64) | ref (a : Addr) | ty (n : String)
  deriving DecidableEq
def RelV : V → Value → Prop
  | .non, u => u = Value.none
  | .bl b, u => u = Value.bool b
  | .int i, u => ∃ t, u = Value.int i t
  | .str x, u => ∃ t, u = Value.str x t
  | .byt b, u => ∃ t, u = Value.bytes b t
  | .flt b, u => ∃ t, u = Value.float b t
  | .ref a, u => u = Value.ref a
  | .ty n, u => u = Value.type n
abbrev Vals : List V → List Value → Prop := Paired RelV
theorem Vals.length {xs : List V} {us : List Value} (r : Vals xs us) : xs.length = us.length := Paired.length r
theorem Vals.get : ∀ {xs : List V} {us : List Value} {i : Nat} {x : V}, Vals xs us → xs[i]? = some x → ∃ u, us[i]? = some u ∧ RelV x u
  | _, _, _, _, .nil, e => by simp at e
  | _, _, 0, _, .cons r _, e => by simp at e; subst e; exact ⟨_, rfl, r⟩
  | _, _, i + 1, x, .cons _ t, e => by
    obtain ⟨u, h1, h2⟩ := Vals.get (i := i) (x := x) t (by simpa using e)
    exact ⟨u, by simpa using h1, h2⟩
theorem Vals.set {x : V} {u : Value} (r : RelV x u) : ∀ {xs : List V} {us : List Value} (i : Nat), Vals xs us → Vals (xs.set i x) (us.set i u)
  | _, _, _, .nil => .nil
  | _, _, 0, .cons _ t => .cons r t
  | _, _, i + 1, .cons q t => .cons q (Vals.set r i t)
theorem Vals.append : ∀ {xs ys : List V} {us ws : List Value}, Vals xs us → Vals ys ws → Vals (xs ++ ys) (us ++ ws)
  | _, _, _, _, .nil, s => s
  | _, _, _, _, .cons r t, s => .cons r (Vals.append t s)
theorem Vals.take : ∀ {xs : List V} {us : List Value} (n : Nat), Vals xs us → Vals (xs.take n) (us.take n)
  | _, _, 0, _ => .nil
  | _, _, _ + 1, .nil => .nil
  | _, _, n + 1, .cons r t => .cons r (Vals.take n t)
theorem Vals.drop : ∀ {xs : List V} {us : List Value} (n : Nat), Vals xs us → Vals (xs.drop n) (us.drop n)
  | _, _, 0, r => r
  | _, _, _ + 1, .nil => .nil
  | _, _, n + 1, .cons _ t => Vals.drop n t
def RelO : Option V → Option Value → Prop
  | some v, some u => RelV v u
  | none, none => True
  | _, _ => False
def KV {κ : Type} : List (κ × V) → List (κ × Value) → Prop := Paired fun (p : κ × V) (q : κ × Value) => p.1 = q.1 ∧ RelV p.2 q.2
/-- a key of a dict (00_mix): an int or a text -/
def kV : Key → V
  | .inl i => .int i
  | .inr x => .str x
/-- what stands at a tracked address -/
inductive HO where
  /-- a list -/
  | lst (xs : List V)
  /-- a tuple (never changes) -/
  | tup (xs : List V)
  /-- a dict whose keys are ints and texts; one whose keys are tuples of ints and texts (the empty one is both) -/
  | dK (kvs : List (Key × V)) | dT (kvs : List (List Key × V))
  /-- a set of ints: its members, its size -/
  | set (S : Int → Bool) (n : Nat)
  /-- an instance of the class at C, its dict at dx, its attributes -/
  | ins (C dx : Addr) (fs : List (Str × V))
  /-- the dict of the instance at x -/
  | own (x : Addr)
  /-- the dict of an exception -/
  | xd (fs : List (Str × V))
  /-- a bound method, f of x -/
  | met (f x : Addr)
  /-- a range object lo, lo + 1, .. below hi -/
  | rng (lo hi : Int)
  /-- a thing that is known to the object (the script; a dict while a loop walks it): read, never written while it is so -/
  | frz (o : Obj) (u : HO)
  /-- a code object's table -/
  | tbl (ps : Array Value)
  /-- any other thing, by what is true of its one object (a def of one's own: SetO a S n := HO.ext fun h => ..) -/
  | ext (φ : Heap → Prop)
abbrev Hp := Addr → Option HO
def upd (H : Hp) (a : Addr) (o : HO) : Hp := fun b => if b = a then some o else H b
theorem upd_same {H : Hp} {a : Addr} {o : HO} : upd H a o a = some o := by unfold upd; rw [if_pos rfl]
theorem upd_ne {H : Hp} {a b : Addr} {o : HO} (h : b ≠ a) : upd H a o b = H b := by unfold upd; rw [if_neg h]
/-- two objects of different content stand apart -/
theorem ne_of {H : Hp} {a b : Addr} {o u : HO} (h : H a = some o) (h' : H b = some u) (d : o ≠ u) : a ≠ b := by
  intro e; subst e; rw [h] at h'; exact d (Option.some.inj h')
theorem ne_of_none {H : Hp} {a b : Addr} {o : HO} (h : H a = some o) (h' : H b = none) : a ≠ b := by
  intro e; subst e; rw [h] at h'; cases h'
section
variable (P : Program) (w : World)
def ObjOk (H : Hp) (h : Heap) (a : Addr) : HO → Prop
  | .lst xs => xs.length ≤ sizeLine ∧ ∃ (its : List Value) (n : Nat), Vals xs its ∧ h.get? a = some { cls := .type "list", data := .seq its.toArray n }
  | .tup xs => xs.length ≤ sizeLine ∧ ∃ its : List Value, Vals xs its ∧ IsTup h a its.toArray
  | .dK kvs => kvs.length ≤ sizeLine ∧ (a == sysModules) = false ∧ ∃ vs, KV kvs vs ∧ h.DictOf (mixKind P w) a vs
  | .dT kvs => kvs.length ≤ sizeLine ∧ (a == sysModules) = false ∧ ∃ xs : List (List Key × Addr × Value),
      Paired (fun (p : List Key × V) (q : List Key × Addr × Value) => p.1 = q.1 ∧ H q.2.1 = some (.tup (p.1.map kV)) ∧ RelV p.2 q.2.2) kvs xs ∧
      ∃ o es ep, h.get? a = some o ∧ o.ExactDict ∧ o.data = .dict es ep ∧ es.toList = xs.map (entryOfKey (tupleKind (mixKind P w))) ∧ (xs.map (·.1)).Nodup
  | .set S n => h.SetOf (intKind P w) a S n
  | .ins C dx fs => H dx = some (.own a) ∧ fs.length ≤ 1000 ∧ dx ≠ a ∧ h.get? a = some (PySem.W.instObj C dx) ∧
      ∃ mA, h.Ns1 dx mA ∧ (∀ f, RelO (fs.lookup f) (mA f)) ∧ PySem.Within mA (fs.map (·.1))
  | .own _ => ∃ o, h.get? a = some o
  | .xd fs => ∃ mA, h.Ns1 a mA ∧ ∀ f, RelO (fs.lookup f) (mA f)
  | .rng lo hi => ∃ t u v, h.get? a = some { cls := .type "range", data := .fields #[.int lo t, .int hi u, .int 1 v] }
  | .frz o u => h.get? a = some o ∧ ObjOk H h a u
  | .tbl ps => h.get? a = some { cls := .none, data := .fields ps }
  | .met f x => h.get? a = some (PySem.W.methodObj (.ref f) (.ref x))
  | .ext φ => φ h ∧ (∃ o, h.get? a = some o) ∧ ∀ h1 h2 : Heap, φ h1 → (∀ o, h1.get? a = some o → h2.get? a = some o) → φ h2
/-- the abstract heap is held -/
def HOk (H : Hp) (h : Heap) : Prop := ∀ a o, H a = some o → ObjOk P w H h a o
end
section
variable {P : Program} {w : World} {H H' : Hp} {h h' : Heap} {a : Addr} {o : HO}
theorem ObjOk.lt (x : ObjOk P w H h a o) : a < h.objs.size := by
  cases o with
  | lst xs => obtain ⟨_, _, _, _, e⟩ := x; exact Heap.lt_size e
  | tup xs => obtain ⟨_, _, _, p⟩ := x; exact p.lt
  | dK kvs => obtain ⟨_, _, _, _, o, _, _, e, _⟩ := x; exact Heap.lt_size e
  | dT kvs => obtain ⟨_, _, _, _, o, _, _, e, _⟩ := x; exact Heap.lt_size e
  | set S n => obtain ⟨o, _, _, _, e, _⟩ := x; exact Heap.lt_size e
  | ins C dx fs => obtain ⟨_, _, _, e, _⟩ := x; exact Heap.lt_size e
  | own y => obtain ⟨_, e⟩ := x; exact Heap.lt_size e
  | xd fs => obtain ⟨_, ⟨_, _, _, e, _⟩, _⟩ := x; exact Heap.lt_size e
  | rng lo hi => obtain ⟨_, _, _, e⟩ := x; exact Heap.lt_size e
  | frz ob u => obtain ⟨e, _⟩ := x; exact Heap.lt_size e
  | tbl ps => exact Heap.lt_size (show h.get? a = some _ from x)
  | met f y => exact Heap.lt_size (show h.get? a = some _ from x)
  | ext φ => obtain ⟨_, ⟨_, e⟩, _⟩ := x; exact Heap.lt_size e
theorem Paired.mapP {α β : Type} {F G : α → β → Prop} : ∀ {l₁ : List α} {l₂ : List β}, Paired F l₁ l₂ → (∀ a b, F a b → G a b) → Paired G l₁ l₂
  | _, _, .nil, _ => .nil
  | _, _, .cons r t, f => .cons (f _ _ r) (Paired.mapP t f)
/-- what an object's description leans on: its own object, its own dict, the tuples -/
theorem ObjOk.stay (x : ObjOk P w H h a o) (k : ∀ b u, (b = a ∨ H b = some (.own a)) → h.get? b = some u → h'.get? b = some u)
    (ho : ∀ b, H b = some (.own a) → H' b = some (.own a)) (ht : ∀ b xs, H b = some (.tup xs) → H' b = some (.tup xs)) : ObjOk P w H' h' a o := by
  induction o with
  | lst xs => obtain ⟨z, its, n, r, e⟩ := x; exact ⟨z, its, n, r, k _ _ (.inl rfl) e⟩
  | tup xs => obtain ⟨z, its, r, ob, e, c⟩ := x; exact ⟨z, its, r, ob, k _ _ (.inl rfl) e, c⟩
  | dK kvs => obtain ⟨z, y, vs, r, ob, es, ep, e, c⟩ := x; exact ⟨z, y, vs, r, ob, es, ep, k _ _ (.inl rfl) e, c⟩
  | dT kvs =>
    obtain ⟨z, y, xs, r, ob, es, ep, e, c⟩ := x
    exact ⟨z, y, xs, Paired.mapP r fun p q z => ⟨z.1, ht _ _ z.2.1, z.2.2⟩, ob, es, ep, k _ _ (.inl rfl) e, c⟩
  | set S n => obtain ⟨ob, es, ep, t, e, c⟩ := x; exact ⟨ob, es, ep, t, k _ _ (.inl rfl) e, c⟩
  | ins C dx fs =>
    obtain ⟨d, z, ne, e, mA, ⟨od, es, ep, e2, c⟩, r⟩ := x
    exact ⟨ho _ d, z, ne, k _ _ (.inl rfl) e, mA, ⟨od, es, ep, k _ _ (.inr d) e2, c⟩, r⟩
  | own y => obtain ⟨ob, e⟩ := x; exact ⟨ob, k _ _ (.inl rfl) e⟩
  | xd fs => obtain ⟨mA, ⟨od, es, ep, e, c⟩, r⟩ := x; exact ⟨mA, ⟨od, es, ep, k _ _ (.inl rfl) e, c⟩, r⟩
  | rng lo hi => obtain ⟨t, u, v, e⟩ := x; exact ⟨t, u, v, k _ _ (.inl rfl) e⟩
  | frz ob u ih => obtain ⟨e, q⟩ := x; exact ⟨k _ _ (.inl rfl) e, ih q⟩
  | tbl ps =>
    have e : h.get? a = some { cls := .none, data := .fields ps } := x
    show h'.get? a = some { cls := .none, data := .fields ps }
    exact k a _ (.inl rfl) e
  | met f y =>
    have e : h.get? a = some (PySem.W.methodObj (.ref f) (.ref y)) := x
    show h'.get? a = some (PySem.W.methodObj (.ref f) (.ref y))
    exact k a _ (.inl rfl) e
  | ext φ => obtain ⟨p, ⟨o, e⟩, st⟩ := x; exact ⟨st _ _ p fun o q => k _ _ (.inl rfl) q, ⟨o, k _ _ (.inl rfl) e⟩, st⟩
theorem HOk.lt (x : HOk P w H h) (e : H a = some o) : a < h.objs.size := (x a o e).lt
theorem HOk.fresh (x : HOk P w H h) (e : h.objs.size ≤ a) : H a = none := by
  cases q : H a with
  | none => rfl
  | some u => exact absurd (Nat.lt_of_lt_of_le (x.lt q) e) (Nat.lt_irrefl _)
/-- every object of the heap is kept -/
theorem HOk.kept (x : HOk P w H h) (k : ∀ b u, h.get? b = some u → h'.get? b = some u) : HOk P w H h' := fun a o e =>
  (x a o e).stay (fun b u _ q => k b u q) (fun _ q => q) fun _ _ q => q
/-- a new object is laid and tracked -/
theorem HOk.laid (x : HOk P w H h) (k : ∀ b u, h.get? b = some u → h'.get? b = some u) (hp : h.objs.size ≤ a) (new : ObjOk P w (upd H a o) h' a o) : HOk P w (upd H a o) h' := fun b u e => by
  have hn := x.fresh hp
  by_cases hb : b = a
  · subst hb; rw [upd_same] at e; cases e; exact new
  · rw [upd_ne hb] at e
    exact (x b u e).stay (fun c v _ q => k c v q) (fun c q => by rw [upd_ne (ne_of_none q hn)]; exact q) fun c xs q => by rw [upd_ne (ne_of_none q hn)]; exact q
end
/-- what may be read as u: it is u, or a known u -/
def Rd (H : Hp) (a : Addr) (u : HO) : Prop := H a = some u ∨ ∃ o, H a = some (.frz o u)
theorem Rd.ok {P : Program} {w : World} {H : Hp} {h : Heap} {a : Addr} {u : HO} (r : Rd H a u) (x : HOk P w H h) : ObjOk P w H h a u := by
  rcases r with r | ⟨o, r⟩
  · exact x a u r
  · obtain ⟨_, q⟩ := x a _ r
    exact q
/-- what may be written -/
def Mut : Option HO → Prop
  | some (.lst _) => True
  | some (.dK _) => True
  | some (.dT _) => True
  | some (.set _ _) => True
  | some (.ins _ _ _) => True
  | some (.ext _) => True
  | _ => False
section
variable {P : Program} {w : World} {H : Hp} {h h' : Heap} {x e : Addr} {o' : HO}
/-- the object at e is changed: x itself, or the dict of the instance x -/
theorem HOk.write (ok : HOk P w H h) (mu : Mut (H x)) (he : e = x ∨ H e = some (.own x)) (k : ∀ b u, b ≠ e → h.get? b = some u → h'.get? b = some u) (heo : ∃ u, h'.get? e = some u)
    (new : ObjOk P w (upd H x o') h' x o') : HOk P w (upd H x o') h' := fun b u q => by
  have nown : ∀ c y, H c = some (.own y) → c ≠ x := fun c y r z => by subst z; rw [r] at mu; exact mu
  have ntup : ∀ c xs, H c = some (.tup xs) → c ≠ x := fun c xs r z => by subst z; rw [r] at mu; exact mu
  by_cases hb : b = x
  · subst hb; rw [upd_same] at q; cases q; exact new
  · rw [upd_ne hb] at q
    by_cases hbe : b = e
    · have q' : H b = some (.own x) := by
        rcases he with z | z
        · exact absurd (hbe.trans z) hb
        · rw [hbe]; exact z
      rw [q] at q'; cases q'
      obtain ⟨v, hv⟩ := heo
      exact ⟨v, by rw [hbe]; exact hv⟩
    · refine (ok b u q).stay (fun c v hc r => k c v ?_ r) (fun c r => by rw [upd_ne (nown c b r)]; exact r) fun c xs r => by rw [upd_ne (ntup c xs r)]; exact r
      rcases hc with rfl | hc
      · exact hbe
      · rintro rfl
        rcases he with z | z
        · exact nown c b hc z
        · rw [hc] at z; cases z; exact hb rfl
end
structure Un (fs ex : List Addr) (H H' : Hp) (h h' : Heap) : Prop where
  keep : ∀ b o, h.get? b = some o → H b = none → b ∉ fs → b ∉ ex → h'.get? b = some o
  slot : ∀ b o, h.get? b = some o → H b = none → b ∈ fs → b ∉ ex → ∃ sl, h'.get? b = some { o with slots := sl }
  free : ∀ b o, h.get? b = some o → H b = none → b ∉ ex → H' b = none
  there : ∀ b o, h.get? b = some o → b ∉ ex → ∃ o', h'.get? b = some o'
  tups : ∀ b xs, H b = some (.tup xs) → H' b = some (.tup xs)
  frzs : ∀ b o u, H b = some (.frz o u) → H' b = some (.frz o u)
  tbls : ∀ b ps, H b = some (.tbl ps) → ∃ more, H' b = some (.tbl (ps ++ more))
section
variable {fs fs' ex ex' : List Addr} {H H1 H2 : Hp} {h h1 h2 h' : Heap} {a x e : Addr} {o : HO}
theorem Un.any (u : Un fs ex H H1 h h1) {b : Addr} {ob : Obj} (q : h.get? b = some ob) (n : H b = none) (hx : b ∉ ex) : ∃ sl, h1.get? b = some { ob with slots := sl } := by
  by_cases hb : b ∈ fs
  · exact u.slot b ob q n hb hx
  · exact ⟨ob.slots, u.keep b ob q n hb hx⟩
theorem Un.kept (k : ∀ b u, h.get? b = some u → h'.get? b = some u) : Un fs ex H H h h' :=
  ⟨fun b ob q _ _ _ => k b ob q, fun b ob q _ _ _ => ⟨ob.slots, k b ob q⟩, fun _ _ _ n _ => n, fun b ob q _ => ⟨ob, k b ob q⟩, fun _ _ q => q, fun _ _ _ q => q, fun _ ps q => ⟨#[], by rw [q]; simp⟩⟩
theorem Un.refl : Un fs ex H H h h := Un.kept fun _ _ q => q
theorem Un.laid (k : ∀ b u, h.get? b = some u → h'.get? b = some u) (hp : h.objs.size ≤ a) (hn : H a = none) : Un fs ex H (upd H a o) h h' where
  keep := fun b u q _ _ _ => k b u q
  slot := fun b u q _ _ _ => ⟨u.slots, k b u q⟩
  free := fun b u q n _ => by rw [upd_ne (Nat.ne_of_lt (Nat.lt_of_lt_of_le (Heap.lt_size q) hp))]; exact n
  there := fun b u q _ => ⟨u, k b u q⟩
  tups := fun b xs q => by rw [upd_ne (ne_of_none q hn)]; exact q
  frzs := fun b u xs q => by rw [upd_ne (ne_of_none q hn)]; exact q
  tbls := fun b ps q => ⟨#[], by rw [upd_ne (ne_of_none q hn), q]; simp⟩
theorem Un.write (mu : Mut (H x)) (he : e = x ∨ H e = some (.own x)) (k : ∀ b u, b ≠ e → h.get? b = some u → h'.get? b = some u) (heo : ∃ u, h'.get? e = some u) : Un fs ex H (upd H x o) h h' := by
  have hx : ∀ b, H b = none → b ≠ x := fun b n z => by subst z; rw [n] at mu; exact mu
  have hb : ∀ b, H b = none → b ≠ e := fun b n z => by
    subst z
    rcases he with r | r
    · exact hx b n r
    · rw [n] at r; cases r
  have hm : ∀ b u, H b = some u → ¬ Mut (some u) → b ≠ x := fun b u q nm z => by subst z; rw [q] at mu; exact nm mu
  refine ⟨fun b u q n _ _ => k b u (hb b n) q, fun b u q n _ _ => ⟨u.slots, k b u (hb b n) q⟩, fun b u q n _ => by rw [upd_ne (hx b n)]; exact n, fun b u q _ => ?_,
    fun b xs q => by rw [upd_ne (hm b _ q fun z => z)]; exact q, fun b u xs q => by rw [upd_ne (hm b _ q fun z => z)]; exact q, fun b ps q => ⟨#[], by rw [upd_ne (hm b _ q fun z => z), q]; simp⟩⟩
  by_cases hbe : b = e
  · subst hbe; exact heo
  · exact ⟨u, k b u hbe q⟩
end
def trk (h : Heap) (H : Hp) : List Addr := (List.range h.objs.size).filter fun a => (H a).isSome
def hidT (h : Heap) (H : Hp) : Heap := PySem.W.hideAll h (trk h H)
theorem hidT_size (h : Heap) (H : Hp) : (hidT h H).objs.size = h.objs.size := PySem.W.hideAll_size _ _
theorem hidT_get {h : Heap} {H : Hp} {b : Addr} {o : Obj} (e : h.get? b = some o) (n : H b = none) : (hidT h H).get? b = some o :=
  PySem.W.hideAll_get _ e fun hm => by
    have q : (H b).isSome = true := (List.mem_filter.mp hm).2
    rw [n] at q; simp at q
theorem of_hidT {h : Heap} {H : Hp} {b : Addr} {o : Obj} (e : (hidT h H).get? b = some o) : h.get? b = some o ∧ H b = none := by
  have e' : h.get? b = some o := PySem.W.of_hideAll (trk h H) e
  refine ⟨e', ?_⟩
  cases q : H b with
  | none => rfl
  | some x =>
    have hm : b ∈ trk h H := List.mem_filter.mpr ⟨List.mem_range.mpr (Heap.lt_size e'), by simp [q]⟩
    have z : (hidT h H).get? b = none := PySem.W.hideAll_none (trk h H) hm
    rw [z] at e; cases e
def allNews (g h : Heap) (L : Addr) : List (Addr × Obj) := (List.range h.objs.size).filterMap fun a => if a = L ∨ (g.get? a).isSome = true then none else (h.get? a).map fun o => (a, o)
def rest (g h : Heap) (L d : Addr) : List (Addr × Obj) := (allNews g h L).filter fun p => decide (p.1 ≠ d)
end L2
namespace L2
open PySem PySem.Spec PyProof.Rows
/-- the module's facts, over the base: the heap at the law's entry without what is tracked there -/
structure Mod (K : PySem.W.Frag) (mg : Str → Option Value) (base : Heap) : Prop where
  kin : K.In base
  glob : base.Ns mainGlobals mg
  blt : ∃ mb, base.Ns builtinsNs mb ∧ ∀ x : Str, x ≠ "__name__" → mb x = bootBuiltins x
  nolimit : base.NoLimit
/-- the context: a def's body (or a comprehension's block) running. base: fixed through the whole law; s₀, H₀: the entry; outer: the frames whose slots others may change (a def's callers); stack: all frames that run;
   ex: iterators that were made ahead of the entry and are walked here (a comprehension's); fn: the names whose cells were made at the entry (a def: all; a comprehension's block: its own); calm: not within an except suite; pn: pins that every state bears; xe: what is wanted of an exception that leaves the code -/
structure Cx where
  prog : Program
  w : World
  K : PySem.W.Frag
  mg : Str → Option Value
  base : Heap
  A : Around
  N : List Str
  s₀ : Shared
  H₀ : Hp
  env : Env
  outer : List Env
  stack : List Env
  ex : List Addr
  fn : Str → Bool
  calm : Bool
  pn : List (Addr × Obj)
  xe : Value → Shared → Prop
/-- the callers' frames -/
def frs (l : List Env) : List Addr := l.filterMap (·.frame)
abbrev Cx.fs (X : Cx) : List Addr := frs X.outer
def Vis (sc : Scope) (x : Str) : Prop := sc.names.lookup x = some .local ∨ sc.names.lookup x = some .cell ∨ sc.names.lookup x = some .free
def Loc (sc : Scope) (x : Str) : Prop := sc.names.lookup x = some .local ∨ sc.names.lookup x = some .cell
def Look (env : Env) (h : Heap) (m : Str → Option Value) (x : Str) (u : Value) : Prop :=
  (env.kindOf x = some .local ∧ m x = some u) ∨ ((env.kindOf x = some .cell ∨ env.kindOf x = some .free) ∧ ∃ c, env.cells.lookup x = some c ∧ h.IsCell c (some u))
structure Cx.Ok (X : Cx) : Prop where
  mod : Mod X.K X.mg X.base
  kind : X.env.scope.kind = .function
  glob : X.env.globals = mainGlobals
  blt : X.env.builtins = builtinsNs
  above : X.s₀.heap.objs.size ≤ X.env.locals
  inj : ∀ x y c, X.env.cells.lookup x = some c → X.env.cells.lookup y = some c → x = y
  has : ∀ x, (X.env.kindOf x = some .cell ∨ X.env.kindOf x = some .free) → ∃ c, X.env.cells.lookup x = some c
  cab : ∀ x c, X.fn x = true → X.env.cells.lookup x = some c → X.s₀.heap.objs.size ≤ c
  hd : X.calm = true → X.A.handled = none
  frames : X.A.frames = some X.stack
  stk : X.stack = X.outer ∨ (X.stack = X.env :: X.outer ∧ X.env.frame = some X.env.locals)
  exf : ∀ b ∈ X.ex, b ≠ X.env.locals ∧ ∀ x c, X.env.cells.lookup x = some c → c ≠ b
  bs : ∀ b o, X.base.get? b = some o → X.s₀.heap.get? b = some o ∧ X.H₀ b = none
  bsz : X.base.objs.size ≤ X.s₀.heap.objs.size
  noex : ∀ b o, X.base.get? b = some o → b ∉ X.ex
  exfs : ∀ b ∈ X.ex, b ∉ X.fs
  funs : X.s₀.heap.FunFrames X.base X.outer
  frf : ∀ b ∈ X.fs, X.H₀ b = none
structure Inv (X : Cx) (pins : List (Addr × Obj)) (σ : List (Option V)) (H : Hp) (s : Shared) : Prop where
  ok : X.Ok
  os : s.os = X.s₀.os
  bare : AllBare s.gens
  base : Un X.fs X.ex X.H₀ H X.s₀.heap s.heap
  loc : ∃ m, s.heap.Ns X.env.locals m ∧ ∀ (i : Nat) (x : Str) (v : V), X.N[i]? = some x → σ[i]? = some (some v) → Vis X.env.scope x → ∃ u, RelV v u ∧ Look X.env s.heap m x u
  cell : ∀ x c, X.env.cells.lookup x = some c → ∃ v, s.heap.IsCell c v
  free : H X.env.locals = none
  freeC : ∀ x c, X.env.cells.lookup x = some c → H c = none
  pin : ∀ p ∈ X.pn ++ pins, s.heap.get? p.1 = some p.2 ∧ H p.1 = none ∧ p.1 ≠ X.env.locals ∧ p.1 ∉ X.fs ∧ ∀ v, p.2.data ≠ .cell v
  hok : HOk X.prog X.w H s.heap
  len : σ.length = X.N.length
section
variable {X : Cx} {pins : List (Addr × Obj)} {σ : List (Option V)} {H H' : Hp} {s : Shared} {h' : Heap}
theorem Cx.Ok.nofr (ok : X.Ok) {b : Addr} {o : Obj} (e : X.base.get? b = some o) : b ∉ X.fs := fun hb => by
  have := (ok.funs.mem hb).1
  rw [e] at this; cases this
theorem Inv.bs (I : Inv X pins σ H s) : ∀ b o, X.base.get? b = some o → s.heap.get? b = some o ∧ H b = none := fun b o e =>
  ⟨I.base.keep b o (I.ok.bs b o e).1 (I.ok.bs b o e).2 (I.ok.nofr e) (I.ok.noex b o e), I.base.free b o (I.ok.bs b o e).1 (I.ok.bs b o e).2 (I.ok.noex b o e)⟩
theorem Inv.bk (I : Inv X pins σ H s) : ∀ b o, X.base.get? b = some o → s.heap.get? b = some o := fun b o e => (I.bs b o e).1
theorem Inv.mod (I : Inv X pins σ H s) : Mod X.K X.mg X.base := I.ok.mod
theorem Inv.kIn (I : Inv X pins σ H s) : X.K.In s.heap := I.ok.mod.kin.keeps I.bk
/-- the frame over the base: for OpenK's rules (K.In X.base is I.mod.kin) -/
theorem Inv.fr (I : Inv X pins σ H s) : ∃ m, Fr X.base X.env.locals s.heap m :=
  let ⟨m, hn, _⟩ := I.loc
  ⟨m, hn, I.bk, Nat.le_trans I.ok.bsz I.ok.above⟩
theorem Inv.lt (I : Inv X pins σ H s) : X.env.locals < s.heap.objs.size := let ⟨_, hn, _⟩ := I.loc; hn.lt
theorem Inv.sz (I : Inv X pins σ H s) : X.s₀.heap.objs.size ≤ s.heap.objs.size := Nat.le_trans I.ok.above (Nat.le_of_lt I.lt)
theorem Inv.nofs (I : Inv X pins σ H s) {a : Addr} (h : s.heap.objs.size ≤ a) : a ∉ X.fs := fun hb => by
  obtain ⟨_, o, ho, _⟩ := I.ok.funs.mem hb
  exact absurd (Nat.lt_of_lt_of_le (Heap.lt_size ho) (Nat.le_trans I.sz h)) (Nat.lt_irrefl _)
theorem Inv.cne (I : Inv X pins σ H s) : ∀ x c, X.env.cells.lookup x = some c → c ≠ X.env.locals := fun x c e z => by
  obtain ⟨v, o, ho, hd⟩ := I.cell x c e
  obtain ⟨m, ⟨o', es, ep, ho', hd', _⟩, _⟩ := I.loc
  rw [z, ho'] at ho; cases ho; rw [hd'] at hd; cases hd
theorem Inv.funs (I : Inv X pins σ H s) : s.heap.FunFrames X.base X.outer := by
  have all : ∀ (l : List Env), (∀ b ∈ frs l, b ∈ X.fs) → X.s₀.heap.FunFrames X.base l → s.heap.FunFrames X.base l := by
    intro l
    induction l with
    | nil => intro _ _; trivial
    | cons env r ih =>
      intro hs hl
      obtain ⟨hk, ⟨L, o, hf, hn, ho, hd⟩, hr⟩ := hl
      have hL : L ∈ X.fs := hs L (by unfold frs; rw [List.filterMap_cons, hf]; exact List.mem_cons_self)
      obtain ⟨sl, e⟩ := I.base.slot L o ho (I.ok.frf L hL) hL fun z => I.ok.exfs L z hL
      exact ⟨hk, ⟨L, _, hf, hn, e, hd⟩, ih (fun b hb => hs b (by unfold frs; rw [List.filterMap_cons, hf]; exact List.mem_cons_of_mem _ hb)) hr⟩
  exact all X.outer (fun _ hb => hb) I.ok.funs
/-- the frames that run, for a call -/
theorem Inv.stack (I : Inv X pins σ H s) : s.heap.FunFrames X.base X.stack := by
  rcases I.ok.stk with e | ⟨e, hf⟩
  · rw [e]; exact I.funs
  · rw [e]
    obtain ⟨m, hn, _⟩ := I.loc
    refine .cons (by rw [I.ok.kind]; decide) hf hn ?_ I.funs
    exact Heap.get?_none_of_le (Nat.le_trans I.ok.bsz I.ok.above)
theorem Inv.stkSub (I : Inv X pins σ H s) : ∀ b ∈ frs X.stack, b ∈ X.env.locals :: X.fs := fun b hb => by
  rcases I.ok.stk with e | ⟨e, hf⟩
  · rw [e] at hb; exact List.mem_cons_of_mem _ hb
  · rw [e] at hb
    unfold frs at hb
    rw [List.filterMap_cons, hf] at hb
    exact hb
theorem Inv.stkFree (I : Inv X pins σ H s) : ∀ b ∈ frs X.stack, H b = none := fun b hb => by
  rcases List.mem_cons.mp (I.stkSub b hb) with e | hb
  · rw [e]; exact I.free
  · obtain ⟨_, o, ho, _⟩ := I.ok.funs.mem hb
    exact I.base.free b o ho (I.ok.frf b hb) fun z => I.ok.exfs b z hb
/-- THE STEP: the untracked objects but the frame and the records at ch are kept (the callers' frames up to slots), the frame's map is kept, the new abstract heap is held -/
theorem Inv.step {g' : Array GenState} {t' : Nat} {d' : Drawn} {ch : List Addr} (I : Inv X pins σ H s)
    (hch : ∀ b ∈ ch, (b ∈ X.ex ∨ X.s₀.heap.objs.size ≤ b) ∧ b ≠ X.env.locals ∧ (∀ x c, X.env.cells.lookup x = some c → c ≠ b) ∧ ∀ p ∈ X.pn ++ pins, p.1 ≠ b)
    (keep : ∀ b o, b ≠ X.env.locals → b ∉ X.fs → b ∉ ch → s.heap.get? b = some o → H b = none → h'.get? b = some o)
    (slot : ∀ b o, b ≠ X.env.locals → b ∈ X.fs → b ∉ ch → s.heap.get? b = some o → H b = none → ∃ sl, h'.get? b = some { o with slots := sl }) (free : ∀ b o, b ∉ ch → s.heap.get? b = some o → H b = none → H' b = none)
    (there : ∀ b o, b ∉ ch → s.heap.get? b = some o → ∃ o', h'.get? b = some o')
    (tups : ∀ b xs, H b = some (.tup xs) → H' b = some (.tup xs)) (frzs : ∀ b o u, H b = some (.frz o u) → H' b = some (.frz o u)) (tbls : ∀ b ps, H b = some (.tbl ps) → ∃ more, H' b = some (.tbl (ps ++ more)))
    (ns : ∀ m, s.heap.Ns X.env.locals m → h'.Ns X.env.locals m) (hok : HOk X.prog X.w H' h') (hg : AllBare g') :
    Inv X pins σ H' { s with heap := h', gens := g', drawn := d', toks := t' } := by
  have neL : ∀ b o, X.s₀.heap.get? b = some o → b ≠ X.env.locals := fun b o e => Nat.ne_of_lt (Nat.lt_of_lt_of_le (Heap.lt_size e) I.ok.above)
  have neC : ∀ b o, X.s₀.heap.get? b = some o → b ∉ X.ex → b ∉ ch := fun b o e hx hb => by
    rcases (hch b hb).1 with z | z
    · exact hx z
    · exact absurd (Nat.lt_of_lt_of_le (Heap.lt_size e) z) (Nat.lt_irrefl _)
  have cellK : ∀ x c, X.env.cells.lookup x = some c → ∀ v, s.heap.IsCell c v → h'.IsCell c v := fun x c e v ⟨o, ho, hd⟩ => by
    have nch : c ∉ ch := fun z => (hch c z).2.2.1 x c e rfl
    by_cases hc : c ∈ X.fs
    · obtain ⟨sl, q⟩ := slot c o (I.cne x c e) hc nch ho (I.freeC x c e)
      exact ⟨_, q, hd⟩
    · exact ⟨o, keep c o (I.cne x c e) hc nch ho (I.freeC x c e), hd⟩
  refine ⟨I.ok, I.os, hg, ⟨fun b o e n hb hx => ?_, fun b o e n hb hx => ?_, fun b o e n hx => ?_, fun b o e hx => ?_, fun b xs e => tups b xs (I.base.tups b xs e), fun b o xs e => frzs b o xs (I.base.frzs b o xs e), fun b ps e => ?_⟩, ?_, fun x c e => ?_, ?_, fun x c e => ?_, fun p hp => ?_, hok, I.len⟩
  · exact keep b o (neL b o e) hb (neC b o e hx) (I.base.keep b o e n hb hx) (I.base.free b o e n hx)
  · obtain ⟨sl, e1⟩ := I.base.slot b o e n hb hx
    obtain ⟨sl', e2⟩ := slot b _ (neL b o e) hb (neC b o e hx) e1 (I.base.free b o e n hx)
    exact ⟨sl', e2⟩
  · obtain ⟨o', e1⟩ := I.base.there b o e hx
    exact free b o' (neC b o e hx) e1 (I.base.free b o e n hx)
  · obtain ⟨o', e1⟩ := I.base.there b o e hx
    exact there b o' (neC b o e hx) e1
  · obtain ⟨m1, e1⟩ := I.base.tbls b ps e
    obtain ⟨m2, e2⟩ := tbls b _ e1
    exact ⟨m1 ++ m2, by rw [e2, Array.append_assoc]⟩
  · obtain ⟨m, hn, hl⟩ := I.loc
    refine ⟨m, ns m hn, fun i x v e1 e2 e3 => ?_⟩
    obtain ⟨u, r, l⟩ := hl i x v e1 e2 e3
    refine ⟨u, r, ?_⟩
    rcases l with l | ⟨k, c, e, z⟩
    · exact .inl l
    · exact .inr ⟨k, c, e, cellK x c e _ z⟩
  · obtain ⟨v, z⟩ := I.cell x c e
    exact ⟨v, cellK x c e v z⟩
  · obtain ⟨m, ⟨o, _, _, ho, _⟩, _⟩ := I.loc
    exact free _ o (fun z => (hch _ z).2.1 rfl) ho I.free
  · obtain ⟨v, o, ho, hd⟩ := I.cell x c e
    exact free c o (fun z => (hch c z).2.2.1 x c e rfl) ho (I.freeC x c e)
  · obtain ⟨e, n, ne, nf, d⟩ := I.pin p hp
    have nch : p.1 ∉ ch := fun z => (hch p.1 z).2.2.2 p hp rfl
    exact ⟨keep p.1 p.2 ne nf nch e n, free p.1 p.2 nch e n, ne, nf, d⟩
/-- .. where the frame's own object is kept too -/
theorem Inv.un {t' : Nat} (I : Inv X pins σ H s) (u : Un X.fs [] H H' s.heap h') (hok : HOk X.prog X.w H' h') : Inv X pins σ H' { s with heap := h', toks := t' } := by
  obtain ⟨m, ⟨o, es, ep, ho, r⟩, _⟩ := id I.loc
  obtain ⟨sl, hL⟩ := u.any ho I.free (by simp)
  exact I.step (g' := s.gens) (d' := s.drawn) (ch := []) (fun _ z => nomatch z) (fun b o _ hb _ e n => u.keep b o e n hb (by simp)) (fun b o _ hb _ e n => u.slot b o e n hb (by simp)) (fun b o _ e n => u.free b o e n (by simp)) (fun b o _ e => u.there b o e (by simp)) u.tups u.frzs u.tbls (fun m' hm => by
    obtain ⟨o', es', ep', ho', r'⟩ := hm
    rw [ho] at ho'; cases ho'
    exact ⟨_, es', ep', hL, r'⟩) hok I.bare
/-- behind a call (or a comprehension's block): the slots of this frame may have changed too, the records at ch may have turned -/
theorem Inv.call {g' : Array GenState} {t' : Nat} {d' : Drawn} {ch : List Addr} (I : Inv X pins σ H s) (u : Un (frs X.stack) ch H H' s.heap h') (hok : HOk X.prog X.w H' h') (hg : AllBare g')
    (hch : ∀ b ∈ ch, (b ∈ X.ex ∨ X.s₀.heap.objs.size ≤ b) ∧ b ≠ X.env.locals ∧ (∀ x c, X.env.cells.lookup x = some c → c ≠ b) ∧ ∀ p ∈ X.pn ++ pins, p.1 ≠ b) :
    Inv X pins σ H' { s with heap := h', gens := g', drawn := d', toks := t' } := by
  obtain ⟨m, ⟨o, es, ep, ho, r⟩, _⟩ := id I.loc
  obtain ⟨sl, hL⟩ := u.any ho I.free fun z => (hch _ z).2.1 rfl
  exact I.step (ch := ch) hch (fun b o hL hb hc e n => u.keep b o e n (fun z => (List.mem_cons.mp (I.stkSub b z)).elim hL hb) hc) (fun b o _ _ hc e n => u.any e n hc) (fun b o hc e n => u.free b o e n hc) (fun b o hc e => u.there b o e hc) u.tups u.frzs u.tbls (fun m' hm => by
    obtain ⟨o', es', ep', ho', r'⟩ := hm
    rw [ho] at ho'; cases ho'
    exact ⟨_, es', ep', hL, r'⟩) hok hg
/-- an untracked record of ours (an iterator) has turned -/
theorem Inv.turned {t' : Nat} {it : Addr} (I : Inv X pins σ H s) (k : ∀ b o, b ≠ it → s.heap.get? b = some o → h'.get? b = some o) (hn : H it = none) (hL : it ≠ X.env.locals)
    (h1 : it ∈ X.ex ∨ X.s₀.heap.objs.size ≤ it) (h2 : ∀ x c, X.env.cells.lookup x = some c → c ≠ it) (h3 : ∀ p ∈ X.pn ++ pins, p.1 ≠ it) : Inv X pins σ H { s with heap := h', toks := t' } := by
  have nit : ∀ b u, H b = some u → b ≠ it := fun b u e z => by rw [z, hn] at e; cases e
  refine I.step (g' := s.gens) (d' := s.drawn) (ch := [it]) (fun b hb => ?_) (fun b o _ _ hc e _ => k b o (fun z => hc (by simp [z])) e) (fun b o _ _ hc e _ => ⟨o.slots, k b o (fun z => hc (by simp [z])) e⟩) (fun _ _ _ _ n => n)
    (fun b o hc e => ⟨o, k b o (fun z => hc (by simp [z])) e⟩) (fun _ _ e => e) (fun _ _ _ e => e) (fun b ps e => ⟨#[], by rw [e]; simp⟩) (fun m hm => ?_) (fun b u e => ?_) I.bare
  · have e : b = it := by simpa using hb
    subst e
    exact ⟨h1, hL, h2, h3⟩
  · obtain ⟨o, es, ep, ho, r⟩ := hm
    exact ⟨o, es, ep, k _ o (Ne.symm hL) ho, r⟩
  · refine (I.hok b u e).stay (fun c v hc q => k c v ?_ q) (fun _ q => q) fun _ _ q => q
    rcases hc with z | z
    · rw [z]; exact nit b u e
    · exact nit c _ z
theorem Inv.tok (I : Inv X pins σ H s) (t : Nat) : Inv X pins σ H { s with toks := t } := I.un (h' := s.heap) (t' := t) Un.refl I.hok
/-- all objects kept -/
theorem Inv.kept {t' : Nat} (I : Inv X pins σ H s) (k : ∀ b u, s.heap.get? b = some u → h'.get? b = some u) : Inv X pins σ H { s with heap := h', toks := t' } := I.un (Un.kept k) (I.hok.kept k)
/-- a new object laid and tracked -/
theorem Inv.laid {a : Addr} {o : HO} {t' : Nat} (I : Inv X pins σ H s) (k : ∀ b u, s.heap.get? b = some u → h'.get? b = some u) (hp : s.heap.objs.size ≤ a) (new : ObjOk X.prog X.w (upd H a o) h' a o) :
    Inv X pins σ (upd H a o) { s with heap := h', toks := t' } := I.un (Un.laid k hp (I.hok.fresh hp)) (I.hok.laid k hp new)
/-- an object written -/
theorem Inv.write {x e : Addr} {o : HO} {t' : Nat} (I : Inv X pins σ H s) (mu : Mut (H x)) (he : e = x ∨ H e = some (.own x)) (k : ∀ b u, b ≠ e → s.heap.get? b = some u → h'.get? b = some u) (heo : ∃ u, h'.get? e = some u)
    (new : ObjOk X.prog X.w (upd H x o) h' x o) : Inv X pins σ (upd H x o) { s with heap := h', toks := t' } := I.un (Un.write mu he k heo) (I.hok.write mu he k heo new)
/-- forgetting slots, pins -/
theorem Inv.weak {σ' : List (Option V)} (I : Inv X pins σ H s) (hl : σ'.length = σ.length) (w : ∀ (i : Nat) v, σ'[i]? = some (some v) → σ[i]? = some (some v)) : Inv X pins σ' H s :=
  ⟨I.ok, I.os, I.bare, I.base, let ⟨m, hn, hl'⟩ := I.loc; ⟨m, hn, fun i x v e1 e2 e3 => hl' i x v e1 (w i v e2) e3⟩, I.cell, I.free, I.freeC, I.pin, I.hok, hl.trans I.len⟩
theorem Inv.pins_of {pins' : List (Addr × Obj)} (I : Inv X pins σ H s) (h : ∀ p ∈ pins', s.heap.get? p.1 = some p.2 ∧ H p.1 = none ∧ p.1 ≠ X.env.locals ∧ p.1 ∉ X.fs ∧ ∀ v, p.2.data ≠ .cell v) : Inv X pins' σ H s :=
  ⟨I.ok, I.os, I.bare, I.base, I.loc, I.cell, I.free, I.freeC, fun p hp => (List.mem_append.mp hp).elim (fun z => I.pin p (List.mem_append_left _ z)) (h p), I.hok, I.len⟩
theorem nodup_ix {N : List Str} (hN : N.Nodup) {i j : Nat} {x : Str} (a : N[i]? = some x) (b : N[j]? = some x) : i = j := by
  obtain ⟨h1, e1⟩ := List.getElem?_eq_some_iff.mp a
  obtain ⟨h2, e2⟩ := List.getElem?_eq_some_iff.mp b
  exact (List.getElem_inj hN).mp (e1.trans e2.symm)
/-- a name is stored; what changed -/
theorem store_ok2 {M : Model} {A : Around} {E : Value → Shared → Prop} {i : Nat} {x : Str} {v : V} {u : Value} {Q : Unit → Shared → Prop} (I : Inv X pins σ H s) (hN : X.N.Nodup) (hi : X.N[i]? = some x) (hx : Loc X.env.scope x) (r : RelV v u)
    (h : ∀ s', Inv X pins (σ.set i (some v)) H s' → (∃ a, Heap.SameBut a s.heap s'.heap ∧ (a = X.env.locals ∨ X.env.cells.lookup x = some a)) → Q () s') (hf : X.fn x = true ∨ X.env.scope.names.lookup x = some .local := by first | exact .inl rfl | exact .inr rfl | assumption) : wpAny M A (storeName X.env x u) Q E s := by
  obtain ⟨m, hn, hl⟩ := id I.loc
  have hcls : (X.env.scope.kind == .class || (X.env.scope.kind == .module && X.env.locals != X.env.globals)) = false := by rw [I.ok.kind]; rfl
  have hiσ : i < σ.length := by rw [I.len]; exact (List.getElem?_eq_some_iff.mp hi).1
  have cne := I.cne
  have tracked : ∀ {a : Addr} {h' : Heap}, (∃ o, s.heap.get? a = some o ∧ H a = none) → Heap.SameBut a s.heap h' → HOk X.prog X.w H h' := fun {a h'} ha hs b ob e => by
    obtain ⟨_, _, hfree⟩ := ha
    refine (I.hok b ob e).stay (fun c w' hc q => (hs.2 c ?_).trans q) (fun _ q => q) fun _ _ q => q
    rintro rfl
    rcases hc with rfl | hc
    · rw [hfree] at e; cases e
    · rw [hfree] at hc; cases hc
  rcases hx with hk | hk
  · refine wpAny_storeName_local hk hn (fun h' hn' hs => ?_) hcls
    obtain ⟨oL, _, _, hoL, _⟩ := id hn
    refine h _ ⟨I.ok, I.os, I.bare, ⟨fun b o e n hb hx => ?_, fun b o e n hb hx => ?_, I.base.free, fun b o e hx => ?_, I.base.tups, I.base.frzs, I.base.tbls⟩, ⟨_, hn', fun j y v' e1 e2 e3 => ?_⟩, fun y c e => ?_, I.free, I.freeC, fun p hp => ?_, tracked ⟨oL, hoL, I.free⟩ hs, by simpa using I.len⟩ ⟨_, hs, .inl rfl⟩
    · exact (hs.2 b (Nat.ne_of_lt (Nat.lt_of_lt_of_le (Heap.lt_size e) I.ok.above))).trans (I.base.keep b o e n hb hx)
    · obtain ⟨sl, e1⟩ := I.base.slot b o e n hb hx
      exact ⟨sl, (hs.2 b (Nat.ne_of_lt (Nat.lt_of_lt_of_le (Heap.lt_size e) I.ok.above))).trans e1⟩
    · obtain ⟨o', e1⟩ := I.base.there b o e hx
      exact ⟨o', (hs.2 b (Nat.ne_of_lt (Nat.lt_of_lt_of_le (Heap.lt_size e) I.ok.above))).trans e1⟩
    · by_cases hj : j = i
      · subst hj
        rw [hi] at e1; cases e1
        rw [List.getElem?_set_self hiσ] at e2
        cases e2
        exact ⟨u, r, .inl ⟨hk, by simp⟩⟩
      · rw [List.getElem?_set_ne (Ne.symm hj)] at e2
        obtain ⟨u', r', q⟩ := hl j y v' e1 e2 e3
        refine ⟨u', r', ?_⟩
        rcases q with ⟨k, e⟩ | ⟨k, c, e, z⟩
        · refine .inl ⟨k, ?_⟩
          have : y ≠ x := fun e => hj (nodup_ix hN e1 (e ▸ hi))
          simp [this, e]
        · exact .inr ⟨k, c, e, z.sameBut hs (cne y c e)⟩
    · obtain ⟨w', z⟩ := I.cell y c e
      exact ⟨w', z.sameBut hs (cne y c e)⟩
    · obtain ⟨e, n, ne, nf, d⟩ := I.pin p hp
      exact ⟨(hs.2 p.1 ne).trans e, n, ne, nf, d⟩
  · have hfn : X.fn x = true := by
      rcases hf with z | z
      · exact z
      · rw [z] at hk; cases hk
    obtain ⟨c, hc⟩ := I.ok.has x (.inl hk)
    obtain ⟨w', z⟩ := I.cell x c hc
    refine wpAny_storeName_cell I.ok.kind hk hc z (fun h' hc' hs => ?_)
    obtain ⟨oc, hoc, hocd⟩ := id z
    refine h { s with heap := h' } ⟨I.ok, I.os, I.bare, ⟨fun b o e n hb hx => ?_, fun b o e n hb hx => ?_, I.base.free, fun b o e hx => ?_, I.base.tups, I.base.frzs, I.base.tbls⟩, ⟨m, hn.sameBut hs (Ne.symm (cne x c hc)), fun j y v' e1 e2 e3 => ?_⟩, fun y c' e => ?_, I.free, I.freeC, fun p hp => ?_, tracked ⟨oc, hoc, I.freeC x c hc⟩ hs, by simpa using I.len⟩ ⟨c, hs, .inr hc⟩
    · exact (hs.2 b (Nat.ne_of_lt (Nat.lt_of_lt_of_le (Heap.lt_size e) (I.ok.cab x c hfn hc)))).trans (I.base.keep b o e n hb hx)
    · obtain ⟨sl, e1⟩ := I.base.slot b o e n hb hx
      exact ⟨sl, (hs.2 b (Nat.ne_of_lt (Nat.lt_of_lt_of_le (Heap.lt_size e) (I.ok.cab x c hfn hc)))).trans e1⟩
    · obtain ⟨o', e1⟩ := I.base.there b o e hx
      exact ⟨o', (hs.2 b (Nat.ne_of_lt (Nat.lt_of_lt_of_le (Heap.lt_size e) (I.ok.cab x c hfn hc)))).trans e1⟩
    · by_cases hj : j = i
      · subst hj
        rw [hi] at e1; cases e1
        rw [List.getElem?_set_self hiσ] at e2
        cases e2
        exact ⟨u, r, .inr ⟨.inl hk, c, hc, hc'⟩⟩
      · rw [List.getElem?_set_ne (Ne.symm hj)] at e2
        obtain ⟨u', r', q⟩ := hl j y v' e1 e2 e3
        refine ⟨u', r', ?_⟩
        rcases q with q | ⟨k, c', e, z'⟩
        · exact .inl q
        · refine .inr ⟨k, c', e, z'.sameBut hs ?_⟩
          rintro rfl
          exact hj (nodup_ix hN e1 (I.ok.inj _ _ _ e hc ▸ hi))
    · by_cases hcc : c' = c
      · subst hcc; exact ⟨_, hc'⟩
      · obtain ⟨w2, z2⟩ := I.cell y c' e
        exact ⟨w2, z2.sameBut hs hcc⟩
    · obtain ⟨e, n, ne, nf, d⟩ := I.pin p hp
      refine ⟨(hs.2 p.1 ?_).trans e, n, ne, nf, d⟩
      intro q
      rw [q, hoc] at e
      have q' : oc = p.2 := Option.some.inj e
      exact d w' (by rw [← q']; exact hocd)
theorem store_ok {M : Model} {A : Around} {E : Value → Shared → Prop} {i : Nat} {x : Str} {v : V} {u : Value} {Q : Unit → Shared → Prop} (I : Inv X pins σ H s) (hN : X.N.Nodup) (hi : X.N[i]? = some x) (hx : Loc X.env.scope x) (r : RelV v u)
    (h : ∀ s', Inv X pins (σ.set i (some v)) H s' → Q () s') (hf : X.fn x = true ∨ X.env.scope.names.lookup x = some .local := by first | exact .inl rfl | exact .inr rfl | assumption) : wpAny M A (storeName X.env x u) Q E s :=
  store_ok2 I hN hi hx r (fun s' I' _ => h s' I') hf
/-- behind a call or a block, the state as it is -/
theorem Inv.call' {s' : Shared} {ch : List Addr} (I : Inv X pins σ H s) (ho : s'.os = s.os) (u : Un (frs X.stack) ch H H' s.heap s'.heap) (hok : HOk X.prog X.w H' s'.heap) (hg : AllBare s'.gens)
    (hch : ∀ b ∈ ch, (b ∈ X.ex ∨ X.s₀.heap.objs.size ≤ b) ∧ b ≠ X.env.locals ∧ (∀ x c, X.env.cells.lookup x = some c → c ≠ b) ∧ ∀ p ∈ X.pn ++ pins, p.1 ≠ b) : Inv X pins σ H' s' := by
  obtain ⟨h', g', d', t', o'⟩ := s'
  have e : o' = s.os := ho
  subst e
  exact I.call (g' := g') (t' := t') (d' := d') u hok hg hch
end
/-- an exception: its class, its own dict's address (where it has one), the abstract heap behind it -/
abbrev XK := Value → Option Addr → Hp → Prop
abbrev St := List (Option V)
abbrev VK := V → Hp → Prop
/-- an expression's reading; a test's; an argument list's -/
abbrev TE := St → Hp → VK → Prop
abbrev TT := St → Hp → (Bool → Hp → Prop) → Prop
abbrev TA := St → Hp → (List V → Hp → Prop) → Prop
/-- what is wanted behind a statement -/
structure Ends where
  nx : St → Hp → Prop
  rt : VK
  bk : St → Hp → Prop := fun _ _ => False
  ct : St → Hp → Prop := fun _ _ => False
abbrev TS := Ends → St → Hp → Prop
def EP (X : Cx) (pins : List (Addr × Obj)) (σ : St) (Q : VK) (u : Value) (s' : Shared) : Prop := ∃ v H', Inv X pins σ H' s' ∧ RelV v u ∧ Q v H'
def TP (X : Cx) (pins : List (Addr × Obj)) (σ : St) (Q : Bool → Hp → Prop) (b : Bool) (s' : Shared) : Prop := ∃ H', Inv X pins σ H' s' ∧ Q b H'
def AP (X : Cx) (pins : List (Addr × Obj)) (σ : St) (Q : List V → Hp → Prop) (us : List Value) (s' : Shared) : Prop := ∃ vs H', Inv X pins σ H' s' ∧ Vals vs us ∧ Q vs H'
def SP (X : Cx) (pins : List (Addr × Obj)) (D : Ends) (f : Flow) (s' : Shared) : Prop :=
  match f with
  | .next => ∃ σ' H', Inv X pins σ' H' s' ∧ D.nx σ' H'
  | .brk => ∃ σ' H', Inv X pins σ' H' s' ∧ D.bk σ' H'
  | .cont => ∃ σ' H', Inv X pins σ' H' s' ∧ D.ct σ' H'
  | .ret u => ∃ v σ' H', Inv X pins σ' H' s' ∧ RelV v u ∧ D.rt v H'
def PE (X : Cx) (e : Expr) (t : TE) : Prop :=
  ∀ (pins : List (Addr × Obj)) (s : Shared) (σ : St) (H : Hp) (Q : VK), Inv X pins σ H s → t σ H Q → wpAny (model X.prog X.w) X.A (eval e X.env) (EP X pins σ Q) X.xe s
def PT (X : Cx) (e : Expr) (t : TT) : Prop :=
  ∀ (pins : List (Addr × Obj)) (s : Shared) (σ : St) (H : Hp) (Q : Bool → Hp → Prop), Inv X pins σ H s → t σ H Q → wpAny (model X.prog X.w) X.A (isTrue e X.env (eval e X.env)) (TP X pins σ Q) X.xe s
/-- a test whatever its 'whole' is (and, or) -/
def PW (X : Cx) (e : Expr) (t : TT) : Prop :=
  ∀ (whole : Sem Value) (pins : List (Addr × Obj)) (s : Shared) (σ : St) (H : Hp) (Q : Bool → Hp → Prop), Inv X pins σ H s → t σ H Q → wpAny (model X.prog X.w) X.A (isTrue e X.env whole) (TP X pins σ Q) X.xe s
theorem PW.pt {X : Cx} {e : Expr} {t : TT} (h : PW X e t) : PT X e t := h _
/-- an argument list (no star), from the left -/
def PA (X : Cx) (es : List Expr) (t : TA) : Prop :=
  ∀ (pos : Pos) (pins : List (Addr × Obj)) (s : Shared) (σ : St) (H : Hp) (Q : List V → Hp → Prop), Inv X pins σ H s → t σ H Q → wpAny (model X.prog X.w) X.A (spliced (backTo pos (starEach es X.env))) (AP X pins σ Q) X.xe s
def PS (X : Cx) (st : Stmt) (t : TS) : Prop :=
  ∀ (pins : List (Addr × Obj)) (s : Shared) (σ : St) (H : Hp) (D : Ends), Inv X pins σ H s → t D σ H → wpAny (model X.prog X.w) X.A (exec st X.env) (SP X pins D) X.xe s
def PSs (X : Cx) (st : List Stmt) (t : TS) : Prop :=
  ∀ (pins : List (Addr × Obj)) (s : Shared) (σ : St) (H : Hp) (D : Ends), Inv X pins σ H s → t D σ H → wpAny (model X.prog X.w) X.A (execs st X.env) (SP X pins D) X.xe s
/-- weaken the end -/
theorem thn {α : Type} {t : Sem α} {Q Q' : α → Shared → Prop} {M : Model} {A : Around} {E : Value → Shared → Prop} {s : Shared} (h : wpAny M A t Q E s) (hQ : ∀ a s, Q a s → Q' a s) : wpAny M A t Q' E s := wpAny_mono h hQ fun _ _ x => x
end L2
namespace L2
open PySem PySem.Spec PyProof.Rows
section
variable {X : Cx}
/-- two expressions in a row -/
theorem bin {a b : Expr} {ta tb : TE} (ha : PE X a ta) (hb : PE X b tb) {pins : List (Addr × Obj)} {s : Shared} {σ : St} {H : Hp} {R : V → V → Hp → Prop} (I : Inv X pins σ H s) (h : ta σ H fun x H1 => tb σ H1 fun y H2 => R x y H2)
    {α : Type} {Q : α → Shared → Prop} {f : Value → Value → Sem α}
    (hf : ∀ v u s2 x y H2, Inv X pins σ H2 s2 → RelV x v → RelV y u → R x y H2 → wpAny (model X.prog X.w) X.A (f v u) Q X.xe s2) :
    wpAny (model X.prog X.w) X.A (eval a X.env) (fun v s₁ => wpAny (model X.prog X.w) X.A (eval b X.env) (fun u s₂ => wpAny (model X.prog X.w) X.A (f v u) Q X.xe s₂) X.xe s₁) X.xe s := by
  refine thn (ha pins s σ H _ I h) fun v s1 ⟨x, H1, I1, r1, q1⟩ => ?_
  refine thn (hb pins s1 σ H1 _ I1 q1) fun u s2 ⟨y, H2, I2, r2, q2⟩ => ?_
  exact hf v u s2 x y H2 I2 r1 r2 q2
def tVar (i : Nat) : TE := fun σ H Q => ∃ v, σ[i]? = some (some v) ∧ Q v H
def tC (v : V) : TE := fun _ H Q => Q v H
theorem pe_var {i : Nat} {x : Str} {pos : Pos} (hN : X.N[i]? = some x) (hv : Vis X.env.scope x) (hd : (x == ("__debug__" : Str)) = false := by decide) (hcd : (x == ("__classdict__" : Str)) = false := by decide) : PE X (.Name x pos) (tVar i) := by
  intro pins s σ H Q I h
  obtain ⟨v, e, h⟩ := h
  obtain ⟨m, hn, hl⟩ := I.loc
  obtain ⟨u, r, l⟩ := hl i x v hN e hv
  have fin : EP X pins σ Q u s := ⟨v, H, I, r, h⟩
  rcases l with ⟨hk, hm⟩ | ⟨hk, c, hc, hcell⟩
  · exact wpAny_Name (wpAny_loadName_local I.ok.kind hk hn hm fin) hd
  · rcases hk with hk | hk
    · exact wpAny_Name (wpAny_loadName_cell I.ok.kind hk hc hcell fin) hd
    · exact wpAny_Name (wpAny_loadName_free I.ok.kind hk hc hcell fin hcd) hd
theorem pe_int {i j pos} : PE X (.Constant (.int i) j pos) (tC (.int i)) := fun _ _ _ H _ I h => wpAny_Constant_int ⟨.int i, H, I.tok _, ⟨_, rfl⟩, h⟩
theorem pe_bl {b j pos} : PE X (.Constant (.bool b) j pos) (tC (.bl b)) := fun _ _ _ H _ I h => Constant_bool ⟨.bl b, H, I, rfl, h⟩
theorem pe_non {j pos} : PE X (.Constant .none j pos) (tC .non) := fun _ _ _ H _ I h => Constant_none ⟨.non, H, I, rfl, h⟩
theorem pe_str {x j pos} : PE X (.Constant (.str x) j pos) (tC (.str x)) := fun _ _ _ H _ I h => Calls.Constant_str ⟨.str x, H, I.tok _, ⟨_, rfl⟩, h⟩
/-- a global name of the def -/
def Gl (X : Cx) (x : Str) : Prop := X.env.kindOf x = some .globalImplicit
theorem ld_glob {E : Value → Shared → Prop} {pins : List (Addr × Obj)} {s : Shared} {σ : St} {H : Hp} {x : Str} {u : Value} {pos : Pos} {Q : Value → Shared → Prop} (I : Inv X pins σ H s) (hg : Gl X x) (hm : X.mg x = some u) (h : Q u s)
    (hd : (x == ("__debug__" : Str)) = false := by decide) : wpAny (model X.prog X.w) X.A (eval (.Name x pos) X.env) Q E s :=
  Calls.Name_function_global I.ok.kind hg (Calls.loadGlobal_global (by rw [I.ok.glob]; exact I.mod.glob.keeps I.bk) hm h) hd
theorem ld_blt {E : Value → Shared → Prop} {pins : List (Addr × Obj)} {s : Shared} {σ : St} {H : Hp} {x : Str} {u : Value} {pos : Pos} {Q : Value → Shared → Prop} (I : Inv X pins σ H s) (hg : Gl X x) (hm : X.mg x = none) (hv : bootBuiltins x = some u) (h : Q u s)
    (hn : x ≠ "__name__" := by decide) (hd : (x == ("__debug__" : Str)) = false := by decide) : wpAny (model X.prog X.w) X.A (eval (.Name x pos) X.env) Q E s := by
  obtain ⟨mb, h1, h2⟩ := I.mod.blt
  exact Calls.Name_function_global I.ok.kind hg (Calls.loadGlobal_builtin (by rw [I.ok.glob]; exact I.mod.glob.keeps I.bk) hm (by rw [I.ok.blt]; exact h1.keeps I.bk) ((h2 x hn).trans hv) h) hd
variable {a b : Expr} {ta tb : TE} {pos : Pos}
def PC (X : Cx) (op : CmpOp) (a b : Expr) (t : TE) : Prop :=
  ∀ (pins : List (Addr × Obj)) (s : Shared) (σ : St) (H : Hp) (Q : VK), Inv X pins σ H s → t σ H Q →
    wpAny (model X.prog X.w) X.A (eval a X.env) (fun v s₁ => wpAny (model X.prog X.w) X.A (eval b X.env) (fun u s₂ => wpAny (model X.prog X.w) X.A (compareOp op v u) (EP X pins σ Q) X.xe s₂) X.xe s₁) X.xe s
theorem nobehind (b : Expr) {op : CmpOp} (h : op ≠ .In) (h2 : op ≠ .NotIn) : behindInMarks op b = false := by
  have e1 : (op == CmpOp.In) = false := by cases op <;> first | rfl | exact absurd rfl h
  have e2 : (op == CmpOp.NotIn) = false := by cases op <;> first | rfl | exact absurd rfl h2
  cases b <;> simp [behindInMarks, e1, e2]
/-- is None -/
def tIsN (ta : TE) : TE := fun σ H Q => ta σ H fun x H1 => Q (.bl (decide (x = .non))) H1
def tNotN (ta : TE) : TE := fun σ H Q => ta σ H fun x H1 => Q (.bl (!decide (x = .non))) H1
theorem RelV.none_iff {x : V} {v : Value} (r : RelV x v) : (v == Value.none) = decide (x = .non) := by
  cases x with
  | non => cases r; rfl
  | bl _ => cases r; rfl
  | int _ => obtain ⟨t, rfl⟩ := r; rfl
  | str _ => obtain ⟨t, rfl⟩ := r; rfl
  | byt _ => obtain ⟨t, rfl⟩ := r; rfl
  | flt _ => obtain ⟨t, rfl⟩ := r; rfl
  | ref _ => cases r; rfl
  | ty _ => cases r; rfl
theorem pc_isN {j pos'} (ha : PE X a ta) : PC X .Is a (.Constant .none j pos') (tIsN ta) := by
  intro pins s σ H Q I h
  refine thn (ha pins s σ H _ I h) fun v s1 ⟨x, H1, I1, r1, q1⟩ => ?_
  exact Constant_none (is_none_gen ⟨.bl _, H1, I1, by rw [r1.none_iff]; rfl, q1⟩)
theorem pc_notN {j pos'} (ha : PE X a ta) : PC X .IsNot a (.Constant .none j pos') (tNotN ta) := by
  intro pins s σ H Q I h
  refine thn (ha pins s σ H _ I h) fun v s1 ⟨x, H1, I1, r1, q1⟩ => ?_
  exact Constant_none (isnot_none_gen ⟨.bl _, H1, I1, by rw [r1.none_iff]; rfl, q1⟩)
/-- a comparison as a value, as a test -/
def tB (t : TE) : TT := fun σ H Q => t σ H fun x H1 => ∃ c, x = .bl c ∧ Q c H1
theorem pe_cmp {op : CmpOp} {t : TE} (h : PC X op a b t) (h1 : behindInMarks op b = false := by first | exact nobehind _ (by decide) (by decide) | rfl) : PE X (.Compare a [op] [b] pos) t := fun pins s σ H Q I hw => wpAny_Compare1 (h pins s σ H Q I hw) h1
theorem pt_cmp {op : CmpOp} {t : TE} (h : PC X op a b t) (h1 : behindInMarks op b = false := by first | exact nobehind _ (by decide) (by decide) | rfl) : PT X (.Compare a [op] [b] pos) (tB t) := by
  intro pins s σ H Q I hw
  refine wpAny_isTrue_Compare1 (thn (h pins s σ H _ I hw) fun v s1 h1 => thn h1 fun u s2 h2 => thn h2 fun c s3 ⟨x, H1, I1, r1, q1⟩ => ?_) h1
  obtain ⟨d, rfl, q⟩ := q1
  cases r1
  exact wpAny_truthy_bool ⟨H1, I1, q⟩
variable {tA tB' : TT} {rest : List Expr}
def tAnd (t u : TT) : TT := fun σ H Q => t σ H fun c H1 => if c = true then u σ H1 Q else Q false H1
def tOr (t u : TT) : TT := fun σ H Q => t σ H fun c H1 => if c = true then Q true H1 else u σ H1 Q
def tNot (t : TT) : TT := fun σ H Q => t σ H fun c H1 => Q (!c) H1
theorem pw_and1 (ha : PT X a tA) : PW X (.BoolOp .And [a] pos) tA := by
  intro wh pins s σ H Q I h
  refine isTrue_and (thn (ha pins s σ H Q I h) fun c s1 e => ?_)
  cases c with
  | true => exact isTrue_and_nil e
  | false => exact e
theorem pw_or1 (ha : PT X a tA) : PW X (.BoolOp .Or [a] pos) tA := by
  intro wh pins s σ H Q I h
  refine isTrue_or (thn (ha pins s σ H Q I h) fun c s1 e => ?_)
  cases c with
  | false => exact isTrue_or_nil e
  | true => exact e
theorem pw_and (ha : PT X a tA) (hb : PW X (.BoolOp .And (b :: rest) pos) tB') : PW X (.BoolOp .And (a :: b :: rest) pos) (tAnd tA tB') := by
  intro wh pins s σ H Q I h
  refine isTrue_and (thn (ha pins s σ H _ I h) fun c s1 ⟨H1, I1, q1⟩ => ?_)
  cases c with
  | true => exact hb wh pins s1 σ H1 Q I1 q1
  | false => exact ⟨H1, I1, q1⟩
theorem pw_or (ha : PT X a tA) (hb : PW X (.BoolOp .Or (b :: rest) pos) tB') : PW X (.BoolOp .Or (a :: b :: rest) pos) (tOr tA tB') := by
  intro wh pins s σ H Q I h
  refine isTrue_or (thn (ha pins s σ H _ I h) fun c s1 ⟨H1, I1, q1⟩ => ?_)
  cases c with
  | true => exact ⟨H1, I1, q1⟩
  | false => exact hb wh pins s1 σ H1 Q I1 q1
theorem pt_not (ha : PT X a tA) : PT X (.UnaryOp .Not a pos) (tNot tA) := by
  intro pins s σ H Q I h
  exact isTrue_not (ha pins s σ H (fun c H1 => Q (!c) H1) I h)
def tOrV (ta tb : TE) : TE := fun σ H Q => ta σ H fun x H1 => ∃ c, x = .bl c ∧ if c = true then Q (.bl true) H1 else tb σ H1 Q
theorem pe_one {op} {t : TE} (h : PE X a t) : PE X (.BoolOp op [a] pos) t := fun pins s σ H Q I hw => BoolOp_one (h pins s σ H Q I hw)
theorem pe_or (ha : PE X a ta) (hb : PE X (.BoolOp .Or (b :: rest) pos) tb) : PE X (.BoolOp .Or (a :: b :: rest) pos) (tOrV ta tb) := by
  intro pins s σ H Q I h
  refine BoolOp_or (thn (ha pins s σ H _ I h) fun v s1 ⟨x, H1, I1, r1, q1⟩ => ?_)
  obtain ⟨c, rfl, q1⟩ := q1
  cases r1
  refine wpAny_truthy_bool ?_
  cases c with
  | false => exact hb pins s1 σ H1 Q I1 q1
  | true => exact ⟨.bl true, H1, I1, rfl, q1⟩
/-- a if t else b -/
def tIf (t : TT) (ta tb : TE) : TE := fun σ H Q => t σ H fun c H1 => if c = true then ta σ H1 Q else tb σ H1 Q
theorem pe_ifExp {c : Expr} (hc : PT X c tA) (ha : PE X a ta) (hb : PE X b tb) : PE X (.IfExp c a b pos) (tIf tA ta tb) := by
  intro pins s σ H Q I h
  refine wpAny_IfExp (thn (hc pins s σ H _ I h) fun d s1 ⟨H1, I1, q1⟩ => ?_)
  cases d with
  | true => exact ha pins s1 σ H1 Q I1 q1
  | false => exact hb pins s1 σ H1 Q I1 q1
end
end L2
namespace L2
open PySem PySem.Spec PyProof.Rows
def SqL (K : PySem.W.Frag) (H : Hp) (a : Addr) (xs : List V) : Prop :=
  Rd H a (.lst xs) ∨
    ∃ (o : Obj) (its : Array Value) (n : Nat), K.lookup a = some o ∧ o.cls = .type "list" ∧ o.dict = none ∧ o.data = .seq its n ∧ its.size ≤ sizeLine ∧ Vals xs its.toList
def SqT (K : PySem.W.Frag) (H : Hp) (a : Addr) (xs : List V) : Prop :=
  Rd H a (.tup xs) ∨
    ∃ (o : Obj) (its : Array Value) (n : Nat), K.lookup a = some o ∧ o.cls = .type "tuple" ∧ o.data = .seq its n ∧ its.size ≤ sizeLine ∧ Vals xs its.toList
def absV : Value → Option V
  | .none => some .non
  | .bool b => some (.bl b)
  | .int i _ => some (.int i)
  | .str x _ => some (.str x)
  | .bytes b _ => some (.byt b)
  | .float b _ => some (.flt b)
  | .ref a => some (.ref a)
  | .type n => some (.ty n)
  | _ => none
theorem RelV.abs {x : V} {u : Value} (r : RelV x u) : absV u = some x := by
  cases x with
  | non => cases r; rfl
  | bl _ => cases r; rfl
  | int _ => obtain ⟨t, rfl⟩ := r; rfl
  | str _ => obtain ⟨t, rfl⟩ := r; rfl
  | byt _ => obtain ⟨t, rfl⟩ := r; rfl
  | flt _ => obtain ⟨t, rfl⟩ := r; rfl
  | ref _ => cases r; rfl
  | ty _ => cases r; rfl
theorem RelV.inj {x y : V} {u : Value} (r : RelV x u) (q : RelV y u) : x = y := Option.some.inj (r.abs.symm.trans q.abs)
theorem Vals.inj : ∀ {xs ys : List V} {us : List Value}, Vals xs us → Vals ys us → xs = ys
  | _, _, _, .nil, .nil => rfl
  | _, _, _, .cons r t, .cons r' t' => by rw [r.inj r', Vals.inj t t']
section
variable {X : Cx} {pins : List (Addr × Obj)} {σ : St} {H : Hp} {s : Shared} {a : Addr} {xs ys : List V}
theorem SqL.of {K : PySem.W.Frag} (h : H a = some (.lst xs)) : SqL K H a xs := .inl (.inl h)
theorem SqT.of {K : PySem.W.Frag} (h : H a = some (.tup xs)) : SqT K H a xs := .inl (.inl h)
theorem Inv.list (I : Inv X pins σ H s) (h : SqL X.K H a xs) : ∃ its : List Value, Vals xs its ∧ PlainL s.heap a its.toArray ∧ xs.length ≤ sizeLine := by
  rcases h with h | ⟨o, its, n, hk, hc, hd, hs, hz, r⟩
  · obtain ⟨z, its, n, r, e⟩ := h.ok I.hok
    exact ⟨its, r, ⟨_, n, e, rfl, rfl, rfl⟩, z⟩
  · refine ⟨its.toList, r, ⟨o, n, I.kIn a o hk, hc, hd, by simpa using hs⟩, ?_⟩
    have e := r.length
    simp only [Array.length_toList] at e
    omega
theorem Inv.tuple (I : Inv X pins σ H s) (h : SqT X.K H a xs) : ∃ its : List Value, Vals xs its ∧ IsTup s.heap a its.toArray ∧ xs.length ≤ sizeLine := by
  rcases h with h | ⟨o, its, n, hk, hc, hs, hz, r⟩
  · obtain ⟨z, its, r, p⟩ := h.ok I.hok
    exact ⟨its, r, p, z⟩
  · refine ⟨its.toList, r, ⟨o, I.kIn a o hk, hc, n, by simpa using hs⟩, ?_⟩
    have e := r.length
    simp only [Array.length_toList] at e
    omega
theorem Inv.list_inj (I : Inv X pins σ H s) (h : SqL X.K H a xs) (h' : SqL X.K H a ys) : xs = ys := by
  obtain ⟨its, r, ⟨o, n, e, _, _, d⟩, _⟩ := I.list h
  obtain ⟨its', r', ⟨o', n', e', _, _, d'⟩, _⟩ := I.list h'
  rw [e] at e'; cases e'
  rw [d] at d'
  injection d' with d1 _
  have : its = its' := by simpa using congrArg Array.toList d1
  subst this
  exact r.inj r'
theorem Inv.tuple_inj (I : Inv X pins σ H s) (h : SqT X.K H a xs) (h' : SqT X.K H a ys) : xs = ys := by
  obtain ⟨its, r, ⟨o, e, _, n, d⟩, _⟩ := I.tuple h
  obtain ⟨its', r', ⟨o', e', _, n', d'⟩, _⟩ := I.tuple h'
  rw [e] at e'; cases e'
  rw [d] at d'
  injection d' with d1 _
  have : its = its' := by simpa using congrArg Array.toList d1
  subst this
  exact r.inj r'
end
abbrev Cx.wish (X : Cx) (E : Value → Shared → Prop) : Cx := { X with xe := E }
/-- no exception leaves -/
abbrev Cx.nox (X : Cx) : Cx := X.wish fun _ _ => False
theorem Cx.Ok.wish {X : Cx} (ok : X.Ok) (E : Value → Shared → Prop) : (X.wish E).Ok :=
  ⟨ok.mod, ok.kind, ok.glob, ok.blt, ok.above, ok.inj, ok.has, ok.cab, ok.hd, ok.frames, ok.stk, ok.exf, ok.bs, ok.bsz, ok.noex, ok.exfs, ok.funs, ok.frf⟩
theorem Cx.Ok.unwish {X : Cx} {E : Value → Shared → Prop} (ok : (X.wish E).Ok) : X.Ok :=
  ⟨ok.mod, ok.kind, ok.glob, ok.blt, ok.above, ok.inj, ok.has, ok.cab, ok.hd, ok.frames, ok.stk, ok.exf, ok.bs, ok.bsz, ok.noex, ok.exfs, ok.funs, ok.frf⟩
section
variable {X : Cx} {pins : List (Addr × Obj)} {σ : St} {H : Hp} {s : Shared} {E : Value → Shared → Prop}
theorem Inv.wish (I : Inv X pins σ H s) (E : Value → Shared → Prop) : Inv (X.wish E) pins σ H s := ⟨I.ok.wish E, I.os, I.bare, I.base, I.loc, I.cell, I.free, I.freeC, I.pin, I.hok, I.len⟩
theorem Inv.unwish (I : Inv (X.wish E) pins σ H s) : Inv X pins σ H s := ⟨I.ok.unwish, I.os, I.bare, I.base, I.loc, I.cell, I.free, I.freeC, I.pin, I.hok, I.len⟩
theorem SP.unwish {D : Ends} {f : Flow} {s' : Shared} (h : SP (X.wish E) pins D f s') : SP X pins D f s' := by
  cases f with
  | next => obtain ⟨σ', H', I, q⟩ := h; exact ⟨σ', H', I.unwish, q⟩
  | brk => obtain ⟨σ', H', I, q⟩ := h; exact ⟨σ', H', I.unwish, q⟩
  | cont => obtain ⟨σ', H', I, q⟩ := h; exact ⟨σ', H', I.unwish, q⟩
  | ret u => obtain ⟨v, σ', H', I, r, q⟩ := h; exact ⟨v, σ', H', I.unwish, r, q⟩
theorem PSs.nox {st : List Stmt} {t : TS} (h : PSs X.nox st t) : PSs X st t := fun pins s σ H D I hw =>
  wpAny_mono (h pins s σ H D (I.wish _) hw) (fun _ _ q => q.unwish) fun _ _ z => False.elim z
end
section
variable {X : Cx} {st : Stmt} {rest : List Stmt} {t u : TS} {e : Expr} {te : TE} {pos : Pos}
def tNext : TS := fun D σ H => D.nx σ H
def tSeq (t u : TS) : TS := fun D σ H => t { D with nx := u D } σ H
theorem pss_nil : PSs X [] tNext := fun _ _ σ H _ I h => wpAny_execs_nil ⟨σ, H, I, h⟩
theorem pss_cons (h1 : PS X st t) (h2 : PSs X rest u) : PSs X (st :: rest) (tSeq t u) := by
  intro pins s σ H D I h
  refine wpAny_execs_cons (thn (h1 pins s σ H { D with nx := u D } I h) fun f s1 q => ?_)
  cases f with
  | next =>
    obtain ⟨σ', H', I', q⟩ := q
    exact h2 pins s1 σ' H' D I' q
  | ret v => exact q
  | brk => exact q
  | cont => exact q
theorem pss_one (h1 : PS X st t) : PSs X [st] t := by
  intro pins s σ H D I h
  refine wpAny_execs_cons (thn (h1 pins s σ H D I h) fun f s1 q => ?_)
  cases f with
  | next => exact wpAny_execs_nil q
  | ret v => exact q
  | brk => exact q
  | cont => exact q
/-- in a def's body nothing is shown -/
theorem Inv.quiet {pins : List (Addr × Obj)} {σ : St} {H : Hp} {s : Shared} (I : Inv X pins σ H s) : interactive X.env = false := by simp [interactive, I.ok.kind]
/-- an expression whose value is dropped -/
def tDrop (te : TE) : TS := fun D σ H => te σ H fun _ H1 => D.nx σ H1
theorem ps_expr (he : PE X e te) (hs : swapsWith e none pos.line X.env = pure false := by rfl) : PS X (.Expr e pos) (tDrop te) := by
  intro pins s σ H D I h
  exact wpAny_Expr_any (thn (he pins s σ H _ I h) fun v s1 ⟨x, H1, I1, r1, q1⟩ => ⟨σ, H1, I1, q1⟩) I.quiet hs
def tRet (te : TE) : TS := fun D σ H => te σ H D.rt
theorem ps_ret (he : PE X e te) : PS X (.Return (some e) pos) (tRet te) := by
  intro pins s σ H D I h
  exact wpAny_Return_some (thn (he pins s σ H _ I h) fun v s1 ⟨x, H1, I1, r1, q1⟩ => ⟨x, σ, H1, I1, r1, q1⟩)
def tIfS (c : TT) (t u : TS) : TS := fun D σ H => c σ H fun b H1 => if b = true then t D σ H1 else u D σ H1
theorem ps_if {c : Expr} {a b : List Stmt} {tc : TT} (hc : PT X c tc) (ha : PSs X a t) (hb : PSs X b u) : PS X (.If c a b pos) (tIfS tc t u) := by
  intro pins s σ H D I h
  refine wpAny_If (thn (hc pins s σ H _ I h) fun d s1 ⟨H1, I1, q1⟩ => ?_)
  cases d with
  | true => exact ha pins s1 σ H1 D I1 q1
  | false => exact hb pins s1 σ H1 D I1 q1
end
abbrev TG := V → St → Hp → (St → Hp → Prop) → Prop
abbrev TGs := List V → St → Hp → (St → Hp → Prop) → Prop
def PG (X : Cx) (target : Expr) (t : TG) : Prop :=
  ∀ (pins : List (Addr × Obj)) (s : Shared) (σ : St) (H : Hp) (v : V) (u : Value) (Q : St → Hp → Prop), Inv X pins σ H s → RelV v u → t v σ H Q →
    wpAny (model X.prog X.w) X.A (assign target X.env u) (fun _ s' => ∃ σ' H', Inv X pins σ' H' s' ∧ Q σ' H') X.xe s
/-- several targets, one after another -/
def PGs (X : Cx) (ts : List Expr) (t : TGs) : Prop :=
  ∀ (pins : List (Addr × Obj)) (s : Shared) (σ : St) (H : Hp) (vs : List V) (us : List Value) (Q : St → Hp → Prop), Inv X pins σ H s → Vals vs us → t vs σ H Q →
    wpAny (model X.prog X.w) X.A (assignInOrder ((assignEach ts X.env).map (·.2)) us) (fun _ s' => ∃ σ' H', Inv X pins σ' H' s' ∧ Q σ' H') X.xe s
/-- o[i] = v, by values -/
abbrev TSet := V → V → V → Hp → (Hp → Prop) → Prop
def PSet (X : Cx) (t : TSet) : Prop :=
  ∀ (pins : List (Addr × Obj)) (s : Shared) (σ : St) (H : Hp) (o i v : V) (ov iv u : Value) (Q : Hp → Prop), Inv X pins σ H s → RelV o ov → RelV i iv → RelV v u → t o i v H Q →
    wpAny (model X.prog X.w) X.A (setItem ov iv u) (fun _ s' => ∃ H', Inv X pins σ H' s' ∧ Q H') X.xe s
section
variable {X : Cx} {pos : Pos}
def gName (i : Nat) : TG := fun v σ H Q => Q (σ.set i (some v)) H
theorem pg_name {i : Nat} {x : Str} (hN : X.N.Nodup) (hi : X.N[i]? = some x) (hx : Loc X.env.scope x) (hf : X.fn x = true ∨ X.env.scope.names.lookup x = some .local := by first | exact .inl rfl | exact .inr rfl | assumption) : PG X (.Name x pos) (gName i) := by
  intro pins s σ H v u Q I r h
  exact wpAny_assign_Name (store_ok I hN hi hx r (fun s' I' => ⟨_, H, I', h⟩) hf)
def gNil : TGs := fun vs σ H Q => vs = [] ∧ Q σ H
def gCons (t : TG) (u : TGs) : TGs := fun vs σ H Q => ∃ v r, vs = v :: r ∧ t v σ H fun σ' H' => u r σ' H' Q
theorem pgs_nil : PGs X [] gNil := by
  intro pins s σ H vs us Q I r h
  obtain ⟨e, h⟩ := h
  subst e
  cases r
  exact assignInOrder_nil ⟨σ, H, I, h⟩
theorem pgs_cons {e : Expr} {es : List Expr} {t : TG} {u : TGs} (h1 : PG X e t) (h2 : PGs X es u)
    (hs : (assignEach (e :: es) X.env).map (·.2) = assign e X.env :: (assignEach es X.env).map (·.2) := by rfl) : PGs X (e :: es) (gCons t u) := by
  intro pins s σ H vs us Q I r h
  obtain ⟨v, vr, e1, h⟩ := h
  subst e1
  cases r with
  | cons r rr =>
    rw [hs]
    refine assignInOrder_cons (thn (h1 pins s σ H _ _ _ I r h) fun _ s1 ⟨σ1, H1, I1, q1⟩ => ?_)
    exact h2 pins s1 σ1 H1 _ _ Q I1 rr q1
/-- (a, b, ..) = a tuple of that length -/
def gTup (K : PySem.W.Frag) (n : Nat) (t : TGs) : TG := fun v σ H Q => ∃ a xs, v = .ref a ∧ SqT K H a xs ∧ xs.length = n ∧ t xs σ H Q
theorem pg_tup {es : List Expr} {k : Nat} {t : TGs} {n : Nat} (hc : X.calm = true) (h : PGs X es t)
    (hn : (assignEach es X.env).length = n := by rfl) (hst : (assignEach es X.env).findIdx? (·.1) = none := by rfl) : PG X (.Tuple es k pos) (gTup X.K n t) := by
  intro pins s σ H v u Q I r hw
  obtain ⟨a, xs, e1, hq, hl, hw⟩ := hw
  subst e1
  cases r
  obtain ⟨its, rv, ht, hz⟩ := I.tuple hq
  refine assign_Tuple_tuple (I.ok.hd hc) ht (by simp [hn, ← hl, rv.length]) hst fun h' hx => ?_
  have I1 : Inv X pins σ H { s with heap := h' } := I.kept (t' := s.toks) fun b o e => hx b o (Nat.ne_of_lt (Heap.lt_size e)) e
  exact h pins _ σ H xs _ Q I1 (by simpa using rv) hw
/-- o[i] = .. -/
def gSub (to ti : TE) (t : TSet) : TG := fun v σ H Q => to σ H fun o H1 => ti σ H1 fun i H2 => t o i v H2 fun H3 => Q σ H3
theorem pg_sub {o i : Expr} {to ti : TE} {t : TSet} (ho : PE X o to) (hi : PE X i ti) (hs : PSet X t)
    (ha : ∀ v, assign (.Subscript o i pos) X.env v = (do
      let ov ← holding [v] (eval o X.env)
      let iv ← holding [v, ov] (eval i X.env)
      standAt pos
      holding [v, ov, iv] (setItem ov iv v)
      release [v, ov, iv] []) := by intro _; rfl) : PG X (.Subscript o i pos) (gSub to ti t) := by
  intro pins s σ H v u Q I r h
  rw [ha]
  refine wpAny_bind (wpAny_holding (thn (ho pins s σ H _ I h) fun ov s1 ⟨x, H1, I1, r1, q1⟩ => ?_))
  refine wpAny_bind (wpAny_holding (thn (hi pins s1 σ H1 _ I1 q1) fun iv s2 ⟨y, H2, I2, r2, q2⟩ => ?_))
  refine wpAny_bind (wpAny_standAt (wpAny_bind (wpAny_holding (thn (hs pins s2 σ H2 x y v ov iv u _ I2 r1 r2 r q2) fun _ s3 ⟨H3, I3, q3⟩ => ?_))))
  exact wpAny_release ⟨σ, H3, I3, q3⟩
/-- target = value -/
def tAsg (te : TE) (g : TG) : TS := fun D σ H => te σ H fun x H1 => g x σ H1 D.nx
theorem ps_asg {tg e : Expr} {te : TE} {g : TG} (he : PE X e te) (hg : PG X tg g) (hs : swapsWithSole [tg] e pos.line X.env = pure false := by rfl) (hw : swappedStores [tg] e X.env = pure none := by rfl)
    (h1 : (assignEach [tg] X.env).map (·.2) = [assign tg X.env] := by rfl) : PS X (.Assign [tg] e pos) (tAsg te g) := by
  intro pins s σ H D I h
  refine wpAny_Assign_stores (thn (he pins s σ H _ I h) fun v s1 ⟨x, H1, I1, r1, q1⟩ => ?_) hs hw
  rw [h1]
  exact thn (hg pins s1 σ H1 x v _ I1 r1 q1) fun _ s2 q => q
/-- name = value -/
theorem ps_set {i : Nat} {x : Str} {e : Expr} {te : TE} {pos' : Pos} (hN : X.N.Nodup) (hi : X.N[i]? = some x) (hx : Loc X.env.scope x) (he : PE X e te) (hs : swapsWith e (some (.Name x pos')) pos.line X.env = pure false := by rfl) (hf : X.fn x = true ∨ X.env.scope.names.lookup x = some .local := by first | exact .inl rfl | exact .inr rfl | assumption) :
    PS X (.Assign [.Name x pos'] e pos) (tAsg te (gName i)) := by
  intro pins s σ H D I h
  refine wpAny_Assign_Name (thn (he pins s σ H _ I h) fun v s1 ⟨y, H1, I1, r1, q1⟩ => ?_) hs
  exact store_ok I1 hN hi hx r1 (fun s2 I2 => ⟨_, H1, I2, q1⟩) hf
end
section
variable {X : Cx} {pos : Pos}
/-- the invariant W with its measure -/
def tWhile (c : TT) (tb : TS) : TS := fun D σ H => ∃ W : Nat → St → Hp → Prop, (∃ m, W m σ H) ∧ ∀ m σ H, W m σ H →
  c σ H fun b H1 => if b = true then ∃ N : St → Hp → Prop, (∀ σ' H', N σ' H' → ∃ m', m' < m ∧ W m' σ' H') ∧ tb { D with nx := N, ct := N, bk := D.nx } σ H1 else D.nx σ H1
theorem ps_while {c : Expr} {body : List Stmt} {tc : TT} {tb : TS} (hp : PassesOwn (model X.prog X.w) X.A X.env X.xe) (hc : PT X c tc) (hb : PSs X body tb) : PS X (.While c body [] pos) (tWhile tc tb) := by
  intro pins s σ H D I h
  obtain ⟨W, ⟨m0, w0⟩, turn⟩ := h
  refine wpAny_While (codeAny_whileLoop (fun n s' => ∃ σ' H', Inv X pins σ' H' s' ∧ W n σ' H') ?_ m0 ⟨σ, H, I, w0⟩)
  rintro n s1 ⟨σ1, H1, I1, w1⟩
  refine wpAny_passesOwn hp (thn (hc pins s1 σ1 H1 _ I1 (turn n σ1 H1 w1)) fun b s2 ⟨H2, I2, q2⟩ => ?_)
  cases b with
  | true =>
    obtain ⟨N, hN, q2⟩ := q2
    rw [if_pos rfl]
    refine wpAny_passesOwn hp (thn (hb pins s2 σ1 H2 _ I2 q2) fun f s3 q3 => ?_)
    cases f with
    | next =>
      obtain ⟨σ3, H3, I3, n3⟩ := q3
      obtain ⟨m', hm, w3⟩ := hN σ3 H3 n3
      exact ⟨m', hm, σ3, H3, I3, w3⟩
    | cont =>
      obtain ⟨σ3, H3, I3, n3⟩ := q3
      obtain ⟨m', hm, w3⟩ := hN σ3 H3 n3
      exact ⟨m', hm, σ3, H3, I3, w3⟩
    | brk => exact q3
    | ret v => exact q3
  | false =>
    rw [if_neg Bool.false_ne_true]
    exact wpAny_execs_nil ⟨σ1, H2, I2, q2⟩
end
/-- at turn i: it yields x (the heap may grow), or it stops -/
structure It where
  go : Nat → Hp → Prop
  yld : Nat → Hp → V → Hp → Prop
  stop : Nat → Hp → Prop
/-- the iterator's own objects may turn: they are not the frame's, not pinned, younger than the entry (or a comprehension's own) -/
def FpOk (X : Cx) (pins : List (Addr × Obj)) (H : Hp) (b : Addr) : Prop :=
  H b = none ∧ b ≠ X.env.locals ∧ b ∉ X.fs ∧ (b ∈ X.ex ∨ X.s₀.heap.objs.size ≤ b) ∧ (∀ x c, X.env.cells.lookup x = some c → c ≠ b) ∧ ∀ p ∈ X.pn ++ pins, p.1 ≠ b
theorem Inv.fpOk {X : Cx} {pins : List (Addr × Obj)} {σ : St} {H H' : Hp} {s : Shared} {b : Addr} (I : Inv X pins σ H s) (hb : s.heap.objs.size ≤ b) (hn : H' b = none) : FpOk X pins H' b := by
  refine ⟨hn, Nat.ne_of_gt (Nat.lt_of_lt_of_le I.lt hb), I.nofs hb, .inr (Nat.le_trans I.sz hb), fun x c e z => ?_, fun p hp z => ?_⟩
  · obtain ⟨v, q⟩ := I.cell x c e
    exact absurd (Nat.lt_of_lt_of_le q.lt (by rw [z]; exact hb)) (Nat.lt_irrefl _)
  · exact absurd (Nat.lt_of_lt_of_le (Heap.lt_size (I.pin p hp).1) (by rw [z]; exact hb)) (Nat.lt_irrefl _)
structure Turn (P : Program) (w : World) (K : PySem.W.Frag) (tg : Expr) (J : It) (fp : List Addr) (it : Addr) (tn : Nat → Heap → Prop) : Prop where
  mem : it ∈ fp
  obj : ∀ i h, tn i h → ∀ b ∈ fp, ∃ o, h.get? b = some o ∧ ∀ v, o.data ≠ .cell v
  keep : ∀ i h h', tn i h → (∀ b ∈ fp, ∀ o, h.get? b = some o → h'.get? b = some o) → tn i h'
  item : ∀ (X : Cx), X.prog = P → X.w = w → X.K = K → X.calm = true → ∀ (i : Nat) (pins : List (Addr × Obj)) (s : Shared) (σ : St) (H : Hp) (E : Value → Shared → Prop), Inv X pins σ H s → (∀ b ∈ fp, FpOk X pins H b) → tn i s.heap → J.go i H →
    wpAny (model P w) X.A (pyNext (.ref it)) (fun r s1 => ∃ u, r = some u ∧
      wpAny (model P w) X.A (letOwnedTupleGo tg (.ref it) u) (fun _ s2 => ∃ x H', Inv X pins σ H' s2 ∧ RelV x u ∧ J.yld i H x H' ∧ tn (i + 1) s2.heap ∧ ∀ b ∈ fp, H' b = none) E s1) E s
  done : ∀ (X : Cx), X.prog = P → X.w = w → X.K = K → X.calm = true → ∀ (i : Nat) (pins : List (Addr × Obj)) (s : Shared) (σ : St) (H : Hp) (E : Value → Shared → Prop), Inv X pins σ H s → (∀ b ∈ fp, FpOk X pins H b) → tn i s.heap → J.stop i H →
    wpAny (model P w) X.A (pyNext (.ref it)) (fun r s1 => r = none ∧ Inv X pins σ H s1) E s
  self : ∀ (A : Around) (i : Nat) (s : Shared) (Q : Value → Shared → Prop) (E : Value → Shared → Prop), tn i s.heap → Q (.ref it) s → wpAny (model P w) A (pyIter (.ref it)) Q E s
abbrev TI := St → Hp → (It → Hp → Prop) → Prop
/-- an iterator has come -/
def PIE (X : Cx) (pins : List (Addr × Obj)) (σ : St) (tg : Expr) (R : It → Hp → Prop) (itv : Value) (s2 : Shared) : Prop :=
  ∃ (it : Addr) (fp : List Addr) (tn : Nat → Heap → Prop) (J : It) (H' : Hp), itv = .ref it ∧ Inv X pins σ H' s2 ∧ Turn X.prog X.w X.K tg J fp it tn ∧ tn 0 s2.heap ∧ (∀ b ∈ fp, FpOk X pins H' b) ∧ R J H'
def PI (X : Cx) (tg iter : Expr) (wi : TI) : Prop :=
  ∀ (pins : List (Addr × Obj)) (s : Shared) (σ : St) (H : Hp) (R : It → Hp → Prop), Inv X pins σ H s → wi σ H R →
    wpAny (model X.prog X.w) X.A (eval iter X.env) (fun v s1 => wpAny (model X.prog X.w) X.A (pyIter v) (PIE X pins σ tg R) X.xe s1) X.xe s
/-- the step ahead of the store is nothing for an iterator that keeps no tuple -/
theorem go_of {M : Model} {A : Around} {E : Value → Shared → Prop} {s : Shared} {tg : Expr} {it : Addr} {u : Value} {o : Obj} {n : String} {vs : Array Value} {Q : Unit → Shared → Prop} (ho : s.heap.get? it = some o) (hc : o.cls = .type n) (hd : o.data = .fields vs)
    (hn : ["enumerate", "zip", "dict_itemiterator", "dict_reverseitemiterator", "odict_iterator", "itertools.zip_longest", "itertools.pairwise"].contains n = false) (hQ : Q () s) : wpAny M A (letOwnedTupleGo tg (.ref it) u) Q E s := by
  unfold letOwnedTupleGo
  cases tg <;> first
    | exact wpAny_pure hQ
    | (cases u <;> first
        | exact wpAny_pure hQ
        | (refine wpAny_bind (wpAny_load ho ?_)
           rw [hc, hd]
           show wpAny M A (if (["enumerate", "zip", "dict_itemiterator", "dict_reverseitemiterator", "odict_iterator", "itertools.zip_longest", "itertools.pairwise"].contains n && vs[0]? == some (rawInt _)) = true then _ else _) Q E s
           rw [if_neg (by intro h; rw [hn, Bool.false_and] at h; cases h)]
           exact wpAny_pure hQ))
/-- the list at a, as it stands at each turn (a loop may append to it) -/
def Itl (K : PySem.W.Frag) (a : Addr) : It :=
  ⟨fun i H => ∃ xs x, SqL K H a xs ∧ xs[i]? = some x, fun i H x H' => H' = H ∧ ∀ xs, SqL K H a xs → xs[i]? = some x, fun i H => ∃ xs, SqL K H a xs ∧ xs.length ≤ i⟩
def Itt (K : PySem.W.Frag) (a : Addr) : It :=
  ⟨fun i H => ∃ xs x, SqT K H a xs ∧ xs[i]? = some x, fun i H x H' => H' = H ∧ ∀ xs, SqT K H a xs → xs[i]? = some x, fun i H => ∃ xs, SqT K H a xs ∧ xs.length ≤ i⟩
/-- lo, lo + 1, .. (n of them) -/
def Itr (lo : Int) (n : Nat) : It := ⟨fun i _ => i < n, fun i H x H' => H' = H ∧ x = .int (lo + i), fun i _ => n ≤ i⟩
theorem turn_list {P : Program} {w : World} {K : PySem.W.Frag} {tg : Expr} (a it : Addr) : Turn P w K tg (Itl K a) [it] it (fun i h => h.IsListIter it a i) where
  mem := by simp
  obj := fun i h st b hb => by
    have e : b = it := by simpa using hb
    subst e
    obtain ⟨o, e, c, d⟩ := st
    exact ⟨o, e, fun v z => by rw [d] at z; cases z⟩
  keep := fun i h h' st k => st.at fun o e => k it (by simp) o e
  item := by
    intro X hP hw hK hc i pins s σ H E I hf st hg
    subst hP hw hK
    obtain ⟨xs, x, hq, hx⟩ := hg
    obtain ⟨its, rv, p, hz⟩ := I.list hq
    obtain ⟨u, hu, ru⟩ := rv.get hx
    obtain ⟨f0, f1, f2, f3, f4, f5⟩ := hf it (by simp)
    refine wpAny_pyNext_list_item st p.isList (x := u) (by simpa using hu) fun h' st' sb => ?_
    have I1 : Inv X pins σ H { s with heap := h' } := I.turned (t' := s.toks) (fun b o hb e => (sb.2 b hb).trans e) f0 f1 f3 f4 f5
    obtain ⟨o, e, c, d⟩ := id st'
    exact ⟨u, rfl, go_of (s := { s with heap := h' }) e c d (by decide) ⟨x, H, I1, ru, ⟨rfl, fun ys hy => by rw [I.list_inj hy hq]; exact hx⟩, st', fun b hb => (hf b hb).1⟩⟩
  done := by
    intro X hP hw hK hc i pins s σ H E I hf st hg
    subst hP hw hK
    obtain ⟨xs, hq, hx⟩ := hg
    obtain ⟨its, rv, p, hz⟩ := I.list hq
    obtain ⟨f0, f1, f2, f3, f4, f5⟩ := hf it (by simp)
    have hl := rv.length
    exact wpAny_pyNext_list_end (I.ok.hd hc) st p.isList (by simp; omega) fun h' eb => ⟨rfl, I.turned (t' := s.toks) (fun b o hb e => eb b o hb e) f0 f1 f3 f4 f5⟩
  self := fun _ _ _ _ _ st h => wpAny_pyIter_listiter st h
theorem turn_tuple {P : Program} {w : World} {K : PySem.W.Frag} {tg : Expr} (a it : Addr) : Turn P w K tg (Itt K a) [it] it (fun i h => h.IsTupleIter it a i) where
  mem := by simp
  obj := fun i h st b hb => by
    have e : b = it := by simpa using hb
    subst e
    obtain ⟨o, e, c, d⟩ := st
    exact ⟨o, e, fun v z => by rw [d] at z; cases z⟩
  keep := fun i h h' st k => st.at fun o e => k it (by simp) o e
  item := by
    intro X hP hw hK hc i pins s σ H E I hf st hg
    subst hP hw hK
    obtain ⟨xs, x, hq, hx⟩ := hg
    obtain ⟨its, rv, p, hz⟩ := I.tuple hq
    obtain ⟨u, hu, ru⟩ := rv.get hx
    obtain ⟨f0, f1, f2, f3, f4, f5⟩ := hf it (by simp)
    refine wpAny_pyNext_tuple_item st (show s.heap.IsTuple a its.toArray from p) (x := u) (by simpa using hu) fun h' st' sb => ?_
    have I1 : Inv X pins σ H { s with heap := h' } := I.turned (t' := s.toks) (fun b o hb e => (sb.2 b hb).trans e) f0 f1 f3 f4 f5
    obtain ⟨o, e, c, d⟩ := id st'
    exact ⟨u, rfl, go_of (s := { s with heap := h' }) e c d (by decide) ⟨x, H, I1, ru, ⟨rfl, fun ys hy => by rw [I.tuple_inj hy hq]; exact hx⟩, st', fun b hb => (hf b hb).1⟩⟩
  done := by
    intro X hP hw hK hc i pins s σ H E I hf st hg
    subst hP hw hK
    obtain ⟨xs, hq, hx⟩ := hg
    obtain ⟨its, rv, p, hz⟩ := I.tuple hq
    obtain ⟨f0, f1, f2, f3, f4, f5⟩ := hf it (by simp)
    have hl := rv.length
    exact wpAny_pyNext_tuple_end (I.ok.hd hc) st (show s.heap.IsTuple a its.toArray from p) (by simp; omega) fun h' eb => ⟨rfl, I.turned (t' := s.toks) (fun b o hb e => eb b o hb e) f0 f1 f3 f4 f5⟩
  self := fun _ _ _ _ _ st h => wpAny_pyIter_tupleiter st h
theorem turn_range {P : Program} {w : World} {K : PySem.W.Frag} {tg : Expr} (it : Addr) (lo : Int) (n : Nat) : Turn P w K tg (Itr lo n) [it] it (fun i h => IsRangeIter h it (lo + (i : Nat) * 1) ((n : Int) - (i : Nat)) 1) where
  mem := by simp
  obj := fun i h st b hb => by
    have e : b = it := by simpa using hb
    subst e
    exact ⟨_, st, fun v z => by
      have z' : Data.fields _ = Data.cell v := z
      cases z'⟩
  keep := fun i h h' st k => k it (by simp) _ st
  item := by
    intro X hP hw hK hc i pins s σ H E I hf st hg
    subst hP hw hK
    obtain ⟨f0, f1, f2, f3, f4, f5⟩ := hf it (by simp)
    have W := Walks.range (prog := X.prog) (w := X.w) (I.ok.hd hc) it lo 1 n
    refine W.item i s _ _ hg st fun v h' tk hv st' kk => ?_
    obtain ⟨t, rfl⟩ := hv
    have I1 : Inv X pins σ H { s with heap := h', toks := tk } := I.turned (fun b o hb e => kk b o (by simpa using hb) e) f0 f1 f3 f4 f5
    refine ⟨_, rfl, go_of (s := { s with heap := h', toks := tk }) (n := "range_iterator") st' rfl rfl (by decide) ⟨.int (lo + i), H, I1, ⟨t, ?_⟩, ⟨rfl, rfl⟩, st', fun b hb => (hf b hb).1⟩⟩
    rw [Int.mul_one]
  done := by
    intro X hP hw hK hc i pins s σ H E I hf st hg
    subst hP hw hK
    obtain ⟨f0, f1, f2, f3, f4, f5⟩ := hf it (by simp)
    exact wpAny_pyNext_range_end (I.ok.hd hc) st (by have : n ≤ i := hg; omega) fun h' eb => ⟨rfl, I.turned (t' := s.toks) (fun b o hb e => eb b o hb e) f0 f1 f3 f4 f5⟩
  self := fun _ _ _ _ _ st h => wpAny_pyIter_rangeiter st h
end L2
namespace L2
open PySem PySem.Spec PyProof.Rows
section
variable {X : Cx} {tg : Expr}
def iList (K : PySem.W.Frag) (tl : TE) : TI := fun σ H R => tl σ H fun x H1 => ∃ a, x = .ref a ∧ (∃ xs, SqL K H1 a xs) ∧ R (Itl K a) H1
def iTup (K : PySem.W.Frag) (tl : TE) : TI := fun σ H R => tl σ H fun x H1 => ∃ a, x = .ref a ∧ (∃ xs, SqT K H1 a xs) ∧ R (Itt K a) H1
theorem pi_list {l : Expr} {tl : TE} (hl : PE X l tl) : PI X tg l (iList X.K tl) := by
  intro pins s σ H R I h
  refine thn (hl pins s σ H _ I h) fun v s1 ⟨x, H1, I1, r1, q1⟩ => ?_
  obtain ⟨a, e, ⟨xs, hq⟩, q⟩ := q1
  subst e
  cases r1
  obtain ⟨its, rv, p, hz⟩ := I1.list hq
  refine wpAny_pyIter_list p.isList ?_
  refine ⟨s1.heap.objs.size, [s1.heap.objs.size], _, _, H1, rfl, I1.kept (t' := s1.toks) fun b o e => Heap.get?_push_of_some _ e, turn_list a _, ⟨_, Heap.get?_push_size _ rfl, rfl, rfl⟩, fun b hb => ?_, q⟩
  have e : b = s1.heap.objs.size := by simpa using hb
  subst e
  exact I1.fpOk (Nat.le_refl _) (I1.hok.fresh (Nat.le_refl _))
theorem pi_tup {l : Expr} {tl : TE} (hl : PE X l tl) : PI X tg l (iTup X.K tl) := by
  intro pins s σ H R I h
  refine thn (hl pins s σ H _ I h) fun v s1 ⟨x, H1, I1, r1, q1⟩ => ?_
  obtain ⟨a, e, ⟨xs, hq⟩, q⟩ := q1
  subst e
  cases r1
  obtain ⟨its, rv, p, hz⟩ := I1.tuple hq
  refine wpAny_pyIter_tuple (show s1.heap.IsTuple a its.toArray from p) ?_
  refine ⟨s1.heap.objs.size, [s1.heap.objs.size], _, _, H1, rfl, I1.kept (t' := s1.toks) fun b o e => Heap.get?_push_of_some _ e, turn_tuple a _, ⟨_, Heap.get?_push_size _ rfl, rfl, rfl⟩, fun b hb => ?_, q⟩
  have e : b = s1.heap.objs.size := by simpa using hb
  subst e
  exact I1.fpOk (Nat.le_refl _) (I1.hok.fresh (Nat.le_refl _))
/-- a range object just made, walked -/
theorem range_it {pins : List (Addr × Obj)} {σ : St} {H : Hp} {s : Shared} {R : It → Hp → Prop} {E : Value → Shared → Prop} {lo hi : Int} {t u v : Tok} {tk : Nat} (I : Inv X pins σ H s) (h1 : -(2 ^ 62) ≤ lo) (h2 : lo < 2 ^ 62) (h3 : -(2 ^ 62) ≤ hi) (h4 : hi < 2 ^ 62)
    (q : R (Itr lo (hi - lo).toNat) H) : wpAny (model X.prog X.w) X.A (pyIter (.ref s.heap.objs.size)) (PIE X pins σ tg R) E { s with heap := s.heap.push { cls := .type "range", data := .fields #[.int lo t, .int hi u, .int 1 v] }, toks := tk } := by
  refine wpAny_pyIter_range (IsRange.new ..) (small_one h1 h2 h3 h4) ?_
  have I1 : Inv X pins σ H { s with heap := s.heap.push { cls := .type "range", data := .fields #[.int lo t, .int hi u, .int 1 v] }, toks := tk } := I.kept fun b o e => Heap.get?_push_of_some _ e
  refine ⟨(s.heap.push { cls := .type "range", data := .fields #[.int lo t, .int hi u, .int 1 v] }).objs.size, [(s.heap.push { cls := .type "range", data := .fields #[.int lo t, .int hi u, .int 1 v] }).objs.size], _, _, H, rfl,
    I1.kept (t' := tk) fun b o e => Heap.get?_push_of_some _ e, turn_range _ lo (hi - lo).toNat, ?_, fun b hb => ?_, q⟩
  · have e1 : lo + ((0 : Nat) : Int) * 1 = lo := by simp
    have e2 : (((hi - lo).toNat : Nat) : Int) - ((0 : Nat) : Int) = Builtin.Range.rangeSize lo hi 1 := by rw [rangeSize_one]; split <;> omega
    show IsRangeIter _ _ (lo + ((0 : Nat) : Int) * 1) ((((hi - lo).toNat : Nat) : Int) - ((0 : Nat) : Int)) 1
    rw [e1, e2]
    exact Heap.get?_push_size _ rfl
  · have e : b = (s.heap.push { cls := .type "range", data := .fields #[.int lo t, .int hi u, .int 1 v] }).objs.size := by simpa using hb
    subst e
    exact I1.fpOk (Nat.le_refl _) (I1.hok.fresh (Nat.le_refl _))
def iRng1 (ta : TA) : TI := fun σ H R => ta σ H fun vs H1 => ∃ j : Int, vs = [.int j] ∧ -(2 ^ 62) ≤ j ∧ j < 2 ^ 62 ∧ R (Itr 0 j.toNat) H1
theorem pi_range1 {a : Expr} {ta : TA} {p pos : Pos} (hg : Gl X "range") (hm : X.mg "range" = none) (ha : PA X [a] ta) (hs : starEach [a] X.env = [(false, eval a X.env)] := by rfl) : PI X tg (.Call (.Name "range" p) [a] [] pos) (iRng1 ta) := by
  intro pins s σ H R I h
  refine Call_ (ld_blt I hg hm boot_range (PyProof.Rows.callWith_type1 (thn (ha pos pins s σ H _ I h) fun us s1 ⟨vs, H1, I1, r1, q1⟩ => ?_) hs rfl))
  obtain ⟨j, e, q1, q2, q⟩ := q1
  subst e
  cases r1 with
  | cons r rr =>
    cases rr
    obtain ⟨t, rfl⟩ := r
    exact call_range_1 (range_it I1 (by omega) (by omega) q1 q2 (by simpa using q))
/-- W: the invariant by the turn and a measure; N: what the body is to reach -/
def tFor (wi : TI) (g : TG) (tb : TS) : TS := fun D σ H => wi σ H fun J H1 => ∃ W : Nat → Nat → St → Hp → Prop, (∃ m, W 0 m σ H1) ∧ ∀ i m σ H, W i m σ H →
  (J.stop i H ∧ D.nx σ H) ∨ (J.go i H ∧ ∃ N : St → Hp → Prop, (∀ σ' H', N σ' H' → ∃ m', m' < m ∧ W (i + 1) m' σ' H') ∧ ∀ x H', J.yld i H x H' → g x σ H' fun σ2 H2 => tb { D with nx := N, ct := N, bk := D.nx } σ2 H2)
/-- the records at fp as they stand -/
def pinsAt (fp : List Addr) (h : Heap) : List (Addr × Obj) := fp.filterMap fun b => (h.get? b).map fun o => (b, o)
theorem mem_pinsAt {fp : List Addr} {h : Heap} {b : Addr} {o : Obj} (hb : b ∈ fp) (e : h.get? b = some o) : (b, o) ∈ pinsAt fp h := List.mem_filterMap.mpr ⟨b, hb, by rw [e]; rfl⟩
theorem of_pinsAt {fp : List Addr} {h : Heap} {p : Addr × Obj} (hp : p ∈ pinsAt fp h) : p.1 ∈ fp ∧ h.get? p.1 = some p.2 := by
  obtain ⟨b, hb, e⟩ := List.mem_filterMap.mp hp
  cases q : h.get? b with
  | none => rw [q] at e; cases e
  | some o =>
    rw [q] at e
    have e' : (b, o) = p := Option.some.inj e
    subst e'
    exact ⟨hb, q⟩
theorem Inv.pinned {pins : List (Addr × Obj)} {σ : St} {H : Hp} {s : Shared} {fp : List Addr} (I : Inv X pins σ H s) (hf : ∀ b ∈ fp, FpOk X pins H b) (ho : ∀ b ∈ fp, ∃ o, s.heap.get? b = some o ∧ ∀ v, o.data ≠ .cell v) : Inv X (pins ++ pinsAt fp s.heap) σ H s :=
  I.pins_of fun p hp => (List.mem_append.mp hp).elim (fun z => I.pin p (List.mem_append_right _ z)) fun z => by
    obtain ⟨hb, e⟩ := of_pinsAt z
    obtain ⟨f0, f1, f2, _⟩ := hf p.1 hb
    obtain ⟨o, e', d⟩ := ho p.1 hb
    rw [e] at e'; cases e'
    exact ⟨e, f0, f1, f2, d⟩
theorem Inv.unpinned {pins pl : List (Addr × Obj)} {σ : St} {H : Hp} {s : Shared} (I : Inv X (pins ++ pl) σ H s) : Inv X pins σ H s := I.pins_of fun p hp => I.pin p (List.mem_append_right _ (List.mem_append_left _ hp))
theorem ps_for {iter : Expr} {body : List Stmt} {wi : TI} {g : TG} {tb : TS} {pos : Pos} (hp : PassesOwn (model X.prog X.w) X.A X.env X.xe) (hc : X.calm = true) (hi : PI X tg iter wi) (hg : PG X tg g) (hb : PSs X body tb)
    (hs : ∀ x, foldedSetIterable iter X.env x = pure x := by intro _; rfl) : PS X (.For tg iter body [] pos) (tFor wi g tb) := by
  intro pins s σ H D I h
  refine wpAny_For (thn (hi pins s σ H _ I h) fun v s1 h1 => thn h1 fun itv s2 h2 => ?_) hs
  obtain ⟨it, fp, tn, J, H2, e, I2, T, st2, f2, W, ⟨m0, w0⟩, turn⟩ := h2
  subst e
  -- what stays true of the iterator's objects through the loop
  have stat : ∀ {H' : Hp}, (∀ b ∈ fp, H' b = none) → ∀ b ∈ fp, FpOk X pins H' b := fun hn b hb => ⟨hn b hb, (f2 b hb).2⟩
  refine codeAny_forLoop_any (fun n s' => ∃ i σ' H', Inv X pins σ' H' s' ∧ tn i s'.heap ∧ (∀ b ∈ fp, H' b = none) ∧ W i n σ' H') ?_ m0 ⟨0, σ, H2, I2, st2, fun b hb => (f2 b hb).1, w0⟩
  rintro n s3 ⟨i, σ3, H3, I3, st3, fr3, w3⟩
  rcases turn i n σ3 H3 w3 with ⟨stop, qn⟩ | ⟨go, N, hN, step⟩
  · refine wpAny_passesOwn hp (thn (T.done X rfl rfl rfl hc i pins s3 σ3 H3 X.xe I3 (stat fr3) st3 stop) fun r s4 ⟨hr, I4⟩ => ?_)
    subst hr
    exact wpAny_execs_nil ⟨σ3, H3, I4, qn⟩
  · refine wpAny_passesOwn hp (thn (T.item X rfl rfl rfl hc i pins s3 σ3 H3 X.xe I3 (stat fr3) st3 go) fun r s4 ⟨u, hr, h4⟩ => ?_)
    subst hr
    refine wpAny_passesOwn hp (thn h4 fun _ s5 ⟨x, H5, I5, r5, y5, st5, fr5⟩ => ?_)
    have I5' := I5.pinned (stat fr5) (T.obj _ _ st5)
    refine wpAny_passesOwn hp (thn (hg _ s5 σ3 H5 x u _ I5' r5 (step x H5 y5)) fun _ s6 ⟨σ6, H6, I6, q6⟩ => ?_)
    refine wpAny_passesOwn hp (thn (hb _ s6 σ6 H6 _ I6 q6) fun f s7 q7 => ?_)
    have again : ∀ {σ7 : St} {H7 : Hp}, Inv X (pins ++ pinsAt fp s5.heap) σ7 H7 s7 → N σ7 H7 → ∃ m, m < n ∧ ∃ i σ' H', Inv X pins σ' H' s7 ∧ tn i s7.heap ∧ (∀ b ∈ fp, H' b = none) ∧ W i m σ' H' := fun {σ7 H7} I7 n7 => by
      obtain ⟨m', hm, w7⟩ := hN σ7 H7 n7
      refine ⟨m', hm, i + 1, σ7, H7, I7.unpinned, T.keep _ _ _ st5 fun b hb o e => (I7.pin (b, o) (List.mem_append_right _ (List.mem_append_right _ (mem_pinsAt hb e)))).1, fun b hb => ?_, w7⟩
      obtain ⟨o, e, d⟩ := T.obj _ _ st5 b hb
      exact (I7.pin (b, o) (List.mem_append_right _ (List.mem_append_right _ (mem_pinsAt hb e)))).2.1
    cases f with
    | next => obtain ⟨σ7, H7, I7, n7⟩ := q7; exact again I7 n7
    | cont => obtain ⟨σ7, H7, I7, n7⟩ := q7; exact again I7 n7
    | brk => obtain ⟨σ7, H7, I7, q7⟩ := q7; exact ⟨σ7, H7, I7.unpinned, q7⟩
    | ret v => obtain ⟨x7, σ7, H7, I7, r7, q7⟩ := q7; exact ⟨x7, σ7, H7, I7.unpinned, r7, q7⟩
end
end L2
namespace L2
open PySem PySem.Spec PyProof.Rows
abbrev R2 := V → V → Hp → VK → Prop
/-- a two-place operation on values: f is binaryOp op, inplaceOp op or compareOp op -/
def OpR (X : Cx) (f : Value → Value → Sem Value) (r : R2) : Prop :=
  ∀ (pins : List (Addr × Obj)) (s : Shared) (σ : St) (H : Hp) (x y : V) (v u : Value) (Q : VK), Inv X pins σ H s → RelV x v → RelV y u → r x y H Q →
    wpAny (model X.prog X.w) X.A (f v u) (EP X pins σ Q) X.xe s
/-- a one-place operation -/
def UnR (X : Cx) (f : Value → Sem Value) (r : V → Hp → VK → Prop) : Prop :=
  ∀ (pins : List (Addr × Obj)) (s : Shared) (σ : St) (H : Hp) (x : V) (v : Value) (Q : VK), Inv X pins σ H s → RelV x v → r x H Q →
    wpAny (model X.prog X.w) X.A (f v) (EP X pins σ Q) X.xe s
/-- a call of a value that is known (a builtin, a type) with values -/
def CallR (X : Cx) (f : Value) (r : List V → Hp → VK → Prop) : Prop :=
  ∀ (pins : List (Addr × Obj)) (s : Shared) (σ : St) (H : Hp) (xs : List V) (us : List Value) (Q : VK), Inv X pins σ H s → Vals xs us → r xs H Q →
    wpAny (model X.prog X.w) X.A (call f us) (EP X pins σ Q) X.xe s
/-- a value's truth -/
def TruR (X : Cx) (r : V → Hp → (Bool → Hp → Prop) → Prop) : Prop :=
  ∀ (pins : List (Addr × Obj)) (s : Shared) (σ : St) (H : Hp) (x : V) (v : Value) (Q : Bool → Hp → Prop), Inv X pins σ H s → RelV x v → r x H Q →
    wpAny (model X.prog X.w) X.A (truthy v) (TP X pins σ Q) X.xe s
def tOp (r : R2) (ta tb : TE) : TE := fun σ H Q => ta σ H fun x H1 => tb σ H1 fun y H2 => r x y H2 Q
def tUn (r : V → Hp → VK → Prop) (ta : TE) : TE := fun σ H Q => ta σ H fun x H1 => r x H1 Q
/-- ints in, under C, and a value out -/
def rI (C : Int → Int → Prop) (g : Int → Int → V) : R2 := fun x y H Q => ∃ i j, x = .int i ∧ y = .int j ∧ C i j ∧ Q (g i j) H
def rI0 (g : Int → Int → V) : R2 := fun x y H Q => ∃ i j, x = .int i ∧ y = .int j ∧ Q (g i j) H
def rU (g : Int → V) : V → Hp → VK → Prop := fun x H Q => ∃ i, x = .int i ∧ Q (g i) H
section
variable {X : Cx} {a b c : Expr} {ta tb tc : TE} {pos : Pos}
theorem binT (ha : PE X a ta) (hb : PE X b tb) {pins : List (Addr × Obj)} {s : Shared} {σ : St} {H : Hp} {R : V → V → Hp → Prop} (I : Inv X pins σ H s)
    (h : ta σ H fun x H1 => tb σ H1 fun y H2 => R x y H2) {Q : Value → Shared → Prop} {f : Value → Value → Sem Value}
    (hf : ∀ v u s2 x y H2, Inv X pins σ H2 s2 → RelV x v → RelV y u → R x y H2 → wpAny (model X.prog X.w) X.A (f v u) Q X.xe s2) :
    wpAny (model X.prog X.w) X.A (eval a X.env) (fun v s₁ => wpAny (model X.prog X.w) X.A (eval b X.env) (fun u s₂ => wpAny (model X.prog X.w) X.A (f v u) Q X.xe s₂) X.xe s₁) X.xe s := by
  refine thn (ha pins s σ H _ I h) fun v s1 ⟨x, H1, I1, r1, q1⟩ => ?_
  refine thn (hb pins s1 σ H1 _ I1 q1) fun u s2 ⟨y, H2, I2, r2, q2⟩ => ?_
  exact hf v u s2 x y H2 I2 r1 r2 q2
theorem pe_op {op : Operator} {r : R2} (ho : OpR X (binaryOp op) r) (ha : PE X a ta) (hb : PE X b tb) : PE X (.BinOp a op b pos) (tOp r ta tb) := by
  intro pins s σ H Q I h
  exact wpAny_BinOp (binT ha hb I h fun v u s2 x y H2 I2 rx ry q => ho pins s2 σ H2 x y v u Q I2 rx ry q)
theorem pe_un {op : UnaryOp} {r : V → Hp → VK → Prop} (ho : UnR X (unaryOp op) r) (ha : PE X a ta) : PE X (.UnaryOp op a pos) (tUn r ta) := by
  intro pins s σ H Q I h
  exact UnaryOp_ (thn (ha pins s σ H _ I h) fun v s1 ⟨x, H1, I1, r1, q1⟩ => ho pins s1 σ H1 x v Q I1 r1 q1)
theorem opI {f : Value → Value → Sem Value} {C : Int → Int → Prop} {g : Int → Int → Int}
    (rule : ∀ (i j : Int) (t u : Tok) (s : Shared) (Q : Value → Shared → Prop) (E : Value → Shared → Prop), C i j → Q (.int (g i j) s.toks) { s with toks := s.toks + 1 } → wpAny (model X.prog X.w) X.A (f (.int i t) (.int j u)) Q E s) :
    OpR X f (rI C fun i j => .int (g i j)) := by
  intro pins s σ H x y v u Q I rx ry h
  obtain ⟨i, j, rfl, rfl, hc, q⟩ := h
  obtain ⟨t, rfl⟩ := rx
  obtain ⟨t', rfl⟩ := ry
  exact rule i j t t' s _ _ hc ⟨.int (g i j), H, I.tok _, ⟨_, rfl⟩, q⟩
theorem opI0 {f : Value → Value → Sem Value} {g : Int → Int → Int}
    (rule : ∀ (i j : Int) (t u : Tok) (s : Shared) (Q : Value → Shared → Prop) (E : Value → Shared → Prop), Q (.int (g i j) s.toks) { s with toks := s.toks + 1 } → wpAny (model X.prog X.w) X.A (f (.int i t) (.int j u)) Q E s) :
    OpR X f (rI0 fun i j => .int (g i j)) := by
  intro pins s σ H x y v u Q I rx ry h
  obtain ⟨i, j, rfl, rfl, q⟩ := h
  obtain ⟨t, rfl⟩ := rx
  obtain ⟨t', rfl⟩ := ry
  exact rule i j t t' s _ _ ⟨.int (g i j), H, I.tok _, ⟨_, rfl⟩, q⟩
theorem opB0 {f : Value → Value → Sem Value} {g : Int → Int → Bool}
    (rule : ∀ (i j : Int) (t u : Tok) (s : Shared) (Q : Value → Shared → Prop) (E : Value → Shared → Prop), Q (.bool (g i j)) s → wpAny (model X.prog X.w) X.A (f (.int i t) (.int j u)) Q E s) :
    OpR X f (rI0 fun i j => .bl (g i j)) := by
  intro pins s σ H x y v u Q I rx ry h
  obtain ⟨i, j, rfl, rfl, q⟩ := h
  obtain ⟨t, rfl⟩ := rx
  obtain ⟨t', rfl⟩ := ry
  exact rule i j t t' s _ _ ⟨.bl (g i j), H, I, rfl, q⟩
def CDiv (i j : Int) : Prop := 0 < j ∧ j < 1073741824
def CPow (i j : Int) : Prop := 0 ≤ j ∧ j ≤ 1000000 ∧ i.natAbs < 2 ^ 64
def CMul (i j : Int) : Prop := (-(2 ^ 64) < i ∧ i < 2 ^ 64) ∨ (-(2 ^ 64) < j ∧ j < 2 ^ 64)
theorem CMul.ok {i j : Int} (h : CMul i j) : IntMulOk i j := by
  rcases h with ⟨h1, h2⟩ | ⟨h1, h2⟩
  · exact .of_left (intBits_le_64 h1 h2)
  · exact .of_right (intBits_le_64 h1 h2)
theorem two_pow_nn (k : Nat) : (0 : Int) ≤ 2 ^ k := by
  rw [two_pow_cast]
  exact Int.natCast_nonneg _
theorem op_add : OpR X (binaryOp .Add) (rI0 fun i j => .int (i + j)) := opI0 fun _ _ _ _ _ _ _ q => add_int q
theorem op_sub : OpR X (binaryOp .Sub) (rI0 fun i j => .int (i - j)) := opI0 fun _ _ _ _ _ _ _ q => sub_int q
theorem op_mul : OpR X (binaryOp .Mult) (rI CMul fun i j => .int (i * j)) := opI fun _ _ _ _ _ _ _ hc q => mul_int q hc.ok
/-- // by a positive divisor -/
theorem op_fdiv : OpR X (binaryOp .FloorDiv) (rI CDiv fun i j => .int (i / j)) := opI fun i j _ _ _ _ _ hc q => by
  have h1 : (0 : Int) < j := hc.1
  have h2 : j < 1073741824 := hc.2
  exact floordiv_int (by omega) (by rw [Int.fdiv_eq_ediv_of_nonneg i (by omega)]; exact q) (.inl (PyProof.noPylong_small (by omega)))
/-- % by a positive divisor of any size -/
theorem op_mod : OpR X (binaryOp .Mod) (rI (fun _ j => 0 < j) fun i j => .int (i % j)) := opI fun i j _ _ _ _ _ hc q => by
  have h1 : (0 : Int) < j := hc
  exact mod_int' (by omega) (by rw [Int.fmod_eq_emod_of_nonneg i (by omega)]; exact q)
theorem op_pow : OpR X (binaryOp .Pow) (rI CPow fun i j => .int (i ^ j.toNat)) := opI fun _ _ _ _ _ _ _ hc q => pow_int_small hc.1 hc.2.1 hc.2.2 q
theorem op_shl : OpR X (binaryOp .LShift) (rI CPow fun i j => .int (i * 2 ^ j.toNat)) := opI fun _ _ _ _ _ _ _ hc q => lshift_int_small hc.1 hc.2.1 hc.2.2 q
theorem op_shr : OpR X (binaryOp .RShift) (rI (fun _ j => 0 ≤ j) fun i j => .int (i / 2 ^ j.toNat)) := opI fun i j _ _ _ _ _ hc q =>
  rshift_int hc (by rw [Int.fdiv_eq_ediv_of_nonneg i (two_pow_nn _)]; exact q)
theorem op_and : OpR X (binaryOp .BitAnd) (rI0 fun i j => .int (Builtin.bitAnd i j)) := opI0 fun _ _ _ _ _ _ _ q => and_int q
theorem op_xor : OpR X (binaryOp .BitXor) (rI0 fun i j => .int (Builtin.bitXor i j)) := opI0 fun _ _ _ _ _ _ _ q => xor_int q
theorem unI {f : Value → Sem Value} {g : Int → Int}
    (rule : ∀ (i : Int) (t : Tok) (s : Shared) (Q : Value → Shared → Prop) (E : Value → Shared → Prop), Q (.int (g i) s.toks) { s with toks := s.toks + 1 } → wpAny (model X.prog X.w) X.A (f (.int i t)) Q E s) :
    UnR X f (rU fun i => .int (g i)) := by
  intro pins s σ H x v Q I rx h
  obtain ⟨i, rfl, q⟩ := h
  obtain ⟨t, rfl⟩ := rx
  exact rule i t s _ _ ⟨.int (g i), H, I.tok _, ⟨_, rfl⟩, q⟩
theorem un_neg : UnR X (unaryOp .USub) (rU fun i => .int (-i)) := unI fun _ _ _ _ _ q => neg_int q
end
/-- the scalars that == tells apart as data does -/
def scal : V → V → Bool
  | .non, .non => true | .non, .int _ => true | .int _, .non => true | .non, .bl _ => true | .bl _, .non => true | .non, .str _ => true | .str _, .non => true
  | .int _, .int _ => true | .bl _, .bl _ => true | .str _, .str _ => true | .byt _, .byt _ => true
  | .int _, .str _ => true | .str _, .int _ => true | .bl _, .str _ => true | .str _, .bl _ => true
  | _, _ => false
def rEq : R2 := fun x y H Q => scal x y = true ∧ Q (.bl (decide (x = y))) H
def rNe : R2 := fun x y H Q => scal x y = true ∧ Q (.bl (!decide (x = y))) H
theorem dec_int {i j : Int} : decide (V.int i = V.int j) = (i == j) := by
  rw [Bool.eq_iff_iff]
  simp
theorem dec_bl {i j : Bool} : decide (V.bl i = V.bl j) = (i == j) := by
  rw [Bool.eq_iff_iff]
  simp
theorem dec_str {i j : Str} : decide (V.str i = V.str j) = (i == j) := by
  rw [Bool.eq_iff_iff]
  simp
theorem dec_byt {i j : Array UInt8} : decide (V.byt i = V.byt j) = (i.toList == j.toList) := by
  rw [Bool.eq_iff_iff]
  cases i
  cases j
  simp
section
variable {X : Cx} {a b c : Expr} {ta tb tc : TE} {pos : Pos}
theorem fin_bl {pins : List (Addr × Obj)} {σ : St} {H : Hp} {s : Shared} {Q : VK} {k k' : Bool} (I : Inv X pins σ H s) (q : Q (.bl k) H) (e : k = k') : EP X pins σ Q (.bool k') s := by
  subst e
  exact ⟨.bl k, H, I, rfl, q⟩
theorem op_eq : OpR X (compareOp .Eq) rEq := by
  intro pins s σ H x y v u Q I rx ry h
  obtain ⟨hs, q⟩ := h
  cases x with
  | non =>
    cases rx
    cases y with
    | non => cases ry; exact PySem.EqNone.eq_none_none (fin_bl I q (by simp))
    | bl j => cases ry; exact PySem.EqNone.eq_none_bool (fin_bl I q (by simp))
    | int j => obtain ⟨t', rfl⟩ := ry; exact PySem.EqNone.eq_none_int (fin_bl I q (by simp))
    | str j => obtain ⟨t', rfl⟩ := ry; exact PySem.EqNone.eq_none_str (fin_bl I q (by simp))
    | _ => exact absurd (show false = true from hs) Bool.false_ne_true
  | bl i =>
    cases rx
    cases y with
    | non => cases ry; exact PySem.EqNone.eq_bool_none (fin_bl I q (by simp))
    | bl j => cases ry; exact eq_bool (fin_bl I q dec_bl)
    | str j => obtain ⟨t', rfl⟩ := ry; exact PySem.EqMixed.eq_bool_str (fin_bl I q (by simp))
    | _ => exact absurd (show false = true from hs) Bool.false_ne_true
  | int i =>
    obtain ⟨t, rfl⟩ := rx
    cases y with
    | non => cases ry; exact PySem.EqNone.eq_int_none (fin_bl I q (by simp))
    | int j => obtain ⟨t', rfl⟩ := ry; exact eq_int (fin_bl I q dec_int)
    | str j => obtain ⟨t', rfl⟩ := ry; exact PySem.EqMixed.eq_int_str (fin_bl I q (by simp))
    | _ => exact absurd (show false = true from hs) Bool.false_ne_true
  | str i =>
    obtain ⟨t, rfl⟩ := rx
    cases y with
    | non => cases ry; exact PySem.EqNone.eq_str_none (fin_bl I q (by simp))
    | bl j => cases ry; exact PySem.EqMixed.eq_str_bool (fin_bl I q (by simp))
    | int j => obtain ⟨t', rfl⟩ := ry; exact PySem.EqMixed.eq_str_int (fin_bl I q (by simp))
    | str j => obtain ⟨t', rfl⟩ := ry; exact eq_str (fin_bl I q dec_str)
    | _ => exact absurd (show false = true from hs) Bool.false_ne_true
  | byt i =>
    obtain ⟨t, rfl⟩ := rx
    cases y with
    | byt j => obtain ⟨t', rfl⟩ := ry; exact PySem.W.eq_bytes (fin_bl I q dec_byt)
    | _ => exact absurd (show false = true from hs) Bool.false_ne_true
  | _ => cases y <;> exact absurd (show false = true from hs) Bool.false_ne_true
theorem op_ne : OpR X (compareOp .NotEq) rNe := by
  intro pins s σ H x y v u Q I rx ry h
  obtain ⟨hs, q⟩ := h
  cases x with
  | non =>
    cases rx
    cases y with
    | non => cases ry; exact PySem.EqNone.ne_none_none (fin_bl I q (by simp))
    | bl j => cases ry; exact PySem.EqNone.ne_none_bool (fin_bl I q (by simp))
    | int j => obtain ⟨t', rfl⟩ := ry; exact PySem.EqNone.ne_none_int (fin_bl I q (by simp))
    | str j => obtain ⟨t', rfl⟩ := ry; exact PySem.EqNone.ne_none_str (fin_bl I q (by simp))
    | _ => exact absurd (show false = true from hs) Bool.false_ne_true
  | bl i =>
    cases rx
    cases y with
    | non => cases ry; exact PySem.EqNone.ne_bool_none (fin_bl I q (by simp))
    | bl j => cases ry; exact ne_bool (fin_bl I q (congrArg not dec_bl))
    | str j => obtain ⟨t', rfl⟩ := ry; exact PySem.EqMixed.ne_bool_str (fin_bl I q (by simp))
    | _ => exact absurd (show false = true from hs) Bool.false_ne_true
  | int i =>
    obtain ⟨t, rfl⟩ := rx
    cases y with
    | non => cases ry; exact PySem.EqNone.ne_int_none (fin_bl I q (by simp))
    | int j => obtain ⟨t', rfl⟩ := ry; exact ne_int (fin_bl I q (congrArg not dec_int))
    | str j => obtain ⟨t', rfl⟩ := ry; exact PySem.EqMixed.ne_int_str (fin_bl I q (by simp))
    | _ => exact absurd (show false = true from hs) Bool.false_ne_true
  | str i =>
    obtain ⟨t, rfl⟩ := rx
    cases y with
    | non => cases ry; exact PySem.EqNone.ne_str_none (fin_bl I q (by simp))
    | bl j => cases ry; exact PySem.EqMixed.ne_str_bool (fin_bl I q (by simp))
    | int j => obtain ⟨t', rfl⟩ := ry; exact PySem.EqMixed.ne_str_int (fin_bl I q (by simp))
    | str j => obtain ⟨t', rfl⟩ := ry; exact ne_str (fin_bl I q (congrArg not dec_str))
    | _ => exact absurd (show false = true from hs) Bool.false_ne_true
  | byt i =>
    obtain ⟨t, rfl⟩ := rx
    cases y with
    | byt j => obtain ⟨t', rfl⟩ := ry; exact PySem.W.ne_bytes (fin_bl I q (congrArg not dec_byt))
    | _ => exact absurd (show false = true from hs) Bool.false_ne_true
  | _ => cases y <;> exact absurd (show false = true from hs) Bool.false_ne_true
theorem op_lt : OpR X (compareOp .Lt) (rI0 fun i j => .bl (decide (i < j))) := opB0 fun _ _ _ _ _ _ _ q => lt_int q
theorem op_le : OpR X (compareOp .LtE) (rI0 fun i j => .bl (decide (i ≤ j))) := opB0 fun _ _ _ _ _ _ _ q => le_int q
theorem op_gt : OpR X (compareOp .Gt) (rI0 fun i j => .bl (decide (j < i))) := opB0 fun _ _ _ _ _ _ _ q => gt_int q
theorem op_ge : OpR X (compareOp .GtE) (rI0 fun i j => .bl (decide (j ≤ i))) := opB0 fun _ _ _ _ _ _ _ q => ge_int q
/-- two rules for one operation: by cases -/
theorem OpR.or {f : Value → Value → Sem Value} {r r' : R2} (h : OpR X f r) (h' : OpR X f r') : OpR X f (fun x y H Q => r x y H Q ∨ r' x y H Q) := by
  intro pins s σ H x y v u Q I rx ry q
  rcases q with q | q
  · exact h pins s σ H x y v u Q I rx ry q
  · exact h' pins s σ H x y v u Q I rx ry q
theorem nomark (b : Expr) {op : CmpOp} (h : op ≠ .In := by decide) (h2 : op ≠ .NotIn := by decide) : behindInMarks op b = false := by
  have e1 : (op == CmpOp.In) = false := by cases op <;> first | rfl | exact absurd rfl h
  have e2 : (op == CmpOp.NotIn) = false := by cases op <;> first | rfl | exact absurd rfl h2
  cases b <;> simp [behindInMarks, e1, e2]
/-- a comparison as a value; hm: nomark b, or (for in, not in) by with_unfolding_all rfl -/
theorem pe_cmpR {op : CmpOp} {r : R2} (ho : OpR X (compareOp op) r) (ha : PE X a ta) (hb : PE X b tb) (hm : behindInMarks op b = false) : PE X (.Compare a [op] [b] pos) (tOp r ta tb) := by
  intro pins s σ H Q I h
  exact wpAny_Compare1 (binT ha hb I h fun v u s2 x y H2 I2 rx ry q => ho pins s2 σ H2 x y v u Q I2 rx ry q) hm
/-- a reading of a value as a test -/
def tTest (t : TE) : TT := fun σ H Q => t σ H fun x H' => ∃ k, x = .bl k ∧ Q k H'
theorem pt_cmpR {op : CmpOp} {r : R2} (ho : OpR X (compareOp op) r) (ha : PE X a ta) (hb : PE X b tb) (hm : behindInMarks op b = false) : PT X (.Compare a [op] [b] pos) (tTest (tOp r ta tb)) := by
  intro pins s σ H Q I h
  refine wpAny_isTrue_Compare1 (thn (ha pins s σ H _ I h) fun v s1 ⟨x, H1, I1, r1, q1⟩ => thn (hb pins s1 σ H1 _ I1 q1) fun u s2 ⟨y, H2, I2, r2, q2⟩ =>
    thn (ho pins s2 σ H2 x y v u _ I2 r1 r2 q2) fun c s3 ⟨z, H3, I3, r3, k, e, q3⟩ => ?_) hm
  subst e
  cases r3
  exact wpAny_truthy_bool ⟨H3, I3, q3⟩
/-- a value's truth by the abstract heap -/
def TruV (K : PySem.W.Frag) (x : V) (H : Hp) (k : Bool) : Prop :=
  match x with
  | .non => k = false
  | .bl b => k = b
  | .int i => k = (i != 0)
  | .str y => y.length ≤ sizeLine ∧ k = ((y.length : Int) != 0)
  | .byt y => y.size ≤ sizeLine ∧ k = ((y.size : Int) != 0)
  | .ref p => (∃ xs, SqL K H p xs ∧ k = !xs.isEmpty) ∨ (∃ xs, SqT K H p xs ∧ k = !xs.isEmpty) ∨ ∃ kvs, H p = some (.dK kvs) ∧ k = !kvs.isEmpty
  | _ => False
theorem isEmpty_kv {κ : Type} {kvs : List (κ × V)} {vs : List (κ × Value)} (r : KV kvs vs) : (!vs.isEmpty) = !kvs.isEmpty := by
  cases r <;> rfl
theorem isEmpty_of {xs : List V} {its : List Value} (r : Vals xs its) : (!its.toArray.isEmpty) = !xs.isEmpty := by
  cases r <;> simp
theorem line63 : (sizeLine : Nat) < 2 ^ 63 := by rw [sizeLine_eq]; decide
theorem tru_ok : TruR X (fun x H Q => ∃ k, TruV X.K x H k ∧ Q k H) := by
  intro pins s σ H x v Q I rx h
  obtain ⟨k, e, q⟩ := h
  have hl := line63
  have hs : sizeLine = 16777216 := sizeLine_eq
  cases x with
  | non =>
    cases rx
    have e' : k = false := e
    subst e'
    exact truthy_none ⟨H, I, q⟩
  | bl b =>
    cases rx
    have e' : k = b := e
    subst e'
    exact wpAny_truthy_bool ⟨H, I, q⟩
  | int i =>
    obtain ⟨t, rfl⟩ := rx
    have e' : k = (i != 0) := e
    subst e'
    exact PySem.P.truthy_int ⟨H, I, q⟩
  | str y =>
    obtain ⟨t, rfl⟩ := rx
    obtain ⟨hy, e'⟩ : y.length ≤ sizeLine ∧ k = ((y.length : Int) != 0) := e
    subst e'
    exact PySem.P.truthy_str (by omega) ⟨H, I.tok _, q⟩
  | byt y =>
    obtain ⟨t, rfl⟩ := rx
    obtain ⟨hy, e'⟩ : y.size ≤ sizeLine ∧ k = ((y.size : Int) != 0) := e
    subst e'
    exact PySem.W.truthy_bytes (by omega) ⟨H, I.tok _, q⟩
  | ref p =>
    cases rx
    have e' : (∃ xs, SqL X.K H p xs ∧ k = !xs.isEmpty) ∨ (∃ xs, SqT X.K H p xs ∧ k = !xs.isEmpty) ∨ ∃ kvs, H p = some (.dK kvs) ∧ k = !kvs.isEmpty := e
    rcases e' with ⟨xs, hx, e'⟩ | ⟨xs, hx, e'⟩ | ⟨kvs, hx, e'⟩
    · subst e'
      obtain ⟨its, r, pl, hz⟩ := I.list hx
      have hlen := r.length
      exact wpAny_truthy_list pl.isList (by simp only [List.size_toArray]; omega) ⟨H, I.tok _, by rw [isEmpty_of r]; exact q⟩
    · subst e'
      obtain ⟨its, r, pl, hz⟩ := I.tuple hx
      have hlen := r.length
      exact truthy_tuple pl (by simp only [List.size_toArray]; omega) ⟨H, I.tok _, by rw [isEmpty_of r]; exact q⟩
    · subst e'
      obtain ⟨hz, hS, vs, r, m⟩ : kvs.length ≤ sizeLine ∧ (p == sysModules) = false ∧ ∃ vs, KV kvs vs ∧ s.heap.DictOf (mixKind X.prog X.w) p vs := I.hok p _ hx
      have hlen : kvs.length = vs.length := Paired.length r
      exact wpAny_truthy_dict hS m (by omega) ⟨H, I.tok _, by rw [isEmpty_kv r]; exact q⟩
  | _ => exact (show False from e).elim
/-- any expression whose test is its value's truth (a name, a call, a subscript, a field ..: he by fun _ => rfl) -/
theorem pt_truth (ha : PE X a ta) (he : ∀ whole, isTrue a X.env whole = (do let v ← whole; standAt a.pos; holding [v] (truthy v))) :
    PT X a (fun σ H Q => ta σ H fun x H' => ∃ k, TruV X.K x H' k ∧ Q k H') := by
  intro pins s σ H Q I h
  exact isTrue_plain (thn (ha pins s σ H _ I h) fun v s1 ⟨x, H1, I1, r1, q1⟩ => tru_ok pins s1 σ H1 x v Q I1 r1 q1) (he _)
theorem op_add_str : OpR X (binaryOp .Add) (fun x y H Q => ∃ i j, x = .str i ∧ y = .str j ∧ i.length + j.length ≤ sizeLine ∧ Q (.str (i ++ j)) H) := by
  intro pins s σ H x y v u Q I rx ry h
  obtain ⟨i, j, rfl, rfl, hz, q⟩ := h
  obtain ⟨t, rfl⟩ := rx
  obtain ⟨t', rfl⟩ := ry
  exact add_str (fun t' tk => ⟨.str (i ++ j), H, I.tok _, ⟨_, rfl⟩, q⟩) hz
theorem vals1 {x : V} {us : List Value} (r : Vals [x] us) : ∃ u, us = [u] ∧ RelV x u := by
  cases r with
  | cons r1 r2 => cases r2; exact ⟨_, rfl, r1⟩
theorem vals2 {x y : V} {us : List Value} (r : Vals [x, y] us) : ∃ u w', us = [u, w'] ∧ RelV x u ∧ RelV y w' := by
  cases r with
  | cons r1 r2 =>
    cases r2 with
    | cons r3 r4 => cases r4; exact ⟨_, _, rfl, r1, r3⟩
theorem call_max2 (hc : X.calm = true) : CallR X (.builtin "max") (fun xs H Q => ∃ i j, xs = [.int i, .int j] ∧ Q (.int (if j > i then j else i)) H) := by
  intro pins s σ H xs us Q I r h
  obtain ⟨i, j, rfl, q⟩ := h
  obtain ⟨u, w', rfl, ⟨t, rfl⟩, ⟨t', rfl⟩⟩ := vals2 r
  refine max_two_ints (I.ok.hd hc) fun h' tk k => ⟨_, H, I.kept k, ?_, q⟩
  by_cases hj : j > i
  · rw [if_pos hj, if_pos hj]; exact ⟨_, rfl⟩
  · rw [if_neg hj, if_neg hj]; exact ⟨_, rfl⟩
theorem call_min2 (hc : X.calm = true) : CallR X (.builtin "min") (fun xs H Q => ∃ i j, xs = [.int i, .int j] ∧ Q (.int (if j < i then j else i)) H) := by
  intro pins s σ H xs us Q I r h
  obtain ⟨i, j, rfl, q⟩ := h
  obtain ⟨u, w', rfl, ⟨t, rfl⟩, ⟨t', rfl⟩⟩ := vals2 r
  refine min_two_ints (I.ok.hd hc) fun h' tk k => ⟨_, H, I.kept k, ?_, q⟩
  by_cases hj : j < i
  · rw [if_pos hj, if_pos hj]; exact ⟨_, rfl⟩
  · rw [if_neg hj, if_neg hj]; exact ⟨_, rfl⟩
end
end L2
namespace L2
open PySem PySem.Spec PyProof.Rows
structure ObjM (h : Heap) (x dx C : Addr) (mA : Str → Option Value) : Prop where
  obj : h.get? x = some (PySem.W.instObj C dx)
  ns : h.Ns1 dx mA
  ne : dx ≠ x
theorem lookIn_ns {h : Heap} {dx : Addr} {mA : Str → Option Value} (n : h.Ns1 dx mA) : ∃ od, h.get? dx = some od ∧ ∀ name, PySem.W.lookIn name od = some (mA name) := by
  obtain ⟨o, es, ep, ho, hd, hk, _, hm⟩ := n
  refine ⟨o, ho, fun name => ?_⟩
  have e := hm name
  unfold nsFind findBy at e
  rw [← Array.find?_toList] at e
  unfold PySem.W.lookIn
  rw [hd]
  dsimp only
  split
  · rename_i y q
    rw [q] at e
    exact congrArg some e
  · rename_i q
    rw [q] at e
    have a : es.toList.any (·.refKey) = false := by
      rw [List.any_eq_false]
      intro y hy
      obtain ⟨z, t, hkey⟩ := hk y (Array.mem_toList_iff.mp hy)
      simp [DictEntry.refKey, hkey]
    have a' : ¬ es.toList.any (·.refKey) = true := by rw [a]; exact Bool.false_ne_true
    rw [if_neg a']
    exact congrArg some e
theorem ObjM.look {h : Heap} {x dx C : Addr} {mA : Str → Option Value} (I : ObjM h x dx C mA) : ∃ od, PySem.W.InstAt h x (PySem.W.instObj C dx) C (some od) ∧ ∀ name, PySem.W.lookIn name od = some (mA name) :=
  let ⟨od, ho, hl⟩ := lookIn_ns I.ns
  ⟨od, ⟨I.obj, rfl, rfl, ho⟩, hl⟩
section
variable {prog : Program} {w : World} {A : Around} {E : Value → Shared → Prop} {s : Shared} {K : PySem.W.Frag} {x dx C f : Addr} {mA : Str → Option Value} {name : Str} {v : Value}
theorem get_map {expr : Bool} {Q : Value → Shared → Prop} (X : K.In s.heap) (I : ObjM s.heap x dx C mA) (hg : PySem.W.plainGet K C name = true) (hh : PySem.W.hasDictIn K C = true)
    (ha : PySem.W.findIn K (.ref C) name = some none) (hv : mA name = some v) (hv' : PySem.W.handedIn v = true) (h : Q v { s with toks := s.toks + 1 }) :
    wpAny (model prog w) A (getAttr (.ref x) name expr) Q E s := by
  obtain ⟨od, J, hl⟩ := I.look
  exact PySem.W.get_value X J (PySem.W.plainGet_of hg).1 (PySem.W.findObj_own hh ha rfl (by rw [hl, hv])) hv' h
theorem get_meth {pl : Sem Bool} {Q : Value × List Value → Shared → Prop} (X : K.In s.heap) (I : ObjM s.heap x dx C mA) (hg : PySem.W.plainGet K C name = true)
    (hf : PySem.W.findIn K (.ref C) name = some (some (.ref f))) (ht : PySem.W.isFn K (.ref f) = true) (hv : mA name = none) (h : Q (.ref f, [.ref x]) s) :
    wpAny (model prog w) A (getMethod (.ref x) name pl) Q E s := by
  obtain ⟨od, J, hl⟩ := I.look
  exact PySem.W.method_fn X J (PySem.W.plainGet_of hg).1 (PySem.W.plainGet_of hg).2 hf (beq_iff_eq.mp ht) (by show (PySem.W.lookIn name od).map (·.isSome) = some false; rw [hl, hv]; rfl) h
theorem set_map {ns : List Str} {Q : Unit → Shared → Prop} (X : K.In s.heap) (I : ObjM s.heap x dx C mA)
    (hs : PySem.W.findIn K (.ref C) "__setattr__" = some (some (.builtin "object.__setattr__"))) (hp : PySem.W.plainOver K C = true) (ht : PySem.W.takerIn K C name = some none) (hh : PySem.W.hasDictIn K C = true)
    (hw : PySem.Within mA ns) (hsz : ns.length ≤ sizeLine)
    (h : ∀ h', ObjM h' x dx C (fun y => if y = name then some v else mA y) → Heap.SameBut dx s.heap h' → Q () { s with heap := h', toks := s.toks + 2 }) :
    wpAny (model prog w) A (setAttr (.ref x) name v) Q E s := by
  obtain ⟨od, J, hl⟩ := I.look
  refine PySem.W.set_plain X J hs (PySem.W.osa_open (s := { s with toks := s.toks + 1 }) (r := none) X J hp ht fun b => ?_)
  obtain ⟨cd, hc, hd'⟩ := PySem.W.any_some hh
  have hx : s.heap.get? x = some ⟨.ref C, some dx, .plain, #[]⟩ := I.obj
  refine wpAny_bind (wpAny_pure (wpAny_bind (wpAny_bind (wpAny_loadPart hx (wpAny_bind (PySem.W.Looks.here (s := { s with toks := s.toks + 1 }) (PySem.W.looks_clsIn X hc) ?_))))))
  rw [hd']
  refine wpAny_pure (a := some dx) (wpAny_bind (wpAny_pure (wpAny_bind ?_)))
  refine wpAny_nsSet1 (s := { s with toks := s.toks + 1 }) I.ns fun h' hn2 hs2 => ?_
  obtain ⟨oD, esD, epD, hoD, hdD, hcD⟩ := hn2.count (PySem.Within.cons name v hw)
  refine wpAny_bind (wpAny_lookBehind hoD (by rw [hdD]; exact pastItsLine_dict (Nat.le_trans hcD (by rw [List.length_cons]; omega))) ?_)
  exact wpAny_pure (h _ ⟨(hs2.2 _ (Ne.symm I.ne)).trans I.obj, hn2, I.ne⟩ hs2)
/-- C(..): the dict at the heap's end, the instance behind it; then its __init__ -/
theorem make_map {R : Result → Shared → Prop} {vs : List Value} {kw : List (Str × Value)} (X : K.In s.heap) (hm : PySem.W.makesIn K C = true)
    (hi : PySem.W.findIn K (.ref C) "__init__" = some (some (.ref f))) (hf : PySem.W.typeIn K (.ref f) = some (.type "function"))
    (h : codeAny (model prog w) (A.under (.builtin "type.__call__" ⟨.ref C :: vs, kw⟩)) (.call (.ref f) ⟨.ref (s.heap.objs.size + 1) :: vs, kw⟩) (PySem.W.InitBack (s.heap.objs.size + 1) R)
      { s with heap := (s.heap.push PySem.W.emptyDict).push (PySem.W.instObj C s.heap.objs.size) }) :
    codeAny (model prog w) A (.call (.ref C) ⟨vs, kw⟩) R s := by
  obtain ⟨hh, g, d, t, os⟩ := s
  exact PySem.W.make_core (PySem.W.makes_of X hm) (PySem.W.looks_findIn X hi) (fun self => PySem.W.bind_fn X self hf) (.inl rfl) h
end
def putF (f : Str) (v : V) : List (Str × V) → List (Str × V)
  | [] => [(f, v)]
  | (g, x) :: r => if g = f then (g, v) :: r else (g, x) :: putF f v r
theorem lookup_putF (f g : Str) (v : V) : ∀ fs : List (Str × V), (putF f v fs).lookup g = if g = f then some v else fs.lookup g
  | [] => by
    show List.lookup g [(f, v)] = _
    by_cases h : g = f
    · have hb : (g == f) = true := beq_iff_eq.mpr h
      simp only [List.lookup, hb, if_pos h]
    · have hb : (g == f) = false := beq_eq_false_iff_ne.mpr h
      simp only [List.lookup, hb, if_neg h]
  | (k, x) :: r => by
    have ih := lookup_putF f g v r
    rw [show putF f v ((k, x) :: r) = (if k = f then (k, v) :: r else (k, x) :: putF f v r) from rfl]
    by_cases hk : k = f
    · rw [if_pos hk]
      by_cases h : g = k
      · have hb : (g == k) = true := beq_iff_eq.mpr h
        simp only [List.lookup, hb, if_pos (h.trans hk)]
      · have hb : (g == k) = false := beq_eq_false_iff_ne.mpr h
        simp only [List.lookup, hb, if_neg (fun e : g = f => h (e.trans hk.symm))]
    · rw [if_neg hk]
      by_cases h : g = k
      · have hb : (g == k) = true := beq_iff_eq.mpr h
        simp only [List.lookup, hb, if_neg (fun e : g = f => hk (h.symm.trans e))]
      · have hb : (g == k) = false := beq_eq_false_iff_ne.mpr h
        simp only [List.lookup, hb]
        exact ih
theorem keys_putF (f : Str) (v : V) : ∀ fs : List (Str × V), f ∈ (putF f v fs).map (·.1) ∧ ∀ g, g ∈ fs.map (·.1) → g ∈ (putF f v fs).map (·.1)
  | [] => ⟨by simp [putF], fun g h => by simp at h⟩
  | (k, x) :: r => by
    obtain ⟨i1, i2⟩ := keys_putF f v r
    rw [show putF f v ((k, x) :: r) = (if k = f then (k, v) :: r else (k, x) :: putF f v r) from rfl]
    by_cases hk : k = f
    · rw [if_pos hk]
      subst hk
      exact ⟨by simp, fun g h => by simpa using h⟩
    · rw [if_neg hk]
      refine ⟨?_, fun g h => ?_⟩
      · rw [List.map_cons]
        exact List.mem_cons_of_mem _ i1
      · rw [List.map_cons] at h ⊢
        rcases List.mem_cons.mp h with e | e
        · exact List.mem_cons.mpr (.inl e)
        · exact List.mem_cons_of_mem _ (i2 g e)
theorem length_putF (f : Str) (v : V) : ∀ fs : List (Str × V), (putF f v fs).length ≤ fs.length + 1
  | [] => by simp [putF]
  | (k, x) :: r => by
    have ih := length_putF f v r
    rw [show putF f v ((k, x) :: r) = (if k = f then (k, v) :: r else (k, x) :: putF f v r) from rfl]
    by_cases hk : k = f
    · rw [if_pos hk, List.length_cons, List.length_cons]; omega
    · rw [if_neg hk, List.length_cons, List.length_cons]; omega
theorem RelO.some_of {v : V} {o : Option Value} (r : RelO (some v) o) : ∃ u, o = some u ∧ RelV v u := by
  cases o with
  | none => exact (show False from r).elim
  | some u => exact ⟨u, rfl, r⟩
theorem RelO.none_of {o : Option Value} (r : RelO none o) : o = none := by
  cases o with
  | none => rfl
  | some u => exact (show False from r).elim
theorem handed_of {v : V} {u : Value} (r : RelV v u) : PySem.W.handedIn u = true := by
  cases v with
  | non => cases (show u = Value.none from r); rfl
  | bl b => cases (show u = Value.bool b from r); rfl
  | int i => obtain ⟨t, e⟩ := (show ∃ t, u = Value.int i t from r); cases e; rfl
  | str x => obtain ⟨t, e⟩ := (show ∃ t, u = Value.str x t from r); cases e; rfl
  | byt b => obtain ⟨t, e⟩ := (show ∃ t, u = Value.bytes b t from r); cases e; rfl
  | flt b => obtain ⟨t, e⟩ := (show ∃ t, u = Value.float b t from r); cases e; rfl
  | ref a => cases (show u = Value.ref a from r); rfl
  | ty n => cases (show u = Value.type n from r); rfl
section
variable {P : Program} {w : World} {H H' : Hp} {h h' : Heap} {a C dx : Addr} {fs fs' : List (Str × V)}
theorem ins_get (hok : HOk P w H h) (e : H a = some (.ins C dx fs)) : ∃ mA, ObjM h a dx C mA ∧ (∀ f, RelO (fs.lookup f) (mA f)) ∧ PySem.Within mA (fs.map (·.1)) ∧ fs.length ≤ 1000 ∧ H dx = some (.own a) := by
  obtain ⟨d, z, ne, ob, mA, n, r, q⟩ := (show ObjOk P w H h a (.ins C dx fs) from hok a _ e)
  exact ⟨mA, ⟨ob, n, ne⟩, r, q, z, d⟩
end
structure Cls (K : PySem.W.Frag) (C : Addr) : Prop where
  pg : PySem.W.plainGet K C Str.empty = true
  hd : PySem.W.hasDictIn K C = true
  po : PySem.W.plainOver K C = true
  sa : PySem.W.findIn K (.ref C) "__setattr__" = some (some (.builtin "object.__setattr__"))
theorem Cls.get {K : PySem.W.Frag} {C : Addr} (c : Cls K C) (f : Str) : PySem.W.plainGet K C f = true := c.pg
/-- no class of it has the name -/
def NoAttr (K : PySem.W.Frag) (C : Addr) (f : Str) : Prop := PySem.W.findIn K (.ref C) f = some none
theorem NoAttr.taker {K : PySem.W.Frag} {C : Addr} {f : Str} (n : NoAttr K C f) : PySem.W.takerIn K C f = some none := by
  unfold PySem.W.takerIn
  rw [show PySem.W.findIn K (.ref C) f = some none from n]
  rfl
/-- a constant of the class -/
structure Con (K : PySem.W.Frag) (C : Addr) (f : Str) (v : V) (u : Value) : Prop where
  at_ : PySem.W.findIn K (.ref C) f = some (some u)
  rel : RelV v u
  get : PySem.W.specialIn K u "__get__" = some none
  cp : PySem.W.copiedNames.contains f = false
/-- a method: a plain def of the class or of one above it -/
structure Meth (K : PySem.W.Frag) (C : Addr) (m : Str) (f : Addr) : Prop where
  at_ : PySem.W.findIn K (.ref C) m = some (some (.ref f))
  fn : PySem.W.isFn K (.ref f) = true
  kp : PySem.W.keepIn K (.ref f) = true
section
variable {X : Cx} {pins : List (Addr × Obj)} {σ : St} {H : Hp} {s : Shared} {a C dx : Addr} {fs : List (Str × V)} {f : Str} {v : V} {A : Around} {E : Value → Shared → Prop}
theorem getattr_ok {b : Bool} {Q : Value → Shared → Prop} (I : Inv X pins σ H s) (e : H a = some (.ins C dx fs)) (c : Cls X.K C) (n : NoAttr X.K C f) (l : fs.lookup f = some v)
    (h : ∀ u s', Inv X pins σ H s' → RelV v u → Q u s') : wpAny (model X.prog X.w) A (getAttr (.ref a) f b) Q E s := by
  obtain ⟨mA, O, r, _, _, _⟩ := ins_get I.hok e
  obtain ⟨u, hu, ru⟩ := RelO.some_of (v := v) (o := mA f) (by rw [← l]; exact r f)
  exact get_map I.kIn O (c.get f) c.hd n hu (handed_of ru) (h u _ (I.tok _) ru)
theorem getmeth_ok {m : Str} {g : Addr} {pl : Sem Bool} {Q : Value × List Value → Shared → Prop} (I : Inv X pins σ H s) (e : H a = some (.ins C dx fs)) (c : Cls X.K C) (k : Meth X.K C m g) (l : fs.lookup m = none)
    (h : Q (.ref g, [.ref a]) s) : wpAny (model X.prog X.w) A (getMethod (.ref a) m pl) Q E s := by
  obtain ⟨mA, O, r, _, _, _⟩ := ins_get I.hok e
  have hn : mA m = none := RelO.none_of (by rw [← l]; exact r m)
  exact get_meth I.kIn O (c.get m) k.at_ k.fn hn h
theorem setattr_ok {y : V} {u : Value} {Q : Unit → Shared → Prop} (I : Inv X pins σ H s) (e : H a = some (.ins C dx fs)) (c : Cls X.K C) (n : NoAttr X.K C f) (hl : fs.length < 1000) (ry : RelV y u)
    (h : ∀ s', Inv X pins σ (upd H a (.ins C dx (putF f y fs))) s' → Q () s') : wpAny (model X.prog X.w) A (setAttr (.ref a) f u) Q E s := by
  obtain ⟨mA, O, r, wi, _, ho⟩ := ins_get I.hok e
  have hz : (fs.map (·.1)).length ≤ sizeLine := by rw [List.length_map, sizeLine_eq]; omega
  refine set_map I.kIn O c.sa c.po n.taker c.hd wi hz fun h' O' sb => h _ ?_
  have hd : ∃ o, h'.get? dx = some o := let ⟨o, _, _, e', _⟩ := O'.ns; ⟨o, e'⟩
  refine I.write (x := a) (e := dx) (by rw [e]; exact True.intro) (.inr ho) (fun b q hb z => (sb.2 b hb).trans z) hd ?_
  refine ⟨by rw [upd_ne O.ne]; exact ho, ?_, O.ne, O'.obj, _, O'.ns, fun g => ?_, fun g hg => ?_⟩
  · have := length_putF f y fs; omega
  · show RelO ((putF f y fs).lookup g) (if g = f then some u else mA g)
    rw [lookup_putF]
    by_cases q : g = f
    · rw [if_pos q, if_pos q]; exact ry
    · rw [if_neg q, if_neg q]; exact r g
  · by_cases q : g = f
    · rw [q]; exact (keys_putF f y fs).1
    · refine (keys_putF f y fs).2 g (wi g fun z => hg ?_)
      show (if g = f then some u else mA g) = none
      rw [if_neg q]; exact z
/-- a new instance, tracked, without attributes -/
theorem Inv.made (I : Inv X pins σ H s) : Inv X pins σ (upd (upd H s.heap.objs.size (.own (s.heap.objs.size + 1))) (s.heap.objs.size + 1) (.ins C s.heap.objs.size []))
    { s with heap := (s.heap.push PySem.W.emptyDict).push (PySem.W.instObj C s.heap.objs.size) } := by
  have e1 : (s.heap.push PySem.W.emptyDict).get? s.heap.objs.size = some PySem.W.emptyDict := Heap.get?_push_size s.heap rfl
  have e2 : ((s.heap.push PySem.W.emptyDict).push (PySem.W.instObj C s.heap.objs.size)).get? (s.heap.objs.size + 1) = some (PySem.W.instObj C s.heap.objs.size) := by
    have := Heap.get?_push_size (s.heap.push PySem.W.emptyDict) (o := PySem.W.instObj C s.heap.objs.size) rfl
    rwa [Heap.size_push] at this
  have e3 : (s.heap.push PySem.W.emptyDict).Ns s.heap.objs.size (fun _ => none) := ⟨PySem.W.emptyDict, #[], _, e1, rfl, (fun e he => absurd he (by simp)), fun _ => rfl⟩
  have I1 := I.laid (a := s.heap.objs.size) (o := .own (s.heap.objs.size + 1)) (h' := s.heap.push PySem.W.emptyDict) (t' := s.toks) (fun b u q => Heap.get?_push_of_some _ q) (Nat.le_refl _) ⟨_, e1⟩
  refine I1.laid (a := s.heap.objs.size + 1) (o := .ins C s.heap.objs.size []) (t' := s.toks) (fun b u q => Heap.get?_push_of_some _ q) (Nat.le_of_eq (Heap.size_push _ _)) ?_
  have ne : s.heap.objs.size ≠ s.heap.objs.size + 1 := Nat.ne_of_lt (Nat.lt_succ_self _)
  refine ⟨by rw [upd_ne ne, upd_same], Nat.zero_le _, ne, e2, fun _ => none, (Heap.Ns1.of_empty e3).at fun o q => Heap.get?_push_of_some _ q, fun _ => True.intro, fun y hy => absurd rfl hy⟩
/-- e.f where nothing but the object is asked: through attributeBase (super) and the last hold -/
theorem attr_of {prog : Program} {w : World} {env : Env} {e : Expr} {f : Str} {pos : Pos} {s : Shared} {Q : Value → Shared → Prop} (hb : attributeBase e f env (eval e env) = eval e env)
    (h : wpAny (model prog w) A (eval e env) (fun o s₁ => wpAny (model prog w) A (getAttr o f true) Q E s₁) E s) : wpAny (model prog w) A (eval (.Attribute e f pos) env) Q E s :=
  Attribute_any_ h (by rw [arm_eval_Attribute, hb])
end
/-- e.f, an attribute of the instance -/
def tFld (K : PySem.W.Frag) (ta : TE) (f : Str) : TE := fun σ H Q => ta σ H fun x H1 => ∃ a C dx fs v, x = .ref a ∧ H1 a = some (.ins C dx fs) ∧ Cls K C ∧ NoAttr K C f ∧ fs.lookup f = some v ∧ Q v H1
/-- e.f = value -/
def sFld (K : PySem.W.Frag) (ta tv : TE) (f : Str) : TS := fun D σ H => tv σ H fun y H1 => ta σ H1 fun x H2 => ∃ a C dx fs, x = .ref a ∧ H2 a = some (.ins C dx fs) ∧ Cls K C ∧ NoAttr K C f ∧ fs.length < 1000 ∧
  D.nx σ (upd H2 a (.ins C dx (putF f y fs)))
section
variable {X : Cx} {o e value : Expr} {f : Str} {pos pos' tpos : Pos} {ta tv : TE}
theorem pe_fld (he : PE X e ta) (hb : attributeBase e f X.env (eval e X.env) = eval e X.env) : PE X (.Attribute e f pos) (tFld X.K ta f) := by
  intro pins s σ H Q I h
  refine attr_of hb (thn (he pins s σ H _ I h) fun u s1 ⟨x, H1, I1, rx, a, C, dx, fs, v, ex, ea, c, n, l, q⟩ => ?_)
  subst ex
  obtain rfl : u = Value.ref a := rx
  exact getattr_ok I1 ea c n l fun u' s2 I2 ru => ⟨v, H1, I2, ru, q⟩
theorem ps_fld (ha : PE X o ta) (hv : PE X value tv) (hs : swapsWith value (some (.Attribute o f pos')) pos.line X.env = pure false) : PS X (.Assign [.Attribute o f pos'] value pos) (sFld X.K ta tv f) := by
  intro pins s σ H D I h
  refine plainObj_wpAny_Assign_Attribute (thn (hv pins s σ H _ I h) fun u s1 ⟨y, H1, I1, ry, q⟩ => thn (ha pins s1 σ H1 _ I1 q) fun ov s2 ⟨x, H2, I2, rx, a, C, dx, fs, ex, ea, c, n, l, q2⟩ => ?_) hs
  subst ex
  obtain rfl : ov = Value.ref a := rx
  exact setattr_ok I2 ea c n l ry fun s3 I3 => ⟨σ, _, I3, q2⟩
/-- what is between an instance and its method: the tree of a method call -/
theorem methcall_of {pl : Sem Bool} {m : Str} {apos : Pos} {args : List Expr} {pins : List (Addr × Obj)} {s : Shared} {σ : St} {H : Hp} {Q : Value → Shared → Prop} {te : TE} (he : PE X e te) (I : Inv X pins σ H s)
    (h : te σ H fun x H1 => ∃ a C dx fs g, x = .ref a ∧ H1 a = some (.ins C dx fs) ∧ Cls X.K C ∧ Meth X.K C m g ∧ fs.lookup m = none ∧
      ∀ s1, Inv X pins σ H1 s1 → wpAny (model X.prog X.w) X.A (callWith pos (.ref g) [.ref a] (backTo pos (starEach args X.env)) (backToKw pos (keywordEach [] X.env))) Q X.xe s1)
    (ht : eval (.Call (.Attribute e m apos) args [] pos) X.env = (do
      let ov ← eval e X.env
      standAt apos.atName
      let (f, first) ← holding [ov] (getMethod ov m pl)
      callWith pos f first (backTo pos (starEach args X.env)) (backToKw pos (keywordEach [] X.env)))) :
    wpAny (model X.prog X.w) X.A (eval (.Call (.Attribute e m apos) args [] pos) X.env) Q X.xe s := by
  refine PySem.W.methodCall_KW (pl := pl) (thn (he pins s σ H _ I h) fun u s1 ⟨x, H1, I1, rx, a, C, dx, fs, g, ex, ea, c, k, l, q⟩ => ?_) ht
  subst ex
  obtain rfl : u = Value.ref a := rx
  exact getmeth_ok I1 ea c k l (q s1 I1)
end
section
variable {X : Cx} {pins : List (Addr × Obj)} {σ : St} {H : Hp} {s : Shared} {A : Around} {E : Value → Shared → Prop} {Q : Value → Shared → Prop} {c : Value} {b : Bool}
/-- the type of a value, as the fragment's deciders take it; for an instance its class -/
inductive TyOf (K : PySem.W.Frag) (H : Hp) : V → Value → Prop where
  | non : TyOf K H .non (.type "NoneType")
  | bl (x : Bool) : TyOf K H (.bl x) (.type "bool")
  | int (i : Int) : TyOf K H (.int i) (.type "int")
  | str (x : Str) : TyOf K H (.str x) (.type "str")
  | flt (x : UInt64) : TyOf K H (.flt x) (.type "float")
  | lst {a : Addr} {xs : List V} (e : H a = some (.lst xs)) : TyOf K H (.ref a) (.type "list")
  | frz {a : Addr} {o : Obj} {xs : List V} (e : H a = some (.frz o (.lst xs))) : TyOf K H (.ref a) (.type "list")
  | tup {a : Addr} {xs : List V} (e : H a = some (.tup xs)) : TyOf K H (.ref a) (.type "tuple")
  | dK {a : Addr} {kvs : List (Key × V)} (e : H a = some (.dK kvs)) : TyOf K H (.ref a) (.type "dict")
  | dT {a : Addr} {kvs : List (List Key × V)} (e : H a = some (.dT kvs)) : TyOf K H (.ref a) (.type "dict")
  | ins {a C dx : Addr} {fs : List (Str × V)} (e : H a = some (.ins C dx fs)) (cl : Cls K C) (ha : PySem.W.findIn K (.ref C) "__class__" = some (some (.builtin "object.__class__")))
      (hn : PySem.W.specialIn K (.builtin "object.__class__") "__get__" = some (some (.builtin "getset_descriptor.__get__"))) (htk : PySem.W.takesIn K (.builtin "object.__class__") = some true)
      (hm : PySem.W.mroIn K C (.type "object") = some true) : TyOf K H (.ref a) (.ref C)
end
end L2
namespace L2
open PySem PySem.Spec PyProof.Rows
structure Room (k : Nat) (A : Around) : Prop where
  hd : A.handled = none
  dp : A.depth + 3 * k + 5 < recursionLimit
  un : A.units + 16 * k + 200 < cLine
theorem Room.mono {j k : Nat} {A : Around} (r : Room k A) (h : j ≤ k) : Room j A := ⟨r.hd, by have := r.dp; omega, by have := r.un; omega⟩
theorem Room.deeper {k : Nat} {A : Around} (r : Room (k + 1) A) (env : Env) : Room k (A.deeper env) :=
  ⟨r.hd, by have := r.dp; show A.depth + 1 + 3 * k + 5 < _; omega, by have := r.un; show A.units + 3 + 16 * k + 200 < _; omega⟩
theorem make_depth {A : Around} {C : Addr} {us : List Value} {kw : List (Str × Value)} : (A.under (.builtin "type.__call__" ⟨.ref C :: us, kw⟩)).depth = A.depth + 1 := by
  first | rfl | simp [Around.under, Code.weight, Code.isCreation, Code.isGuard, Code.isCaller, Code.frames, Code.isFrame, guardIds]
theorem make_units {A : Around} {C : Addr} {us : List Value} {kw : List (Str × Value)} : (A.under (.builtin "type.__call__" ⟨.ref C :: us, kw⟩)).units = A.units + 1 := by
  first | rfl | simp [Around.under, Code.cUnits, Code.frames, Code.isFrame]
theorem Room.make {k : Nat} {A : Around} (r : Room (k + 1) A) (C : Addr) (us : List Value) (kw : List (Str × Value)) : Room k (A.under (.builtin "type.__call__" ⟨.ref C :: us, kw⟩)) :=
  ⟨r.hd, by have := r.dp; rw [make_depth]; omega, by have := r.un; rw [make_units]; omega⟩
theorem Room.depth {k : Nat} {A : Around} (r : Room k A) : A.depth < recursionLimit := by have := r.dp; omega
theorem Room.units {k : Nat} {A : Around} (r : Room k A) : A.units + 64 < cLine := by have := r.un; omega
def tNil : TA := fun _ H Q => Q [] H
def tCons (ta : TE) (tr : TA) : TA := fun σ H Q => ta σ H fun x H1 => tr σ H1 fun xs H2 => Q (x :: xs) H2
section
variable {X : Cx} {e : Expr} {es : List Expr} {te : TE} {t : TA} {pos : Pos}
theorem pa_nil : PA X [] tNil := fun _ _ _ _ H Q I h => Calls.spliced_nil ⟨[], H, I, .nil, h⟩
theorem pa_cons (ha : PE X e te) (hr : PA X es t) (hs : starEach (e :: es) X.env = (false, eval e X.env) :: starEach es X.env := by rfl) : PA X (e :: es) (tCons te t) := by
  intro pos pins s σ H Q I h
  rw [hs]
  show wpAny _ _ (spliced ((false, eval e X.env) :: backTo pos (starEach es X.env))) _ _ s
  refine Calls.spliced_cons (thn (ha pins s σ H _ I h) fun u s1 ⟨x, H1, I1, r1, q1⟩ => ?_)
  exact thn (hr pos pins s1 σ H1 _ I1 q1) fun us s2 ⟨xs, H2, I2, r2, q2⟩ => ⟨x :: xs, H2, I2, .cons r1 r2, q2⟩
/-- a tuple, a list of written items -/
def tTup (t : TA) : TE := fun σ H Q => t σ H fun xs H1 => xs.length ≤ sizeLine ∧ ∀ p, H1 p = none → Q (.ref p) (upd H1 p (.tup xs))
def tLst (t : TA) : TE := fun σ H Q => t σ H fun xs H1 => xs.length ≤ sizeLine ∧ ∀ p, H1 p = none → Q (.ref p) (upd H1 p (.lst xs))
theorem pe_tup {x1} (h : PA X es t) : PE X (.Tuple es x1 pos) (tTup t) := by
  intro pins s σ H Q I hq
  refine wpAny_Tuple_spliced (thn (h pos pins s σ H _ I hq) fun us s1 ⟨xs, H1, I1, r, z, q⟩ => ⟨by rw [← r.length]; exact z, ?_⟩)
  have hf : H1 s1.heap.objs.size = none := I1.hok.fresh (Nat.le_refl _)
  refine ⟨.ref s1.heap.objs.size, upd H1 s1.heap.objs.size (.tup xs), I1.laid (t' := s1.toks) (fun b u e => Heap.get?_push_of_some _ e) (Nat.le_refl _) ?_, rfl, q _ hf⟩
  exact ⟨z, us, r, ⟨_, Heap.get?_push_size _ rfl, rfl, _, rfl⟩⟩
theorem pe_lst (h : PA X es t) : PE X (.List es pos) (tLst t) := by
  intro pins s σ H Q I hq
  refine wpAny_List_spliced (thn (h pos pins s σ H _ I hq) fun us s1 ⟨xs, H1, I1, r, z, q⟩ => ⟨by rw [← r.length]; exact z, ?_⟩)
  have hf : H1 s1.heap.objs.size = none := I1.hok.fresh (Nat.le_refl _)
  refine ⟨.ref s1.heap.objs.size, upd H1 s1.heap.objs.size (.lst xs), I1.laid (t' := s1.toks) (fun b u e => Heap.get?_push_of_some _ e) (Nat.le_refl _) ?_, rfl, q _ hf⟩
  exact ⟨z, us, 0, r, Heap.get?_push_size _ rfl⟩
end
/-- a def's promise: the bound arguments in the parameters' order, the heap, the wanted end, the wanted exception -/
abbrev Sp := List V → Hp → VK → XK → Prop
/-- how an exception lies behind a call (file 08 gives it): the callers' frames, abstract heap and state ahead of the call, the wish, the exception, the state -/
abbrev CXT := List Env → Hp → Shared → XK → Value → Shared → Prop
/-- the state at a call -/
structure Env0 (P : Program) (w : World) (K : PySem.W.Frag) (mg : Str → Option Value) (base : Heap) (A : Around) (outer : List Env) (s : Shared) (H : Hp) : Prop where
  frames : A.frames = some outer
  mod : Mod K mg base
  bs : ∀ b o, base.get? b = some o → s.heap.get? b = some o ∧ H b = none
  bsz : base.objs.size ≤ s.heap.objs.size
  funs : s.heap.FunFrames base outer
  frf : ∀ b ∈ frs outer, H b = none
  hok : HOk P w H s.heap
  bare : AllBare s.gens
/-- a call's end -/
def CE (outer : List Env) (P : Program) (w : World) (H : Hp) (s : Shared) (Q : VK) (u : Value) (s' : Shared) : Prop :=
  ∃ v H', s'.os = s.os ∧ AllBare s'.gens ∧ Un (frs outer) [] H H' s.heap s'.heap ∧ HOk P w H' s'.heap ∧ RelV v u ∧ Q v H'
def CR (CX : CXT) (outer : List Env) (P : Program) (w : World) (H : Hp) (s : Shared) (Q : VK) (E : XK) (r : Result) (s' : Shared) : Prop :=
  match r with
  | .ok (.ret u) => CE outer P w H s Q u s'
  | .ok _ => False
  | .error e => CX outer H s E e s'
structure FnOk (P : Program) (w : World) (K : PySem.W.Frag) (mg : Str → Option Value) (base : Heap) (CX : CXT) (k : Nat) (f : Addr) (fd : FuncData) (ps : List Str) (sp : Sp) : Prop where
  len : ∀ vs H Q E, sp vs H Q E → vs.length = ps.length
  run : ∀ (A : Around) (outer : List Env) (s : Shared) (H : Hp) (args : Args) (us : List Value) (vs : List V) (Q : VK) (E : XK), Room k A → Env0 P w K mg base A outer s H → BindsTo s fd args (ps.zip us) → Vals vs us → sp vs H Q E →
    codeAny (model P w) A (.call (.ref f) args) (CR CX outer P w H s Q E) s
/-- a weaker promise -/
theorem FnOk.imp {P : Program} {w : World} {K : PySem.W.Frag} {mg : Str → Option Value} {base : Heap} {CX : CXT} {k : Nat} {f : Addr} {fd : FuncData} {ps : List Str} {sp sp' : Sp} (F : FnOk P w K mg base CX k f fd ps sp)
    (h : ∀ vs H Q E, sp' vs H Q E → sp vs H Q E) : FnOk P w K mg base CX k f fd ps sp' :=
  ⟨fun vs H Q E q => F.len vs H Q E (h _ _ _ _ q), fun A outer s H args us vs Q E hr he hb hv hs => F.run A outer s H args us vs Q E hr he hb hv (h _ _ _ _ hs)⟩
theorem Env0.make {P : Program} {w : World} {K : PySem.W.Frag} {mg : Str → Option Value} {base : Heap} {A : Around} {outer : List Env} {s : Shared} {H : Hp} (e : Env0 P w K mg base A outer s H) (C : Addr) (us : List Value) (kw : List (Str × Value)) :
    Env0 P w K mg base (A.under (.builtin "type.__call__" ⟨.ref C :: us, kw⟩)) outer s H := ⟨by first | exact e.frames | (simpa [Around.under, Code.envs, Code.isFrame, pushEnvs] using e.frames), e.mod, e.bs, e.bsz, e.funs, e.frf, e.hok, e.bare⟩
section
variable {X : Cx} {pins : List (Addr × Obj)} {σ : St} {H : Hp} {s s' : Shared}
/-- from a body: what a callee wants -/
theorem Inv.env0 (I : Inv X pins σ H s) : Env0 X.prog X.w X.K X.mg X.base X.A X.stack s H :=
  ⟨I.ok.frames, I.ok.mod, I.bs, Nat.le_trans I.ok.bsz I.sz, I.stack, I.stkFree, I.hok, I.bare⟩
/-- behind a call -/
theorem Inv.after {Q : VK} {u : Value} (I : Inv X pins σ H s) (h : CE X.stack X.prog X.w H s Q u s') : EP X pins σ Q u s' := by
  obtain ⟨v, H', os, bare, un, hok, r, q⟩ := h
  obtain ⟨hh, g, d, t, os'⟩ := s'
  obtain rfl : os' = s.os := os
  exact ⟨v, H', I.call (h' := hh) (g' := g) (d' := d) (t' := t) (ch := []) un hok bare (fun b z => absurd z (by simp)), r, q⟩
end
/-- f(..): the written arguments, then the defaults dvs; E: what is wanted of an exception -/
def tCall (sp : Sp) (dvs : List V) (E : XK) (t : TA) : TE := fun σ H Q => t σ H fun vs H1 => sp (vs ++ dvs) H1 Q E
/-- o.m(..) of an instance of the class at C -/
def tMeth (C : Addr) (m : Str) (sp : Sp) (dvs : List V) (E : XK) (ta : TE) (t : TA) : TE := fun σ H Q => ta σ H fun x H1 => ∃ a dx fs, x = .ref a ∧ H1 a = some (.ins C dx fs) ∧ fs.lookup m = none ∧
  t σ H1 fun vs H2 => sp (x :: (vs ++ dvs)) H2 Q E
/-- C(..): a new instance and its dict, then __init__ -/
def tMake (C : Addr) (sp : Sp) (dvs : List V) (E : XK) (t : TA) : TE := fun σ H Q => t σ H fun vs H1 => ∀ x dx, H1 x = none → H1 dx = none → dx ≠ x →
  sp (.ref x :: (vs ++ dvs)) (upd (upd H1 dx (.own x)) x (.ins C dx [])) (fun v H2 => v = .non ∧ Q (.ref x) H2) E
/-- how the parameters are bound: us the positional arguments, kw the keywords' values by name, ds the defaults that fill up -/
def Binds (K : PySem.W.Frag) (fd : FuncData) (ps : List Str) (ds : List Value) : Prop :=
  ∀ (s : Shared) (us : List Value), K.In s.heap → (us ++ ds).length = ps.length → BindsTo s fd ⟨us, []⟩ (ps.zip (us ++ ds))
/-- every parameter is given -/
theorem Binds.all {K : PySem.W.Frag} {fd : FuncData} {ps : List Str} (h : ∀ us : List Value, us.length = ps.length → bindArgs fd ⟨us, []⟩ = pure (ps.zip us)) : Binds K fd ps [] := fun s us _ hl => by
  rw [List.append_nil] at hl ⊢
  exact .of_eq (h us hl)
/-- an exception of a callee reaches what this body wants of exceptions -/
def Passes (CX : CXT) (X : Cx) (E : XK) : Prop := ∀ (pins : List (Addr × Obj)) (σ : St) (H : Hp) (s : Shared) (e : Value) (s' : Shared), Inv X pins σ H s → CX X.stack H s E e s' → X.xe e s'
section
variable {X : Cx} {CX : CXT} {k : Nat} {f C : Addr} {fd : FuncData} {ps : List Str} {sp : Sp} {dvs : List V} {ds : List Value} {E : XK} {x m : Str} {p pos apos : Pos} {e o : Expr} {es : List Expr} {ta : TE} {t : TA}
/-- the callee runs -/
theorem run_fn {pins : List (Addr × Obj)} {σ : St} {H : Hp} {s : Shared} {Q : VK} {us : List Value} {vs : List V} (F : FnOk X.prog X.w X.K X.mg X.base CX k f fd ps sp) (hr : Room k X.A) (hb : Binds X.K fd ps ds) (hd : Vals dvs ds) (hx : Passes CX X E)
    (I : Inv X pins σ H s) (r : Vals vs us) (h : sp (vs ++ dvs) H Q E) : wpAny (model X.prog X.w) X.A (call (.ref f) us) (EP X pins σ Q) X.xe s := by
  have r2 : Vals (vs ++ dvs) (us ++ ds) := r.append hd
  have hl : (us ++ ds).length = ps.length := by rw [← r2.length]; exact F.len _ _ _ _ h
  refine wpAny_call (codeAny_mono (F.run X.A X.stack s H ⟨us, []⟩ (us ++ ds) (vs ++ dvs) Q E hr I.env0 (hb s us I.kIn hl) r2 h) fun r s' hq => ?_)
  cases r with
  | error e => exact hx pins σ H s e s' I hq
  | ok fl =>
    cases fl with
    | ret u => exact I.after hq
    | next => exact False.elim hq
    | brk => exact False.elim hq
    | cont => exact False.elim hq
theorem pe_call (F : FnOk X.prog X.w X.K X.mg X.base CX k f fd ps sp) (hr : Room k X.A) (hg : Gl X x) (hm : X.mg x = some (.ref f)) (hk : PySem.W.keepIn X.K (.ref f) = true) (hb : Binds X.K fd ps ds) (hd : Vals dvs ds) (hx : Passes CX X E)
    (ha : PA X (e :: es) t) (hdb : (x == ("__debug__" : Str)) = false := by decide) (he : starEach (e :: es) X.env = (false, eval e X.env) :: starEach es X.env := by rfl) (hpl : (backTo pos (starEach es X.env)).any (·.1) = false := by rfl) :
    PE X (.Call (.Name x p) (e :: es) [] pos) (tCall sp dvs E t) := by
  intro pins s σ H Q I h
  refine wpAny_Call_Name_kw (ld_glob I hg hm ?_ hdb)
  refine PySem.W.callWith_K (h₀ := X.base) I.ok.mod.kin hk (thn (ha pos pins s σ H _ I h) fun us s1 ⟨vs, H1, I1, r, q⟩ => ⟨I1.kIn, ?_⟩) he hpl
  exact run_fn F hr hb hd hx I1 r q
/-- o.m(e, ..) -/
theorem pe_meth {pl : Sem Bool} (he : PE X o ta) (c : Cls X.K C) (hm : Meth X.K C m f) (F : FnOk X.prog X.w X.K X.mg X.base CX k f fd ps sp) (hr : Room k X.A) (hb : Binds X.K fd ps ds) (hd : Vals dvs ds) (hx : Passes CX X E) (ha : PA X (e :: es) t)
    (hst : starEach (e :: es) X.env = (false, eval e X.env) :: starEach es X.env := by rfl) (hpl : (backTo pos (starEach es X.env)).any (·.1) = false := by rfl)
    (ht : eval (.Call (.Attribute o m apos) (e :: es) [] pos) X.env = (do
      let ov ← eval o X.env
      standAt apos.atName
      let (f, first) ← holding [ov] (getMethod ov m pl)
      callWith pos f first (backTo pos (starEach (e :: es) X.env)) (backToKw pos (keywordEach [] X.env))) := by rfl) :
    PE X (.Call (.Attribute o m apos) (e :: es) [] pos) (tMeth C m sp dvs E ta t) := by
  intro pins s σ H Q I h
  refine PySem.W.methodCall_KW (pl := pl) (thn (he pins s σ H _ I h) fun u s1 ⟨x, H1, I1, rx, a, dx, fs, ex, ea, l, q⟩ => ?_) ht
  subst ex
  obtain rfl : u = Value.ref a := rx
  refine getmeth_ok I1 ea c hm l ?_
  refine PySem.W.callWith_K (first := [.ref a]) (h₀ := X.base) I.ok.mod.kin hm.kp (thn (ha pos pins s1 σ H1 _ I1 q) fun us s2 ⟨vs, H2, I2, r, q2⟩ => ⟨I2.kIn, ?_⟩) hst hpl
  exact run_fn (us := .ref a :: us) (vs := .ref a :: vs) F hr hb hd hx I2 (.cons rfl r) q2
/-- o.m() -/
theorem pe_meth0 {pl : Sem Bool} (he : PE X o ta) (c : Cls X.K C) (hm : Meth X.K C m f) (F : FnOk X.prog X.w X.K X.mg X.base CX k f fd ps sp) (hr : Room k X.A) (hb : Binds X.K fd ps ds) (hd : Vals dvs ds) (hx : Passes CX X E)
    (ht : eval (.Call (.Attribute o m apos) [] [] pos) X.env = (do
      let ov ← eval o X.env
      standAt apos.atName
      let (f, first) ← holding [ov] (getMethod ov m pl)
      callWith pos f first (backTo pos (starEach [] X.env)) (backToKw pos (keywordEach [] X.env))) := by rfl) :
    PE X (.Call (.Attribute o m apos) [] [] pos) (tMeth C m sp dvs E ta tNil) := by
  intro pins s σ H Q I h
  refine PySem.W.methodCall_KW (pl := pl) (thn (he pins s σ H _ I h) fun u s1 ⟨x, H1, I1, rx, a, dx, fs, ex, ea, l, q⟩ => ?_) ht
  subst ex
  obtain rfl : u = Value.ref a := rx
  refine getmeth_ok I1 ea c hm l ?_
  exact PySem.W.callWith_K0 (first := [.ref a]) I1.kIn hm.kp (run_fn (us := [.ref a]) (vs := [.ref a]) F hr hb hd hx I1 (.cons rfl .nil) q)
/-- what a class must have to be made -/
structure Mk (K : PySem.W.Frag) (C f : Addr) : Prop where
  makes : PySem.W.makesIn K C = true
  init : PySem.W.findIn K (.ref C) "__init__" = some (some (.ref f))
  fn : PySem.W.isFn K (.ref f) = true
  kp : PySem.W.keepIn K (.ref C) = true
theorem run_make {pins : List (Addr × Obj)} {σ : St} {H : Hp} {s : Shared} {Q : VK} {us : List Value} {vs : List V} (M : Mk X.K C f) (F : FnOk X.prog X.w X.K X.mg X.base CX k f fd ps sp) (hr : Room (k + 1) X.A) (hb : Binds X.K fd ps ds) (hd : Vals dvs ds)
    (hx : Passes CX X E) (I : Inv X pins σ H s) (r : Vals vs us)
    (h : ∀ x dx, H x = none → H dx = none → dx ≠ x → sp (.ref x :: (vs ++ dvs)) (upd (upd H dx (.own x)) x (.ins C dx [])) (fun v H2 => v = .non ∧ Q (.ref x) H2) E) :
    wpAny (model X.prog X.w) X.A (call (.ref C) us) (EP X pins σ Q) X.xe s := by
  have hq := h (s.heap.objs.size + 1) s.heap.objs.size (I.hok.fresh (Nat.le_succ _)) (I.hok.fresh (Nat.le_refl _)) (Nat.ne_of_lt (Nat.lt_succ_self _))
  have I2 := Inv.made (C := C) I
  have r2 : Vals (V.ref (s.heap.objs.size + 1) :: (vs ++ dvs)) (Value.ref (s.heap.objs.size + 1) :: (us ++ ds)) := .cons rfl (r.append hd)
  have hl : (Value.ref (s.heap.objs.size + 1) :: us ++ ds).length = ps.length := by
    have e := r2.length
    rw [F.len _ _ _ _ hq] at e
    exact e.symm
  refine wpAny_call (make_map (f := f) I.kIn M.makes M.init (beq_iff_eq.mp M.fn) (codeAny_mono (F.run _ X.stack _ _ ⟨Value.ref (s.heap.objs.size + 1) :: us, []⟩ (Value.ref (s.heap.objs.size + 1) :: (us ++ ds)) _ _ E (hr.make C us [])
    (I2.env0.make C us []) (hb _ (Value.ref (s.heap.objs.size + 1) :: us) I2.kIn hl) r2 hq) fun r s' hq' => ?_))
  cases r with
  | error e => exact hx pins σ _ _ e s' I2 hq'
  | ok fl =>
    cases fl with
    | ret u =>
      obtain ⟨v, H', I3, rv, ev, q3⟩ := I2.after hq'
      subst ev
      exact ⟨rv, ⟨V.ref (s.heap.objs.size + 1), H', I3, rfl, q3⟩⟩
    | next => exact False.elim hq'
    | brk => exact False.elim hq'
    | cont => exact False.elim hq'
theorem pe_make0 (M : Mk X.K C f) (F : FnOk X.prog X.w X.K X.mg X.base CX k f fd ps sp) (hr : Room (k + 1) X.A) (hg : Gl X x) (hm : X.mg x = some (.ref C)) (hb : Binds X.K fd ps ds) (hd : Vals dvs ds) (hx : Passes CX X E)
    (hdb : (x == ("__debug__" : Str)) = false := by decide) : PE X (.Call (.Name x p) [] [] pos) (tMake C sp dvs E tNil) := by
  intro pins s σ H Q I h
  refine wpAny_Call_Name_kw (ld_glob I hg hm ?_ hdb)
  exact PySem.W.callWith_K0 I.kIn M.kp (run_make (us := []) M F hr hb hd hx I .nil h)
end
section
variable {X : Cx} {CX : CXT} {k : Nat} {f C : Addr} {fd : FuncData} {ps ks : List Str} {sp : Sp} {E : XK} {x m : Str} {p pos apos kpos : Pos} {e o : Expr} {es : List Expr} {kws : List Keyword} {te ta : TE} {t tk : TA} {nm : Option Str}
/-- how a call with keywords binds: g puts the positional values us and the keywords' values ws (names ks) in the parameters' order, defaults among them -/
structure KBinds (K : PySem.W.Frag) (fd : FuncData) (ps ks : List Str) (g : List Value → List Value → List Value) (gV : List V → List V → List V) : Prop where
  to : ∀ (s : Shared) (us ws : List Value), K.In s.heap → (g us ws).length = ps.length → BindsTo s fd ⟨us, ks.zip ws⟩ (ps.zip (g us ws))
  rel : ∀ {vs : List V} {us : List Value} {zs : List V} {ws : List Value}, Vals vs us → Vals zs ws → Vals (gV vs zs) (g us ws)
variable {g : List Value → List Value → List Value} {gV : List V → List V → List V}
end
/-- names: the parameters first -/
structure FnScope (N P : List Str) (sc : Scope) : Prop where
  kind : sc.kind = .function
  co : sc.isCoroutine = false
  gen : sc.isGenerator = false
  nd : N.Nodup
  pre : N.take P.length = P
  par : ∀ x ∈ P, sc.names.lookup x = some .local ∨ sc.names.lookup x = some .cell
  nofree : ∀ y ∈ sc.names, y.2 ≠ .free
theorem bindL_out {kindOf : Str → Option NameKind} {x : Str} : ∀ {binds : List (Str × Value)} {m : Str → Option Value}, (∀ v, (x, v) ∉ binds) → bindL kindOf binds m x = m x
  | [], _, _ => rfl
  | (n, v) :: r, m, h => by
    unfold bindL
    rw [bindL_out fun w hw => h w (List.mem_cons_of_mem _ hw)]
    split
    · have : x ≠ n := by rintro rfl; exact h v List.mem_cons_self
      simp [this]
    · rfl
theorem bindC_out {kindOf : Str → Option NameKind} {x : Str} : ∀ {binds : List (Str × Value)} {m : Str → Option Value}, (∀ v, (x, v) ∉ binds) → bindC kindOf binds m x = m x
  | [], _, _ => rfl
  | (n, v) :: r, m, h => by
    unfold bindC
    rw [bindC_out fun w hw => h w (List.mem_cons_of_mem _ hw)]
    split
    · rfl
    · have : x ≠ n := by rintro rfl; exact h v List.mem_cons_self
      simp [this]
theorem bindL_get {kindOf : Str → Option NameKind} {x : Str} {v : Value} : ∀ {P : List Str} {vs : List Value} {i : Nat} {m : Str → Option Value}, P.Nodup → P[i]? = some x → vs[i]? = some v → kindOf x = some .local →
    bindL kindOf (P.zip vs) m x = some v
  | [], _, _, _, _, h, _, _ => by simp at h
  | _ :: _, [], _, _, _, _, h, _ => by simp at h
  | p :: P, w :: vs, 0, m, nd, h1, h2, hk => by
    simp at h1 h2; subst h1; subst h2
    show bindL kindOf ((p, w) :: P.zip vs) m p = _
    unfold bindL
    rw [bindL_out fun v hv => (List.nodup_cons.mp nd).1 (List.of_mem_zip hv).1, if_pos hk]
    simp
  | p :: P, w :: vs, i + 1, m, nd, h1, h2, hk => by
    show bindL kindOf ((p, w) :: P.zip vs) m x = _
    unfold bindL
    exact bindL_get (i := i) (List.nodup_cons.mp nd).2 (by simpa using h1) (by simpa using h2) hk
theorem bindC_get {kindOf : Str → Option NameKind} {x : Str} {v : Value} : ∀ {P : List Str} {vs : List Value} {i : Nat} {m : Str → Option Value}, P.Nodup → P[i]? = some x → vs[i]? = some v → kindOf x ≠ some .local →
    bindC kindOf (P.zip vs) m x = some v
  | [], _, _, _, _, h, _, _ => by simp at h
  | _ :: _, [], _, _, _, _, h, _ => by simp at h
  | p :: P, w :: vs, 0, m, nd, h1, h2, hk => by
    simp at h1 h2; subst h1; subst h2
    show bindC kindOf ((p, w) :: P.zip vs) m p = _
    unfold bindC
    rw [bindC_out fun v hv => (List.nodup_cons.mp nd).1 (List.of_mem_zip hv).1, if_neg hk]
    simp
  | p :: P, w :: vs, i + 1, m, nd, h1, h2, hk => by
    show bindC kindOf ((p, w) :: P.zip vs) m x = _
    unfold bindC
    exact bindC_get (i := i) (List.nodup_cons.mp nd).2 (by simpa using h1) (by simpa using h2) hk
/-- the names' values at the entry -/
def start (N : List Str) (vs : List V) : St := vs.map some ++ List.replicate (N.length - vs.length) none
/-- the context of a def's body, at its entry; an exception leaves the frame, then lies as CX says -/
def cxOf (CX : CXT) (P : Program) (w : World) (K : PySem.W.Frag) (mg : Str → Option Value) (base : Heap) (N : List Str) (qual : Str) (scope : Scope) (f : Addr) (cd : Value) (A : Around) (outer : List Env) (s : Shared) (H : Hp) (E : XK) : Cx where
  prog := P
  w := w
  K := K
  mg := mg
  base := base
  A := A.deeper (envOfC qual scope s.heap.objs.size f cd)
  N := N
  s₀ := s
  H₀ := H
  env := envOfC qual scope s.heap.objs.size f cd
  outer := outer
  stack := envOfC qual scope s.heap.objs.size f cd :: outer
  ex := []
  calm := true
  fn := fun _ => true
  pn := []
  xe := fun e s' => wpAny (model P w) (A.deeper (envOfC qual scope s.heap.objs.size f cd)) (leaving (envOfC qual scope s.heap.objs.size f cd) e) (fun _ s'' => CX outer H s E e s'') (fun e' s'' => CX outer H s E e' s'') s'
theorem cell_has {sc : Scope} {n : Nat} {x : Str} (h : sc.names.lookup x = some .cell) : ∃ c, (cellsFrom n sc.names []).lookup x = some c := by
  have q := PySem.W.cellsFrom_some sc.names n [] (.inl h)
  exact Option.isSome_iff_exists.mp q
theorem inv_start {CX : CXT} {P : Program} {w : World} {K : PySem.W.Frag} {mg : Str → Option Value} {base : Heap} {N ps : List Str} {qual : Str} {scope : Scope} {f : Addr} {cd : Value} {A : Around} {outer : List Env} {s s1 : Shared} {H : Hp} {E : XK} {us : List Value} {vs : List V}
    (S : FnScope N ps scope) (hd : A.handled = none) (e0 : Env0 P w K mg base A outer s H) (hl : vs.length = ps.length) (r : Vals vs us)
    (x : InCallC s s.heap.objs.size (bindL (envOfC qual scope s.heap.objs.size f cd).kindOf (ps.zip us) fun _ => none) (cellsFrom (s.heap.objs.size + 1) scope.names []) (bindC (envOfC qual scope s.heap.objs.size f cd).kindOf (ps.zip us) fun _ => none) s1) :
    Inv (cxOf CX P w K mg base N qual scope f cd A outer s H E) [] (start N vs) H s1 := by
  have hpl : ps.length ≤ N.length := by have := congrArg List.length S.pre; rw [List.length_take] at this; omega
  obtain ⟨h1, tk, rfl, hk⟩ := x.done
  have noA : ∀ b : Addr, b ∉ (cxOf CX P w K mg base N qual scope f cd A outer s H E).ex := fun b z => absurd (show b ∈ ([] : List Addr) from z) (by simp)
  refine ⟨⟨e0.mod, S.kind, rfl, rfl, Nat.le_refl _, fun y z c h1 h2 => ?_, fun y hy => ?_, fun y c _ h => ?_, fun _ => hd, Around.frames_deeper e0.frames, .inr ⟨rfl, rfl⟩, fun b z => absurd z (noA b), e0.bs, e0.bsz, fun b _ _ => noA b, fun b z => absurd z (noA b), e0.funs, e0.frf⟩,
    rfl, e0.bare, Un.kept hk, ⟨_, x.toInCall.ns, fun i y v h1 h2 h3 => ?_⟩, fun y c h => ⟨_, x.cell y c h⟩, e0.hok.fresh (Nat.le_refl _), fun y c h => ?_, fun p hp => absurd (show p ∈ ([] : List (Addr × Obj)) from hp) (by simp), e0.hok.kept hk, ?_⟩
  · exact name_of_addr x.apart (PySem.mem_of_lookup h1) (PySem.mem_of_lookup h2)
  · have hy : scope.names.lookup y = some .cell ∨ scope.names.lookup y = some .free := hy
    rcases hy with hy | hy
    · exact cell_has hy
    · exact absurd rfl (S.nofree _ (PySem.mem_of_lookup hy))
  · exact Nat.le_of_lt (x.above y c (PySem.mem_of_lookup h))
  · have hi : i < vs.length := by
      unfold start at h2
      by_cases hi : i < vs.length
      · exact hi
      · rw [List.getElem?_append_right (by simpa using hi)] at h2
        rw [List.getElem?_replicate] at h2
        split at h2 <;> cases h2
    have ha : vs[i]? = some v := by
      unfold start at h2
      rw [List.getElem?_append_left (by simpa using hi), List.getElem?_map] at h2
      cases e : vs[i]? with
      | none => rw [e] at h2; cases h2
      | some a => rw [e] at h2; cases h2; rfl
    obtain ⟨u, hu, rv⟩ := r.get ha
    have hp : ps[i]? = some y := by
      rw [← S.pre, List.getElem?_take_of_lt (by omega)]; exact h1
    have ndP : ps.Nodup := by rw [← S.pre]; exact S.nd.sublist (List.take_sublist _ _)
    refine ⟨u, rv, ?_⟩
    rcases S.par y (List.mem_of_getElem? hp) with k | k
    · exact .inl ⟨k, bindL_get ndP hp hu k⟩
    · obtain ⟨c, e⟩ := cell_has (n := s.heap.objs.size + 1) k
      refine .inr ⟨.inl k, c, e, ?_⟩
      have q := x.cell y c e
      rw [bindC_get ndP hp hu (by show scope.names.lookup y ≠ _; rw [k]; decide)] at q
      exact q
  · exact e0.hok.fresh (Nat.le_of_lt (x.above y c (PySem.mem_of_lookup h)))
  · unfold start
    show _ = N.length
    rw [List.length_append, List.length_map, List.length_replicate]
    omega
/-- THE RULE: a def (or a method) of the text, by its body. The body's reading t is chosen for each entry; it is run at the parameters' values -/
theorem fn_of {CX : CXT} {P : Program} {w : World} {K : PySem.W.Frag} {mg : Str → Option Value} {base : Heap} {k : Nat} {f : Addr} {name qual : Str} {params : Arguments} {body : List Stmt} {scope : Scope} {dV kV doc pm cdv ct oc : Value} {an od : Option Addr}
    {osl : Array (Option Value)} {N ps : List Str} {sp : Sp} (lk : K.lookup f = some ⟨oc, od, .func (PySem.W.fnOf name qual params body scope dV kV doc pm an cdv ct), osl⟩) (hcd : PySem.W.codeIn K cdv qual = true) (S : FnScope N ps scope)
    (len : ∀ vs H Q E, sp vs H Q E → vs.length = ps.length)
    (hbody : ∀ (A : Around) (outer : List Env) (s : Shared) (H : Hp) (vs : List V) (Q : VK) (E : XK), Room k (A.deeper (envOfC qual scope s.heap.objs.size f cdv)) → sp vs H Q E →
      ∃ t, PSs (cxOf CX P w K mg base N qual scope f cdv A outer s H E) body t ∧ t { nx := fun _ H' => Q .non H', rt := Q } (start N vs) H) :
    FnOk P w K mg base CX (k + 1) f (PySem.W.fnOf name qual params body scope dV kV doc pm an cdv ct) ps sp := by
  refine ⟨len, fun A outer s H args us vs Q E hr e0 hb r hsp => ?_⟩
  have hl := len _ _ _ _ hsp
  have KX : K.In s.heap := e0.mod.kin.keeps fun b o e => (e0.bs b o e).1
  have lim : s.heap.NoLimit := e0.mod.nolimit.keeps fun b o e => (e0.bs b o e).1
  have hkind : ∀ y ∈ ps.zip us, scope.names.lookup y.1 = some .local ∨ (scope.names.lookup y.1 = some .cell ∧ ((cellsFrom (s.heap.objs.size + 1) scope.names []).lookup y.1).isSome = true) := fun ⟨n, v⟩ hy => by
    rcases S.par n (List.of_mem_zip hy).1 with q | q
    · exact .inl q
    · exact .inr ⟨q, PySem.W.cellsFrom_some _ _ _ (.inl q)⟩
  refine codeAny_call_function hr.depth (KX _ _ lk) rfl S.co S.gen rfl (PySem.W.codeRec_of KX hcd) (hb _ _ _ _ ?_)
  refine wpAny_newFunctionEnv_cells S.kind hkind fun env he s1 x => ?_
  subst he
  refine ⟨lim.keeps x.toInCall.keep, codeAny_func ?_⟩
  obtain ⟨t, ht, hq⟩ := hbody A outer s H vs Q E (hr.deeper _) hsp
  have I : Inv (cxOf CX P w K mg base N qual scope f cdv A outer s H E) [] (start N vs) H s1 := inv_start S hr.hd e0 hl r x
  refine wpAny_mono (ht [] s1 (start N vs) H _ I hq) (fun fl s' hs => ?_) fun e s' hs => hs
  have fin : ∀ {σ' : St} {H' : Hp} {v : V} {u : Value}, Inv (cxOf CX P w K mg base N qual scope f cdv A outer s H E) [] σ' H' s' → RelV v u → Q v H' → CE outer P w H s Q u s' :=
    fun {σ' H' v u} J rv q => ⟨v, H', J.os, J.bare, J.base, J.hok, rv, q⟩
  cases fl with
  | ret u =>
    obtain ⟨v, σ', H', J, rv, q⟩ := hs
    exact fin J rv q
  | next =>
    obtain ⟨σ', H', J, q⟩ := hs
    exact fin (v := V.non) (u := Value.none) J rfl q
  | brk =>
    obtain ⟨_, _, _, q⟩ := hs
    exact False.elim q
  | cont =>
    obtain ⟨_, _, _, q⟩ := hs
    exact False.elim q
end L2
namespace L2
open PySem PySem.Spec PyProof.Rows
section
variable {X : Cx} {x : Str} {p pos : Pos} {e : Expr} {es : List Expr} {t : TA} {id T : String} {r : List V → Hp → VK → Prop}
def tCB (r : List V → Hp → VK → Prop) (t : TA) : TE := fun σ H Q => t σ H fun vs H1 => r vs H1 Q
/-- f(e, ..), f a built-in function -/
theorem pe_callB (hc : CallR X (.builtin id) r) (hg : Gl X x) (hm : X.mg x = none) (hv : bootBuiltins x = some (.builtin id)) (ha : PA X (e :: es) t) (hn : x ≠ "__name__" := by decide) (hdb : (x == ("__debug__" : Str)) = false := by decide)
    (he : starEach (e :: es) X.env = (false, eval e X.env) :: starEach es X.env := by rfl) (hpl : (backTo pos (starEach es X.env)).any (·.1) = false := by rfl) : PE X (.Call (.Name x p) (e :: es) [] pos) (tCB r t) := by
  intro pins s σ H Q I h
  refine wpAny_Call_Name_kw (ld_blt I hg hm hv ?_ hn hdb)
  exact PyProof.Rows.callWith_builtin1 (thn (ha pos pins s σ H _ I h) fun us s1 ⟨vs, H1, I1, r1, q1⟩ => hc pins s1 σ H1 vs us Q I1 r1 q1) he hpl
/-- T(e, ..), T a built-in type -/
theorem pe_callTy (hc : CallR X (.type T) r) (hg : Gl X x) (hm : X.mg x = none) (hv : bootBuiltins x = some (.type T)) (ha : PA X (e :: es) t) (hn : x ≠ "__name__" := by decide) (hdb : (x == ("__debug__" : Str)) = false := by decide)
    (he : starEach (e :: es) X.env = (false, eval e X.env) :: starEach es X.env := by rfl) (hpl : (backTo pos (starEach es X.env)).any (·.1) = false := by rfl) : PE X (.Call (.Name x p) (e :: es) [] pos) (tCB r t) := by
  intro pins s σ H Q I h
  refine wpAny_Call_Name_kw (ld_blt I hg hm hv ?_ hn hdb)
  exact PyProof.Rows.callWith_type1 (thn (ha pos pins s σ H _ I h) fun us s1 ⟨vs, H1, I1, r1, q1⟩ => hc pins s1 σ H1 vs us Q I1 r1 q1) he hpl
end
end L2
namespace L2
open PySem PySem.Spec PyProof.Rows
section
variable {κ : Type} [DecidableEq κ]
def valV (kvs : List (κ × V)) (k : κ) : Option V := (kvs.find? fun kv => decide (kv.1 = k)).map (·.2)
/-- in its place, or at the end -/
def putK (kvs : List (κ × V)) (k : κ) (v : V) : List (κ × V) :=
  if (kvs.any fun kv => decide (kv.1 = k)) = true then kvs.map (fun kv => if kv.1 = k then (kv.1, v) else kv) else kvs ++ [(k, v)]
theorem valV_pos {p : κ × V} {r : List (κ × V)} {k : κ} (e : p.1 = k) : valV (p :: r) k = some p.2 := by simp [valV, List.find?_cons, e]
theorem valV_neg {p : κ × V} {r : List (κ × V)} {k : κ} (e : ¬ p.1 = k) : valV (p :: r) k = valV r k := by simp [valV, List.find?_cons, e]
theorem valV_any (k : κ) : ∀ kvs : List (κ × V), (kvs.any fun kv => decide (kv.1 = k)) = (valV kvs k).isSome
  | [] => rfl
  | p :: r => by
    rw [List.any_cons]
    by_cases e : p.1 = k
    · simp only [valV_pos e, decide_eq_true e, Bool.true_or, Option.isSome_some]
    · rw [valV_neg e, decide_eq_false e, Bool.false_or]; exact valV_any k r
theorem length_putK (kvs : List (κ × V)) (k : κ) (v : V) : (putK kvs k v).length ≤ kvs.length + 1 := by
  unfold putK
  split
  · rw [List.length_map]; omega
  · rw [List.length_append, List.length_cons, List.length_nil]; omega
theorem RelO.isSome_eq {o : Option V} {u : Option Value} (r : RelO o u) : o.isSome = u.isSome := by
  cases o with
  | none => cases u with
    | none => rfl
    | some _ => exact (show False from r).elim
  | some _ => cases u with
    | none => exact (show False from r).elim
    | some _ => rfl
/-- raw tables of the same keys -/
theorem KV.val {kvs : List (κ × V)} {vs : List (κ × Value)} (r : KV kvs vs) (k : κ) : RelO (valV kvs k) (valueAt vs k) := by
  unfold KV at r
  induction r with
  | nil => exact True.intro
  | @cons p q ps qs h t ih =>
    obtain ⟨h1, h2⟩ := h
    by_cases e : p.1 = k
    · have e' : q.1 = k := h1.symm.trans e
      have b : valueAt (q :: qs) k = some q.2 := by simp [valueAt, List.find?_cons, e']
      rw [valV_pos e, b]; exact h2
    · have e' : ¬ q.1 = k := fun z => e (h1.trans z)
      have b : valueAt (q :: qs) k = valueAt qs k := by simp [valueAt, List.find?_cons, e']
      rw [valV_neg e, b]; exact ih
theorem KV.any {kvs : List (κ × V)} {vs : List (κ × Value)} (r : KV kvs vs) (k : κ) : (kvs.any fun kv => decide (kv.1 = k)) = vs.any fun kv => decide (kv.1 = k) := by
  unfold KV at r
  induction r with
  | nil => rfl
  | cons h t ih => rw [List.any_cons, List.any_cons, ih, h.1]
theorem KV.repl {kvs : List (κ × V)} {vs : List (κ × Value)} (r : KV kvs vs) (k : κ) {y : V} {u : Value} (ry : RelV y u) :
    KV (kvs.map fun kv => if kv.1 = k then (kv.1, y) else kv) (vs.map fun kv => if kv.1 = k then (kv.1, u) else kv) := by
  unfold KV at r ⊢
  induction r with
  | nil => exact .nil
  | @cons p q ps qs h t ih =>
    rw [List.map_cons, List.map_cons]
    refine .cons ?_ ih
    obtain ⟨h1, h2⟩ := h
    by_cases e : p.1 = k
    · rw [if_pos e, if_pos (h1.symm.trans e)]; exact ⟨h1, ry⟩
    · rw [if_neg e, if_neg (fun z => e (h1.trans z))]; exact ⟨h1, h2⟩
theorem KV.put {kvs : List (κ × V)} {vs : List (κ × Value)} (r : KV kvs vs) (k : κ) {y : V} {u : Value} (ry : RelV y u) : KV (putK kvs k y) (stored vs k u) := by
  unfold putK stored
  rw [r.any k]
  by_cases e : (vs.any fun kv => decide (kv.1 = k)) = true
  · rw [if_pos e, if_pos e]; exact r.repl k ry
  · rw [if_neg e, if_neg e]; exact Paired.snoc r ⟨rfl, ry⟩
theorem KV.length {kvs : List (κ × V)} {vs : List (κ × Value)} (r : KV kvs vs) : kvs.length = vs.length := Paired.length r
end
theorem kV_is {P : Program} {w : World} {k : Key} {u : Value} (r : RelV (kV k) u) : (mixKind P w).is k u = true := by
  cases k with
  | inl i => obtain ⟨t, e⟩ := (show ∃ t, u = Value.int i t from r); subst e; exact mixKind_int P w i t
  | inr x => obtain ⟨t, e⟩ := (show ∃ t, u = Value.str x t from r); subst e; exact mixKind_str P w x t
theorem items_are {P : Program} {w : World} : ∀ {ks : List Key} {us : List Value}, Vals (ks.map kV) us → ItemsAre (mixKind P w) ks us
  | [], _, r => by rw [List.map_nil] at r; cases r; exact .nil
  | k :: ks, _, r => by
    rw [List.map_cons] at r
    cases r with
    | cons h t => exact .cons (kV_is h) (items_are t)
/-- raw entries of a dict with tuple keys -/
abbrev KT (H : Hp) : List (List Key × V) → List (List Key × Addr × Value) → Prop := Paired fun p q => p.1 = q.1 ∧ H q.2.1 = some (.tup (p.1.map kV)) ∧ RelV p.2 q.2.2
theorem KT.val {H : Hp} {kvs : List (List Key × V)} {xs : List (List Key × Addr × Value)} (r : KT H kvs xs) (k : List Key) : RelO (valV kvs k) ((atKey xs k).map (·.2)) := by
  induction r with
  | nil => exact True.intro
  | @cons p q ps qs h t ih =>
    obtain ⟨h1, _, h2⟩ := h
    by_cases e : p.1 = k
    · have e' : q.1 = k := h1.symm.trans e
      have b : atKey (q :: qs) k = some q.2 := by simp [atKey, List.find?_cons, e']
      rw [valV_pos e, b]; exact h2
    · have e' : ¬ q.1 = k := fun z => e (h1.trans z)
      have b : atKey (q :: qs) k = atKey qs k := by simp [atKey, List.find?_cons, e']
      rw [valV_neg e, b]; exact ih
theorem KT.repl {H : Hp} {kvs : List (List Key × V)} {xs : List (List Key × Addr × Value)} (r : KT H kvs xs) (k : List Key) {y : V} {u : Value} (ry : RelV y u) :
    KT H (kvs.map fun kv => if kv.1 = k then (kv.1, y) else kv) (xs.map (putAt k u)) := by
  induction r with
  | nil => exact .nil
  | @cons p q ps qs h t ih =>
    rw [List.map_cons, List.map_cons]
    refine .cons ?_ ih
    obtain ⟨h1, h2, h3⟩ := h
    unfold putAt
    by_cases e : p.1 = k
    · rw [if_pos e, if_pos (h1.symm.trans e)]; exact ⟨h1, h2, ry⟩
    · rw [if_neg e, if_neg (fun z => e (h1.trans z))]; exact ⟨h1, h2, h3⟩
theorem KT.put {H : Hp} {kvs : List (List Key × V)} {xs : List (List Key × Addr × Value)} (r : KT H kvs xs) (k : List Key) {b : Addr} {y : V} {u : Value} (hb : H b = some (.tup (k.map kV))) (ry : RelV y u) :
    KT H (putK kvs k y) (storedH xs k b u) := by
  have e : (kvs.any fun kv => decide (kv.1 = k)) = (atKey xs k).isSome := by
    rw [valV_any, (r.val k).isSome_eq, Option.isSome_map]
  unfold putK storedH
  rw [e]
  by_cases q : (atKey xs k).isSome = true
  · rw [if_pos q, if_pos q]; exact r.repl k ry
  · rw [if_neg q, if_neg q]; exact Paired.snoc r ⟨rfl, hb, ry⟩
theorem KT.keeps {H H' : Hp} {kvs : List (List Key × V)} {xs : List (List Key × Addr × Value)} (r : KT H kvs xs) (ht : ∀ b ys, H b = some (.tup ys) → H' b = some (.tup ys)) : KT H' kvs xs :=
  Paired.mapP r fun _ _ z => ⟨z.1, ht _ _ z.2.1, z.2.2⟩
section
variable {P : Program} {w : World} {H : Hp} {h : Heap} {a : Addr}
theorem rd_of {u : HO} (ok : HOk P w H h) (e : Rd H a u) : ObjOk P w H h a u := e.ok ok
theorem dk_rd {kvs : List (Key × V)} (ok : HOk P w H h) (e : Rd H a (.dK kvs)) : kvs.length ≤ sizeLine ∧ (a == sysModules) = false ∧ ∃ vs, KV kvs vs ∧ h.DictOf (mixKind P w) a vs :=
  show ObjOk P w H h a (.dK kvs) from rd_of ok e
theorem dk_of {kvs : List (Key × V)} (ok : HOk P w H h) (e : H a = some (.dK kvs)) : kvs.length ≤ sizeLine ∧ (a == sysModules) = false ∧ ∃ vs, KV kvs vs ∧ h.DictOf (mixKind P w) a vs := dk_rd ok (.inl e)
/-- a tracked tuple of ints and texts is a key -/
theorem key_of {ks : List Key} (ok : HOk P w H h) (e : H a = some (.tup (ks.map kV))) : (tupleKind (mixKind P w)).is h ks a := by
  obtain ⟨_, its, r, o, h1, h2, n, h3⟩ := (show ObjOk P w H h a (.tup (ks.map kV)) from ok a _ e)
  exact ⟨o, its.toArray, n, h1, h2, h3, by simpa using items_are r⟩
theorem dt_rd {kvs : List (List Key × V)} (ok : HOk P w H h) (e : Rd H a (.dT kvs)) : kvs.length ≤ sizeLine ∧ (a == sysModules) = false ∧
    ∃ xs, KT H kvs xs ∧ h.DictOfH (tupleKind (mixKind P w)) a xs := by
  obtain ⟨z, y, xs, r, o, es, ep, h1, h2, h3, h4, h5⟩ := (show ObjOk P w H h a (.dT kvs) from rd_of ok e)
  refine ⟨z, y, xs, r, o, es, ep, h1, h2, h3, h4, fun x hx => ?_, h5⟩
  have all : ∀ {l : List (List Key × V)} {m : List (List Key × Addr × Value)}, KT H l m → ∀ x ∈ m, (tupleKind (mixKind P w)).is h x.1 x.2.1 := by
    intro l m q
    induction q with
    | nil => intro x hx; exact nomatch hx
    | @cons p q ps qs hq t ih =>
      intro x hx
      rcases List.mem_cons.mp hx with e | hx
      · subst e
        exact key_of ok (by rw [← hq.1]; exact hq.2.1)
      · exact ih x hx
  exact all r x hx
theorem dt_of {kvs : List (List Key × V)} (ok : HOk P w H h) (e : H a = some (.dT kvs)) : kvs.length ≤ sizeLine ∧ (a == sysModules) = false ∧
    ∃ xs, KT H kvs xs ∧ h.DictOfH (tupleKind (mixKind P w)) a xs := dt_rd ok (.inl e)
end
/-- what the dict at a holds at the key y -/
def DGet (H : Hp) (a : Addr) (y : V) (r : Option V) : Prop :=
  (∃ kvs k, Rd H a (.dK kvs) ∧ y = kV k ∧ r = valV kvs k) ∨ ∃ kvs k b, Rd H a (.dT kvs) ∧ y = .ref b ∧ H b = some (.tup (k.map kV)) ∧ r = valV kvs k
/-- the heap behind a[y] = v -/
def DPut (H : Hp) (a : Addr) (y v : V) (H' : Hp) : Prop :=
  (∃ kvs k, H a = some (.dK kvs) ∧ y = kV k ∧ kvs.length < sizeLine ∧ H' = upd H a (.dK (putK kvs k v))) ∨
  ∃ kvs k b, H a = some (.dT kvs) ∧ y = .ref b ∧ H b = some (.tup (k.map kV)) ∧ kvs.length < sizeLine ∧ H' = upd H a (.dT (putK kvs k v))
theorem DGet.k {H : Hp} {a : Addr} {kvs : List (Key × V)} {k : Key} (e : H a = some (.dK kvs)) : DGet H a (kV k) (valV kvs k) := .inl ⟨kvs, k, .inl e, rfl, rfl⟩
theorem DGet.t {H : Hp} {a b : Addr} {kvs : List (List Key × V)} {k : List Key} (e : H a = some (.dT kvs)) (eb : H b = some (.tup (k.map kV))) : DGet H a (.ref b) (valV kvs k) := .inr ⟨kvs, k, b, .inl e, rfl, eb, rfl⟩
theorem DPut.k {H : Hp} {a : Addr} {kvs : List (Key × V)} {k : Key} {v : V} (e : H a = some (.dK kvs)) (hl : kvs.length < sizeLine) : DPut H a (kV k) v (upd H a (.dK (putK kvs k v))) := .inl ⟨kvs, k, e, rfl, hl, rfl⟩
theorem DPut.t {H : Hp} {a b : Addr} {kvs : List (List Key × V)} {k : List Key} {v : V} (e : H a = some (.dT kvs)) (eb : H b = some (.tup (k.map kV))) (hl : kvs.length < sizeLine) :
    DPut H a (.ref b) v (upd H a (.dT (putK kvs k v))) := .inr ⟨kvs, k, b, e, rfl, eb, hl, rfl⟩
section
variable {X : Cx} {pins : List (Addr × Obj)} {σ : St} {H : Hp} {s : Shared} {a : Addr} {y v : V} {u r : Value} {o : Option V} {A : Around} {E : Value → Shared → Prop}
theorem Inv.big (I : Inv X pins σ H s) : sysModules < s.heap.objs.size := by
  have h : mainGlobals < s.heap.objs.size := (I.mod.glob.keeps I.bk).lt
  exact Nat.lt_trans (by decide) h
/-- d[y], there -/
theorem d_getItem {Q : Value → Shared → Prop} (hu : A.units + 1 < cLine) (I : Inv X pins σ H s) (g : DGet H a y (some v)) (ry : RelV y u) (h : ∀ w' s', Inv X pins σ H s' → RelV v w' → Q w' s') :
    wpAny (model X.prog X.w) A (getItem (.ref a) u) Q E s := by
  rcases g with ⟨kvs, k, e, ey, l⟩ | ⟨kvs, k, b, e, ey, eb, l⟩
  · subst ey
    obtain ⟨z, hd, vs, rel, dd⟩ := dk_rd I.hok e
    obtain ⟨w', hw, rw'⟩ := RelO.some_of (v := v) (o := valueAt vs k) (by rw [l]; exact rel.val k)
    exact wpAny_getItem_of (kV_is ry) dd.mapOf hw (h w' _ (I.tok _) rw')
  · subst ey
    cases (show u = Value.ref b from ry)
    obtain ⟨z, hd, xs, rel, dd⟩ := dt_rd I.hok e
    obtain ⟨w', hw, rw'⟩ := RelO.some_of (v := v) (o := (atKey xs k).map (·.2)) (by rw [l]; exact rel.val k)
    obtain ⟨p, hp, hp2⟩ := Option.map_eq_some_iff.mp hw
    refine wpAny_getItem_heap (tupleKind_room_in1 hu) (key_of I.hok eb) dd hp ?_
    rw [hp2]
    exact h w' _ (I.tok _) rw'
theorem d_notIn {Q : Value → Shared → Prop} (hu : A.units + 1 < cLine) (I : Inv X pins σ H s) (g : DGet H a y o) (ry : RelV y u) (h : ∀ s', Inv X pins σ H s' → Q (.bool (!o.isSome)) s') :
    wpAny (model X.prog X.w) A (compareOp .NotIn u (.ref a)) Q E s := by
  rcases g with ⟨kvs, k, e, ey, l⟩ | ⟨kvs, k, b, e, ey, eb, l⟩
  · subst ey
    obtain ⟨z, hd, vs, rel, dd⟩ := dk_rd I.hok e
    refine wpAny_notIn_of (kV_is ry) hd dd.mapOf ?_
    rw [← (rel.val k).isSome_eq, ← l]
    exact h _ (I.tok _)
  · subst ey
    cases (show u = Value.ref b from ry)
    obtain ⟨z, hd, xs, rel, dd⟩ := dt_rd I.hok e
    refine wpAny_notIn_heap (tupleKind_room_in1 hu) (key_of I.hok eb) hd dd ?_
    have q := (rel.val k).isSome_eq
    rw [Option.isSome_map] at q
    rw [← q, ← l]
    exact h _ (I.tok _)
/-- a dict's object is replaced -/
theorem d_write {h' : Heap} {t' : Nat} {ob : HO} (I : Inv X pins σ H s) (mu : Mut (H a)) (hs : Heap.SameBut a s.heap h') (he : ∃ q, h'.get? a = some q) (new : ObjOk X.prog X.w (upd H a ob) h' a ob) :
    Inv X pins σ (upd H a ob) { s with heap := h', toks := t' } :=
  I.write (x := a) (e := a) mu (.inl rfl) (fun b q hb z => (hs.2 b hb).trans z) he new
theorem dk_new {P : Program} {w : World} {H' : Hp} {h' : Heap} {kvs : List (Key × V)} {vs : List (Key × Value)} (z : kvs.length ≤ sizeLine) (hd : (a == sysModules) = false) (rel : KV kvs vs) (dd : h'.DictOf (mixKind P w) a vs) :
    ObjOk P w H' h' a (.dK kvs) := ⟨z, hd, vs, rel, dd⟩
/-- d[y] = v -/
theorem d_setItem {H' : Hp} {Q : Unit → Shared → Prop} (hu : A.units + 1 < cLine) (I : Inv X pins σ H s) (g : DPut H a y v H') (ry : RelV y u) (rv : RelV v r) (h : ∀ s', Inv X pins σ H' s' → Q () s') :
    wpAny (model X.prog X.w) A (setItem (.ref a) u r) Q E s := by
  rcases g with ⟨kvs, k, e, ey, l, eH⟩ | ⟨kvs, k, b, e, ey, eb, l, eH⟩
  · subst ey eH
    obtain ⟨z, hd, vs, rel, dd⟩ := dk_of I.hok e
    have hz : vs.length ≤ sizeLine := by rw [← rel.length]; exact z
    have hl : (putK kvs k v).length ≤ sizeLine := by have := length_putK kvs k v; omega
    refine wpAny_setItem_pairs (hsz := hz) (kV_is ry) dd fun h' dd' hs => h _ ?_
    have he : ∃ q, h'.get? a = some q := let ⟨q, _, _, hq, _⟩ := dd'; ⟨q, hq⟩
    exact d_write I (by rw [e]; exact True.intro) hs he (dk_new hl hd (rel.put k rv) dd')
  · subst ey eH
    cases (show u = Value.ref b from ry)
    obtain ⟨z, hd, xs, rel, dd⟩ := dt_of I.hok e
    have hz : xs.length ≤ sizeLine := by rw [← Paired.length rel]; exact z
    have hl : (putK kvs k v).length ≤ sizeLine := by have := length_putK kvs k v; omega
    refine wpAny_setItem_heap (hsz := hz) (tupleKind_room_in1 hu) (key_of I.hok eb) dd fun h' dd' hs => h _ ?_
    obtain ⟨q, es, ep, hq, h2, h3, h4, _, h5⟩ := dd'
    refine d_write I (by rw [e]; exact True.intro) hs ⟨q, hq⟩ ⟨hl, hd, _, (rel.put k eb rv).keeps fun c ys ec => ?_, q, es, ep, hq, h2, h3, h4, h5⟩
    rw [upd_ne (ne_of ec e (fun z => nomatch z))]
    exact ec
end
section
variable {X : Cx} {pins : List (Addr × Obj)} {σ : St} {H : Hp} {s : Shared} {a : Addr} {kvs : List (Key × V)} {k : Key} {u : Value} {A : Around} {E : Value → Shared → Prop}
/-- len(d) -/
theorem d_len {Q : Value → Shared → Prop} (I : Inv X pins σ H s) (e : Rd H a (.dK kvs)) (h : ∀ t s', Inv X pins σ H s' → Q (.int kvs.length t) s') : wpAny (model X.prog X.w) A (call (.builtin "len") [.ref a]) Q E s := by
  obtain ⟨z, hd, vs, rel, dd⟩ := dk_rd I.hok e
  refine call_len_dict hd dd (by rw [← rel.length]; rw [sizeLine_eq] at z; omega) ?_
  rw [← rel.length]
  exact h _ _ (I.tok _)
end
/-- the element of a subscription, not a slice -/
def NoSl (i : Expr) : Prop := ∀ ov iv, subscripted i false ov iv = operate [ov, iv] (getItem ov iv)
theorem subD_of {prog : Program} {w : World} {A : Around} {E : Value → Shared → Prop} {s : Shared} {env : Env} {value slice : Expr} {pos : Pos} {T id : String} {Q : Value → Shared → Prop}
    (hl : typeLookup (.type T) "__getitem__" = pure (some (.builtin id))) (hs : NoSl slice)
    (h : wpAny (model prog w) A (eval value env) (fun o s₁ => wpAny (model prog w) A (eval slice env) (fun i s₂ => s₂.TypeIs o T ∧ wpAny (model prog w) A (getItem o i) Q E s₂) E s₁) E s) :
    wpAny (model prog w) A (eval (.Subscript value slice pos) env) Q E s := by
  refine Subscript_ (wpAny_mono h (fun o s₁ h₁ => wpAny_mono h₁ (fun i s₂ h₂ => ?_) fun _ _ x => x) fun _ _ x => x)
  obtain ⟨hT, h₂⟩ := h₂
  unfold subscriptTail
  refine wpAny_bind ?_
  rw [getitemInPython_of_ne hT.not_modules]
  refine wpAny_bind (wpAny_specialOf hT hl ?_)
  have fin : wpAny (model prog w) A (subscripted slice false o i) (fun r s₃ => wpAny (model prog w) A (letTemporaryGo value o r >>= fun _ => pure r) Q E s₃) E s₂ := by
    rw [hs o i]
    exact wpAny_operating (wpAny_mono h₂ (fun r s₃ h₃ => wpAny_bind (wpAny_letTemporaryGo (wpAny_pure h₃))) fun _ _ x => x)
  first
    | exact wpAny_pure (wpAny_bind fin)
    | exact wpAny_bind (wpAny_pure (wpAny_bind fin))
    | exact wpAny_bind fin
theorem dict_typeIs {X : Cx} {pins : List (Addr × Obj)} {σ : St} {H : Hp} {s : Shared} {a : Addr} {y : V} {o : Option V} (I : Inv X pins σ H s) (g : DGet H a y o) : s.TypeIs (.ref a) "dict" := by
  rcases g with ⟨kvs, k, e, _, _⟩ | ⟨kvs, k, b, e, _, _, _⟩
  · obtain ⟨_, _, vs, _, dd⟩ := dk_rd I.hok e
    exact dd.typeIs
  · obtain ⟨_, _, xs, _, dd⟩ := dt_rd I.hok e
    exact dd.typeIs
/-- d[y] -/
def tDGet (td ty : TE) : TE := fun σ H Q => td σ H fun x H1 => ty σ H1 fun y H2 => ∃ a v, x = .ref a ∧ DGet H2 a y (some v) ∧ Q v H2
def tDNotIn (ty td : TE) : TE := fun σ H Q => ty σ H fun y H1 => td σ H1 fun x H2 => ∃ a o, x = .ref a ∧ DGet H2 a y o ∧ Q (.bl (!o.isSome)) H2
/-- d[y] = v -/
def sDPut (td ty tv : TE) : TS := fun D σ H => tv σ H fun v H1 => td σ H1 fun x H2 => ty σ H2 fun y H3 => ∃ a H4, x = .ref a ∧ DPut H3 a y v H4 ∧ D.nx σ H4
section
variable {X : Cx} {o i e value : Expr} {pos pos' tpos : Pos} {td ty tv : TE}
theorem pe_dget (hu : X.A.units + 1 < cLine) (ho : PE X o td) (hi : PE X i ty) (hs : NoSl i) : PE X (.Subscript o i pos) (tDGet td ty) := by
  intro pins s σ H Q I h
  refine subD_of PySem.F.slot_dict_getitem.lookup hs (thn (ho pins s σ H _ I h) fun u s1 ⟨x, H1, I1, rx, q1⟩ => thn (hi pins s1 σ H1 _ I1 q1) fun iv s2 ⟨y, H2, I2, ry, a, v, ex, g, q2⟩ => ?_)
  subst ex
  obtain rfl : u = Value.ref a := rx
  exact ⟨dict_typeIs I2 g, d_getItem hu I2 g ry fun w' s3 I3 rw' => ⟨v, H2, I3, rw', q2⟩⟩
theorem pc_dnotin (hu : X.A.units + 1 < cLine) (hi : PE X i ty) (ho : PE X o td) : PC X .NotIn i o (tDNotIn ty td) := by
  intro pins s σ H Q I h
  refine thn (hi pins s σ H _ I h) fun iv s1 ⟨y, H1, I1, ry, q1⟩ => thn (ho pins s1 σ H1 _ I1 q1) fun u s2 ⟨x, H2, I2, rx, a, ov, ex, g, q2⟩ => ?_
  subst ex
  obtain rfl : u = Value.ref a := rx
  exact d_notIn hu I2 g ry fun s3 I3 => ⟨.bl (!ov.isSome), H2, I3, rfl, q2⟩
theorem ps_dput (hu : X.A.units + 1 < cLine) (ho : PE X o td) (hi : PE X i ty) (hv : PE X value tv) (hs : swapsWith value (some (.Subscript o i pos')) pos.line X.env = pure false) :
    PS X (.Assign [.Subscript o i pos'] value pos) (sDPut td ty tv) := by
  intro pins s σ H D I h
  refine wpAny_Assign_Subscript (thn (hv pins s σ H _ I h) fun r s1 ⟨v, H1, I1, rv, q1⟩ => thn (ho pins s1 σ H1 _ I1 q1) fun u s2 ⟨x, H2, I2, rx, q2⟩ => thn (hi pins s2 σ H2 _ I2 q2) fun iv s3 ⟨y, H3, I3, ry, a, H4, ex, g, q3⟩ => ?_) hs
  subst ex
  obtain rfl : u = Value.ref a := rx
  exact d_setItem hu I3 g ry rv fun s4 I4 => ⟨σ, H4, I4, q3⟩
end
theorem dk_empty {P : Program} {w : World} {H : Hp} (h : Heap) (hb : sysModules < h.objs.size) : ObjOk P w H (h.push { cls := .type "dict", data := .dict #[] }) h.objs.size (.dK []) :=
  ⟨Nat.zero_le _, beq_eq_false_iff_ne.mpr (Ne.symm (Nat.ne_of_lt hb)), [], .nil, Heap.DictOf.new h⟩
theorem dt_empty {P : Program} {w : World} {H : Hp} (h : Heap) (hb : sysModules < h.objs.size) : ObjOk P w H (h.push { cls := .type "dict", data := .dict #[] }) h.objs.size (.dT []) :=
  ⟨Nat.zero_le _, beq_eq_false_iff_ne.mpr (Ne.symm (Nat.ne_of_lt hb)), [], .nil, _, #[], 0, Heap.get?_push_size _ rfl, ⟨rfl, rfl, rfl⟩, rfl, rfl, List.nodup_nil⟩
def tDNewT : TE := fun _ H Q => ∀ p, H p = none → Q (.ref p) (upd H p (.dT []))
section
variable {X : Cx} {pos : Pos}
theorem pe_dnewT : PE X (.Dict [] [] pos) tDNewT := fun pins s σ H Q I h =>
  wpAny_Dict_empty ⟨.ref s.heap.objs.size, _, I.laid (a := s.heap.objs.size) (o := .dT []) (t' := s.toks) (fun _ _ q => Heap.get?_push_of_some _ q) (Nat.le_refl _) (dt_empty s.heap I.big), rfl, h _ (I.hok.fresh (Nat.le_refl _))⟩
end
/-- the pairs of a display, from the left -/
def tPairs : List (TE × TE) → St → Hp → (List (V × V) → Hp → Prop) → Prop
  | [], _, H, Q => Q [] H
  | (tk, tv) :: r, σ, H, Q => tk σ H fun x H1 => tv σ H1 fun y H2 => tPairs r σ H2 fun ps H3 => Q ((x, y) :: ps) H3
abbrev VV : List (V × V) → List (Value × Value) → Prop := Paired fun p q => RelV p.1 q.1 ∧ RelV p.2 q.2
def PPs (X : Cx) (pos : Pos) (keys : List (Option Expr)) (values : List Expr) (trs : List (TE × TE)) : Prop :=
  ∀ (pins : List (Addr × Obj)) (s : Shared) (σ : St) (H : Hp) (Q : List (V × V) → Hp → Prop), Inv X pins σ H s → tPairs trs σ H Q →
    wpAny (model X.prog X.w) X.A (evalPairs (pairTrees keys values X.env pos)) (fun vs s' => ∃ ps H', Inv X pins σ H' s' ∧ VV ps vs ∧ Q ps H') X.xe s
theorem pps_nil {X : Cx} {pos : Pos} : PPs X pos [] [] [] := fun pins s σ H Q I h => pairTrees_nil_walk ⟨[], H, I, .nil, h⟩
theorem pps_cons {X : Cx} {pos : Pos} {k v : Expr} {ks : List (Option Expr)} {vs : List Expr} {tk tv : TE} {trs : List (TE × TE)} (hk : PE X k tk) (hv : PE X v tv) (hr : PPs X pos ks vs trs) :
    PPs X pos (some k :: ks) (v :: vs) ((tk, tv) :: trs) := fun pins s σ H Q I h =>
  pairTrees_cons_walk (thn (hk pins s σ H _ I h) fun u s1 ⟨x, H1, I1, rx, q1⟩ => thn (hv pins s1 σ H1 _ I1 q1) fun w2 s2 ⟨y, H2, I2, ry, q2⟩ =>
    thn (hr pins s2 σ H2 _ I2 q2) fun ws s3 ⟨ps, H3, I3, rel, q3⟩ => ⟨(x, y) :: ps, H3, I3, .cons ⟨rx, ry⟩ rel, q3⟩)
def mergeK (kvs more : List (Key × V)) : List (Key × V) := more.foldl (fun acc kv => putK acc kv.1 kv.2) kvs
theorem KV.merge : ∀ {more : List (Key × V)} {rs : List (Key × Value)} {kvs : List (Key × V)} {vs : List (Key × Value)}, KV more rs → KV kvs vs → KV (mergeK kvs more) (merged vs rs) := by
  intro more rs kvs vs r
  unfold KV at r
  induction r generalizing kvs vs with
  | nil => intro q; exact q
  | @cons p q ps qs h t ih =>
    intro r0
    have e : KV (putK kvs p.1 p.2) (stored vs q.1 q.2) := by
      have := r0.put p.1 h.2
      rw [← h.1]; exact this
    exact ih e
theorem length_mergeK : ∀ (more kvs : List (Key × V)), (mergeK kvs more).length ≤ kvs.length + more.length
  | [], kvs => by show kvs.length ≤ kvs.length + 0; omega
  | p :: r, kvs => by
    have h1 := length_mergeK r (putK kvs p.1 p.2)
    have h2 := length_putK kvs p.1 p.2
    show (mergeK (putK kvs p.1 p.2) r).length ≤ _
    rw [List.length_cons]; omega
theorem carries_of {P : Program} {w : World} : ∀ {kvs : List (Key × V)} {ws : List (Value × Value)}, VV (kvs.map fun kv => (kV kv.1, kv.2)) ws → ∃ rs, Carries (mixKind P w) ws rs ∧ KV kvs rs
  | [], _, r => by rw [List.map_nil] at r; cases r; exact ⟨[], True.intro, .nil⟩
  | p :: kvs, _, r => by
    rw [List.map_cons] at r
    cases r with
    | @cons a b as bs h t =>
      obtain ⟨rs, c, q⟩ := carries_of (P := P) (w := w) t
      obtain ⟨b1, b2⟩ := b
      exact ⟨(p.1, b2) :: rs, ⟨kV_is h.1, rfl, c⟩, .cons ⟨rfl, h.2⟩ q⟩
/-- {k: v, ..} with keys ints and texts; the new dict stands empty while the pairs are made -/
def tDisp (trs : List (TE × TE)) : TE := fun σ H Q => ∀ p, H p = none → tPairs trs σ (upd H p (.dK [])) fun ps H2 => H2 p = some (.dK []) ∧ ∃ kvs : List (Key × V), ps = kvs.map (fun kv => (kV kv.1, kv.2)) ∧ kvs.length ≤ 15 ∧ Q (.ref p) (upd H2 p (.dK (mergeK [] kvs)))
theorem pe_disp {X : Cx} {pos : Pos} {keys : List (Option Expr)} {values : List Expr} {trs : List (TE × TE)} (h : PPs X pos keys values trs) (hall : keys.all (·.isSome) = true) (hl : keys.length = values.length) (h0 : keys ≠ [])
    (h15 : keys.length ≤ 15) : PE X (.Dict keys values pos) (tDisp trs) := by
  intro pins s σ H Q I q
  have hn := I.hok.fresh (Nat.le_refl s.heap.objs.size)
  have I1 := I.laid (a := s.heap.objs.size) (o := .dK []) (h' := s.heap.push { cls := .type "dict", data := .dict #[] }) (t' := s.toks) (fun _ _ q => Heap.get?_push_of_some _ q) (Nat.le_refl _) (dk_empty s.heap I.big)
  refine wpAny_Dict_walk (knd := mixKind X.prog X.w) hall hl h0 h15 (thn (h pins _ σ _ _ I1 (q _ hn)) fun ws s2 ⟨ps, H2, I2, rel, e, kvs, ep, lk, q2⟩ => ?_)
  subst ep
  obtain ⟨rs, c, rk⟩ := carries_of (P := X.prog) (w := X.w) rel
  obtain ⟨z, hd, vs0, r0, dd⟩ := dk_of I2.hok e
  cases r0
  refine ⟨rs, c, dd, fun h' dd' hs => ⟨.ref s.heap.objs.size, _, ?_, rfl, q2⟩⟩
  have hz : (mergeK [] kvs).length ≤ sizeLine := by
    have h1 := length_mergeK kvs []
    rw [List.length_nil] at h1
    rw [sizeLine_eq]; omega
  have he : ∃ q, h'.get? s.heap.objs.size = some q := let ⟨q, _, _, hq, _⟩ := dd'; ⟨q, hq⟩
  exact d_write I2 (by rw [e]; exact True.intro) hs he (dk_new hz hd (rk.merge .nil) dd')
/-- a method call o.m(e) of a built-in, with one argument: what must be seen of the text -/
structure M1 (X : Cx) (o : Expr) (m : Str) (apos : Pos) (e : Expr) (cpos : Pos) : Prop where
  base : attributeBase o m X.env (eval o X.env) = eval o X.env
  few : ((backTo cpos (starEach [e] X.env)).all (fun x => !x.1) && (backToKw cpos (keywordEach [] X.env)).all (fun x => x.1.isSome)
    && decide (([e] : List Expr).length + ([] : List Keyword).length + (if ([] : List Keyword).isEmpty then 0 else 1) < 30)) = true
  line : (apos.endLine == cpos.line) = true
  trees : backTo cpos (starEach [e] X.env) = [(false, eval e X.env)]
structure M2 (X : Cx) (o : Expr) (m : Str) (apos : Pos) (e f : Expr) (cpos : Pos) : Prop where
  base : attributeBase o m X.env (eval o X.env) = eval o X.env
  few : ((backTo cpos (starEach [e, f] X.env)).all (fun x => !x.1) && (backToKw cpos (keywordEach [] X.env)).all (fun x => x.1.isSome)
    && decide (([e, f] : List Expr).length + ([] : List Keyword).length + (if ([] : List Keyword).isEmpty then 0 else 1) < 30)) = true
  line : (apos.endLine == cpos.line) = true
  trees : backTo cpos (starEach [e, f] X.env) = [(false, eval e X.env), (false, eval f X.env)]
section
variable {X : Cx} {pins : List (Addr × Obj)} {σ : St} {H : Hp} {s : Shared} {a : Addr} {y d : V} {u r : Value} {o : Option V} {A : Around} {E : Value → Shared → Prop}
end
section
variable {X : Cx} {o e f : Expr} {apos cpos : Pos} {td ty tx : TE}
end
section
variable {X : Cx} {pins : List (Addr × Obj)} {σ : St} {H : Hp} {s : Shared} {a : Addr} {kvs : List (Key × V)} {A : Around} {E : Value → Shared → Prop}
end
section
variable {X : Cx} {pins : List (Addr × Obj)} {σ : St} {H : Hp} {s : Shared} {a : Addr} {y : V} {u : Value} {A : Around} {E : Value → Shared → Prop}
end
end L2
namespace HT
open PySem PyProof.Rows
section
open PySem.SeqAt
open PySem.AutoSeq1 (wpAny_loadPart')
open PySem.MeetsSeq PySem.MeetsSeq2 PySem.MeetsSeq3
end
section
variable {prog : Program} {w : World} {A : Around} {E : Value → Shared → Prop} {s : Shared}
/-- t + u, t not empty -/
theorem cat_tup {t b : Addr} {vs ws : List Value} {Q : Value → Shared → Prop} (ht : IsTup s.heap t vs.toArray) (hb : IsTup s.heap b ws.toArray) (hv : vs ≠ [])
    (h1 : ws = [] → Q (.ref t) s) (h2 : ws ≠ [] → Q (.ref s.heap.objs.size) { s with heap := s.heap.push { cls := .type "tuple", data := .seq (vs ++ ws).toArray } })
    (hsz : vs.length + ws.length ≤ sizeLine) : wpAny (model prog w) A (binaryOp .Add (.ref t) (.ref b)) Q E s := by
  obtain ⟨⟨cls, dd, data, sl⟩, ho, hc, n, hd⟩ := id ht
  obtain ⟨⟨cls2, dd2, data2, sl2⟩, ho2, hc2, n2, hd2⟩ := id hb
  simp only at hc hd hc2 hd2
  subst hc hd hc2 hd2
  have e : vs.toArray ++ ws.toArray = (vs ++ ws).toArray := by simp
  by_cases hw : ws = []
  · exact concat_meets ⟨_, ho, rfl⟩ ⟨_, ho2, rfl⟩ noFill_tuple_add seq_tuple_add PySem.F.slot_tuple_add PySem.F.entry_tuple_add (PySem.F.args_tuple_add_2 _ _)
      (tuple_addW1 t b vs.toArray ws.toArray n n2 dd dd2 sl sl2 (by simpa using hv) (by simp [hw])) ⟨ho, ho2, h1 hw⟩
  · refine concat_meets ⟨_, ho, rfl⟩ ⟨_, ho2, rfl⟩ noFill_tuple_add seq_tuple_add PySem.F.slot_tuple_add PySem.F.entry_tuple_add (PySem.F.args_tuple_add_2 _ _)
      (tuple_addW2 t b vs.toArray ws.toArray n n2 dd dd2 sl sl2 (by simpa using hv) (by simpa using hw) (by rw [List.size_toArray, List.size_toArray]; exact hsz)) ⟨ho, ho2, ?_⟩
    rw [e]
    exact h2 hw
/-- a slice's bound as a place among n (d where it is left out) -/
def sIx (n d : Nat) : Option Int → Nat
  | none => d
  | some v => if v < 0 then (v + (n : Int)).toNat else min v.toNat n
theorem sIx_none (n d : Nat) : sIx n d none = d := rfl
theorem sIx_nat (n d k : Nat) : sIx n d (some (k : Int)) = min k n := by
  show (if (k : Int) < 0 then ((k : Int) + (n : Int)).toNat else min (k : Int).toNat n) = min k n
  rw [if_neg (by omega), Int.toNat_natCast]
theorem sIx_le (n d : Nat) (hd : d ≤ n) (o : Option Int) : sIx n d o ≤ n := by
  cases o with
  | none => exact hd
  | some v =>
    show (if v < 0 then (v + (n : Int)).toNat else min v.toNat n) ≤ n
    by_cases hv : v < 0
    · rw [if_pos hv]; omega
    · rw [if_neg hv]; exact Nat.min_le_right _ _
theorem clip_eq (v : Int) (n d : Nat) : (if v < 0 then max (v + (n : Int)) 0 else min v (n : Int)) = ((sIx n d (some v) : Nat) : Int) := by
  show (if v < 0 then max (v + (n : Int)) 0 else min v (n : Int)) = (((if v < 0 then (v + (n : Int)).toNat else min v.toNat n) : Nat) : Int)
  by_cases hv : v < 0
  · simp only [if_pos hv]; omega
  · simp only [if_neg hv]; omega
theorem adjust_gen (lo hi : Option Int) (n : Nat) : Builtin.Slice.sliceAdjust lo hi 1 (n : Int) = (((sIx n 0 lo : Nat) : Int), ((sIx n n hi : Nat) : Int)) := by
  have h1 : ¬ ((1 : Int) < 0) := by omega
  unfold Builtin.Slice.sliceAdjust
  simp only [h1, if_false]
  refine Prod.ext ?_ ?_
  · cases lo with
    | none => rfl
    | some v => exact clip_eq v n 0
  · cases hi with
    | none => rfl
    | some v => exact clip_eq v n n
theorem places_gen (i j : Nat) : Builtin.Slice.slicePlaces (i : Int) (j : Int) 1 = j - i := by
  unfold Builtin.Slice.slicePlaces
  have h1 : (1 : Int) > 0 := by omega
  simp only [h1, if_true, Int.ediv_one]
  split <;> omega
theorem slicePart_ {v : Value} {o : Option Int} {Q : Option Int → Shared → Prop} (p : IsPart v o) (h : Q o s) : wpAny (model prog w) A (Builtin.Slice.slicePartIndex v) Q E s := by
  cases p with
  | none => exact slicePart_none h
  | int i t => exact slicePart_int h
theorem sliceApplied_gen {sl : Addr} {vl vu : Value} {lo hi : Option Int} {n : Nat} {Q : Int × Int × Nat → Shared → Prop} (hs : s.heap.IsSliceOf sl vl vu .none) (pl : IsPart vl lo) (pu : IsPart vu hi)
    (h : Q (((sIx n 0 lo : Nat) : Int), 1, sIx n n hi - sIx n 0 lo) s) : wpAny (model prog w) A (Builtin.Slice.sliceApplied (.ref sl) (pure (n : Int))) Q E s := by
  obtain ⟨os, hos, hcs, hds⟩ := id hs
  unfold Builtin.Slice.sliceApplied Builtin.Slice.sliceFields
  refine wpAny_bind (wpAny_bind (wpAny_field hos hds (x := vl) rfl (wpAny_bind (wpAny_field hos hds (x := vu) rfl (wpAny_bind (wpAny_field hos hds (x := .none) rfl (wpAny_pure ?_)))))))
  refine wpAny_bind (slicePart_none ?_)
  show wpAny _ _ (if ((1 : Int) == 0) = true then _ else _) _ _ s
  rw [if_neg (by decide)]
  refine wpAny_bind (slicePart_ pl (wpAny_bind (slicePart_ pu (wpAny_bind (wpAny_pure ?_)))))
  show wpAny _ _ (match Builtin.Slice.sliceAdjust lo hi 1 (n : Int) with | (lo, hi) => pure (lo, (1 : Int), Builtin.Slice.slicePlaces lo hi 1)) _ _ s
  rw [adjust_gen lo hi n]
  show wpAny _ _ (pure (((sIx n 0 lo : Nat) : Int), (1 : Int), Builtin.Slice.slicePlaces ((sIx n 0 lo : Nat) : Int) ((sIx n n hi : Nat) : Int) 1)) _ _ s
  rw [places_gen]
  exact wpAny_pure h
theorem pick_gen (xs : Array Value) (i k : Nat) : ((List.range k).filterMap fun (m : Nat) => xs[((i : Int) + (m : Int) * 1).toNat]?).toArray = ((xs.toList.drop i).take k).toArray := by
  have e : (fun (m : Nat) => xs[((i : Int) + (m : Int) * 1).toNat]?) = fun m => xs[i + m]? := by
    funext m
    have : ((i : Int) + (m : Int) * 1).toNat = i + m := by omega
    rw [this]
  rw [e]
  have := pick_run xs i k
  rw [List.filterMap_map] at this
  have e2 : ((fun x => xs[x]?) ∘ fun x => i + x) = fun m => xs[i + m]? := rfl
  rw [e2] at this
  rw [this]
theorem getItem_tuple_cut {t sl : Addr} {items : Array Value} {vl vu : Value} {lo hi : Option Int} {Q : Value → Shared → Prop} (ht : IsTup s.heap t items) (hs : s.heap.IsSliceOf sl vl vu .none) (pl : IsPart vl lo) (pu : IsPart vu hi)
    (hw : ¬ (sIx items.size 0 lo = 0 ∧ sIx items.size items.size hi = items.size))
    (h : Q (.ref s.heap.objs.size) { s with heap := s.heap.push { cls := .type "tuple", data := .seq ((items.toList.drop (sIx items.size 0 lo)).take (sIx items.size items.size hi - sIx items.size 0 lo)).toArray } })
    (hsz : items.size ≤ sizeLine) : wpAny (model prog w) A (getItem (.ref t) (.ref sl)) Q E s := by
  have htake : sizeOk (.seq ((items.toList.drop (sIx items.size 0 lo)).take (sIx items.size items.size hi - sIx items.size 0 lo)).toArray) := by
    show ((items.toList.drop (sIx items.size 0 lo)).take (sIx items.size items.size hi - sIx items.size 0 lo)).toArray.size ≤ sizeLine
    rw [List.size_toArray, List.length_take, List.length_drop, Array.length_toList]
    omega
  have hj : sIx items.size items.size hi ≤ items.size := sIx_le _ _ (Nat.le_refl _) hi
  obtain ⟨os, hos, hcs, hds⟩ := id hs
  have hTs : s.TypeIs (.ref sl) "slice" := ⟨os, hos, hcs⟩
  unfold getItem
  try with_reducible refine wpAny_holding ?_
  first | refine wpAny_bind (wpAny_pure ?_) | skip
  refine wpAny_bind (wpAny_sequenceKey ht.typeIs (by decide) ?_)
  refine wpAny_bind (wpAny_callSpecial?_slot (name := Str.ofString "__getitem__") ht.typeIs PyProof.Rows.slot_tuple_getitem
    (wpAny_call_entry PyProof.Rows.slot_tuple_getitem ht.typeIs entry_tuple_getitem ?_ (args_tuple_getitem _ _)))
  show wpAny _ _ (Builtin.Tuple.tupleItemsOf (.ref t) >>= _) _ _ s
  refine wpAny_bind (tupleItemsOf_ ht ?_)
  refine wpAny_bind (wpAny_typeOf hTs ?_)
  rw [if_pos (by decide)]
  refine wpAny_bind (sliceApplied_gen hs pl pu ?_)
  have hno : ¬ ((((sIx items.size 0 lo : Nat) : Int) == 0 && (1 : Int) == 1 && (sIx items.size items.size hi - sIx items.size 0 lo) == items.size) = true) := by
    intro q
    rw [Bool.and_eq_true, Bool.and_eq_true] at q
    have q1 : ((sIx items.size 0 lo : Nat) : Int) = 0 := eq_of_beq q.1.1
    have q2 : sIx items.size items.size hi - sIx items.size 0 lo = items.size := eq_of_beq q.2
    exact hw ⟨by omega, by omega⟩
  show wpAny _ _ (if (((sIx items.size 0 lo : Nat) : Int) == 0 && (1 : Int) == 1 && (sIx items.size items.size hi - sIx items.size 0 lo) == items.size) = true then _ else _) _ _ s
  rw [if_neg hno, pick_gen]
  first
    | exact wpAny_bind (m := Builtin.Tuple.tupleExact _) (wpAny_newObj_type (wpAny_pure ⟨_, rfl, wpAny_pure h⟩) htake)
    | exact wpAny_bind (m := Builtin.Tuple.tupleExact _) (wpAny_newObj_type (wpAny_bind (wpAny_pure (wpAny_pure ⟨_, rfl, wpAny_pure h⟩))) htake)
    | exact wpAny_bind (wpAny_bind (m := Builtin.Tuple.tupleExact _) (wpAny_newObj_type (wpAny_pure (wpAny_pure ⟨_, rfl, wpAny_pure h⟩)) htake))
    | exact wpAny_bind (wpAny_bind (m := Builtin.Tuple.tupleExact _) (wpAny_newObj_type (wpAny_pure ⟨_, rfl, wpAny_pure h⟩) htake))
end
end HT
namespace L2
open PySem PySem.Spec PyProof.Rows
abbrev TO := St → Hp → (Option Int → Hp → Prop) → Prop
/-- a slice's part (left out, or an int) -/
def PO (X : Cx) (e : Option Expr) (t : TO) : Prop :=
  ∀ (pins : List (Addr × Obj)) (s : Shared) (σ : St) (H : Hp) (Q : Option Int → Hp → Prop), Inv X pins σ H s → t σ H Q →
    wpAny (model X.prog X.w) X.A (evalPart e X.env) (fun u s' => ∃ o H', Inv X pins σ H' s' ∧ IsPart u o ∧ Q o H') X.xe s
def tNoPart : TO := fun _ H Q => Q none H
def tPart (t : TE) : TO := fun σ H Q => t σ H fun x H1 => ∃ i, x = .int i ∧ Q (some i) H1
section
variable {X : Cx} {e : Expr} {te : TE} {lo hi : Option Expr} {tl th : TO} {pos p2 : Pos}
theorem po_none : PO X none tNoPart := by
  intro pins s σ H Q I h
  rw [evalPart_none]
  exact wpAny_pure ⟨none, H, I, .none, h⟩
theorem po_some (h : PE X e te) : PO X (some e) (tPart te) := by
  intro pins s σ H Q I hw
  rw [evalPart_some]
  refine thn (h pins s σ H _ I hw) fun u s1 ⟨x, H1, I1, r1, q1⟩ => ?_
  obtain ⟨i, rfl, q⟩ := q1
  obtain ⟨t, rfl⟩ := r1
  exact ⟨some i, H1, I1, .int i t, q⟩
/-- what a slice of a value is, by values: the slice object stands at sl -/
def SlR (X : Cx) (r : V → Option Int → Option Int → Hp → VK → Prop) : Prop :=
  ∀ (pins : List (Addr × Obj)) (s : Shared) (σ : St) (H : Hp) (x : V) (v vl vu : Value) (lo hi : Option Int) (sl : Addr) (Q : VK), Inv X pins σ H s → RelV x v → s.heap.IsSliceOf sl vl vu .none → IsPart vl lo → IsPart vu hi → r x lo hi H Q →
    ∃ T id, typeLookup (.type T) "__getitem__" = pure (some (.builtin id)) ∧ s.TypeIs v T ∧ wpAny (model X.prog X.w) X.A (getItem v (.ref sl)) (EP X pins σ Q) X.xe s
theorem SlR.or {r r' : V → Option Int → Option Int → Hp → VK → Prop} (h : SlR X r) (h' : SlR X r') : SlR X (fun x lo hi H Q => r x lo hi H Q ∨ r' x lo hi H Q) := by
  intro pins s σ H x v vl vu lo hi sl Q I rx hs pl pu q
  rcases q with q | q
  · exact h pins s σ H x v vl vu lo hi sl Q I rx hs pl pu q
  · exact h' pins s σ H x v vl vu lo hi sl Q I rx hs pl pu q
def tSl (r : V → Option Int → Option Int → Hp → VK → Prop) (te : TE) (tl th : TO) : TE := fun σ H Q => te σ H fun x H1 => tl σ H1 fun l H2 => th σ H2 fun u H3 => r x l u H3 Q
/-- a[lo:hi], any a -/
theorem pe_slice {r : V → Option Int → Option Int → Hp → VK → Prop} (hr : SlR X r) (he : PE X e te) (hl : PO X lo tl) (hu : PO X hi th) : PE X (.Subscript e (.Slice lo hi none p2) pos) (tSl r te tl th) := by
  intro pins s σ H Q I h
  refine Subscript_ (thn (he pins s σ H _ I h) fun v s1 ⟨x, H1, I1, r1, q1⟩ => ?_)
  refine wpAny_Slice (thn (hl pins s1 σ H1 _ I1 q1) fun vl s2 ⟨l, H2, I2, pl, q2⟩ => thn (hu pins s2 σ H2 _ I2 q2) fun vu s3 ⟨u, H3, I3, pu, q3⟩ => ?_)
  rw [evalPart_none]
  refine wpAny_pure ?_
  have I4 : Inv X pins σ H3 { s3 with heap := s3.heap.push { cls := .type "slice", data := .fields #[vl, vu, .none] } } := I3.kept (t' := s3.toks) fun b ob q => Heap.get?_push_of_some _ q
  obtain ⟨T, id, hT, ht, hg⟩ := hr pins { s3 with heap := s3.heap.push { cls := .type "slice", data := .fields #[vl, vu, .none] } } σ H3 x v vl vu l u s3.heap.objs.size Q I4 r1 (Heap.IsSliceOf.new ..) pl pu q3
  show wpAny (model X.prog X.w) X.A (subscriptTail e (.Slice lo hi none p2) v (.ref s3.heap.objs.size)) (EP X pins σ Q) X.xe { s3 with heap := s3.heap.push { cls := .type "slice", data := .fields #[vl, vu, .none] } }
  exact tail_any (ops := [.ref s3.heap.objs.size, v]) ht hT hg (by with_unfolding_all rfl)
/-- the items of xs[lo:hi] -/
def cutV (xs : List V) (lo hi : Option Int) : List V := (xs.drop (HT.sIx xs.length 0 lo)).take (HT.sIx xs.length xs.length hi - HT.sIx xs.length 0 lo)
theorem cutV_length (xs : List V) (lo hi : Option Int) : (cutV xs lo hi).length ≤ xs.length := by
  unfold cutV
  rw [List.length_take, List.length_drop]
  omega
/-- t[lo:hi], not the whole of it (the whole would be t itself) -/
def rSlT (K : PySem.W.Frag) : V → Option Int → Option Int → Hp → VK → Prop := fun x lo hi H Q => ∃ a xs, x = .ref a ∧ SqT K H a xs ∧
  ¬ (HT.sIx xs.length 0 lo = 0 ∧ HT.sIx xs.length xs.length hi = xs.length) ∧ ∀ p, H p = none → Q (.ref p) (upd H p (.tup (cutV xs lo hi)))
theorem sl_tup : SlR X (rSlT X.K) := by
  intro pins s σ H x v vl vu lo hi sl Q I rx hs pl pu h
  obtain ⟨a, xs, rfl, hx, hw, q⟩ := h
  cases rx
  obtain ⟨its, r, ht, hz⟩ := I.tuple hx
  have hlen : its.toArray.size = xs.length := by rw [List.size_toArray]; exact r.length.symm
  refine ⟨"tuple", _, PyProof.Rows.slot_tuple_getitem.lookup, ht.typeIs, ?_⟩
  refine HT.getItem_tuple_cut ht hs pl pu (by rw [hlen]; exact hw) ?_ (by rw [hlen]; exact hz)
  rw [hlen]
  refine ⟨.ref s.heap.objs.size, _, I.laid (t' := s.toks) (o := .tup (cutV xs lo hi)) (fun b ob q => Heap.get?_push_of_some _ q) (Nat.le_refl _) ?_, rfl, q _ (I.hok.fresh (Nat.le_refl _))⟩
  exact ⟨Nat.le_trans (cutV_length xs lo hi) hz, _, (r.drop (HT.sIx xs.length 0 lo)).take (HT.sIx xs.length xs.length hi - HT.sIx xs.length 0 lo), IsTup.new _ _⟩
/-- t + u, t not empty: u empty gives t itself -/
def rCatT (K : PySem.W.Frag) : R2 := fun x y H Q => ∃ a b xs ys, x = .ref a ∧ y = .ref b ∧ SqT K H a xs ∧ SqT K H b ys ∧ xs ≠ [] ∧ xs.length + ys.length ≤ sizeLine ∧
  (ys = [] → Q (.ref a) H) ∧ (ys ≠ [] → ∀ p, H p = none → Q (.ref p) (upd H p (.tup (xs ++ ys))))
theorem Vals.nil_iff {xs : List V} {us : List Value} (r : Vals xs us) : us = [] ↔ xs = [] := by
  cases r with
  | nil => simp
  | cons _ _ => simp
theorem op_catT : OpR X (binaryOp .Add) (rCatT X.K) := by
  intro pins s σ H x y v u Q I rx ry h
  obtain ⟨a, b, xs, ys, rfl, rfl, ha, hb, hx, hz, q1, q2⟩ := h
  cases rx
  cases ry
  obtain ⟨its, r1, p1, _⟩ := I.tuple ha
  obtain ⟨its2, r2, p2, _⟩ := I.tuple hb
  refine HT.cat_tup p1 p2 (fun z => hx (r1.nil_iff.mp z)) (fun z => ⟨.ref a, H, I, rfl, q1 (r2.nil_iff.mp z)⟩) (fun z => ?_) (by rw [← r1.length, ← r2.length]; exact hz)
  refine ⟨.ref s.heap.objs.size, _, I.laid (t' := s.toks) (o := .tup (xs ++ ys)) (fun b ob q => Heap.get?_push_of_some _ q) (Nat.le_refl _) ?_, rfl, q2 (fun w => z (r2.nil_iff.mpr w)) _ (I.hok.fresh (Nat.le_refl _))⟩
  exact ⟨by rw [List.length_append]; exact hz, _, r1.append r2, IsTup.new _ _⟩
end
end L2
namespace L2
open PySem PySem.Spec PyProof.Rows
/-- the place that an index of any sign means -/
def ixN (n : Nat) (i : Int) : Option Nat := if 0 ≤ i then (if i < n then some i.toNat else none) else if -(n : Int) ≤ i then some (i + n).toNat else none
def atI {α : Type} (xs : List α) (i : Int) : Option α := (ixN xs.length i).bind fun j => xs[j]?
theorem ixN_seq {n : Nat} {i : Int} {j : Nat} (h : ixN n i = some j) : seqIndex? i n = some j ∧ j < n ∧ -(n : Int) ≤ i ∧ i < n := by
  unfold ixN at h
  by_cases h0 : 0 ≤ i
  · rw [if_pos h0] at h
    by_cases h1 : i < n
    · rw [if_pos h1] at h
      have e : i.toNat = j := Option.some.inj h
      exact ⟨by rw [seqIndex_of h0 h1, e], by omega, by omega, h1⟩
    · rw [if_neg h1] at h; cases h
  · rw [if_neg h0] at h
    by_cases h1 : -(n : Int) ≤ i
    · rw [if_pos h1] at h
      have e : (i + n).toNat = j := Option.some.inj h
      exact ⟨by rw [seqIndex_neg (by omega) h1, e], by omega, h1, by omega⟩
    · rw [if_neg h1] at h; cases h
theorem atI_get {α : Type} {xs : List α} {i : Int} {v : α} (h : atI xs i = some v) : ∃ j, seqIndex? i xs.length = some j ∧ xs[j]? = some v ∧ j < xs.length ∧ -(xs.length : Int) ≤ i ∧ i < xs.length := by
  unfold atI at h
  cases e : ixN xs.length i with
  | none => rw [e] at h; cases h
  | some j =>
    rw [e] at h
    obtain ⟨h1, h2, h3, h4⟩ := ixN_seq e
    exact ⟨j, h1, h, h2, h3, h4⟩
theorem atI_nat {α : Type} {xs : List α} {j : Nat} {v : α} (h : xs[j]? = some v) : atI xs (j : Int) = some v := by
  have hj : j < xs.length := (List.getElem?_eq_some_iff.mp h).1
  have e : ixN xs.length (j : Int) = some j := by
    unfold ixN
    rw [if_pos (by omega), if_pos (by omega)]; simp
  unfold atI; rw [e]; exact h
/-- what stands as an index of a plain subscript -/
def PlainIx (b : Expr) : Prop := ∀ o i, subscripted b false o i = operate [o, i] (getItem o i)
/-- a subscript by values -/
def IxR (X : Cx) (r : R2) : Prop :=
  ∀ (value slice : Expr) (pins : List (Addr × Obj)) (s : Shared) (σ : St) (H : Hp) (x y : V) (v u : Value) (Q : VK), Inv X pins σ H s → RelV x v → RelV y u → r x y H Q →
    subscripted slice false v u = operate [v, u] (getItem v u) → wpAny (model X.prog X.w) X.A (subscriptTail value slice v u) (EP X pins σ Q) X.xe s
/-- a call of a builtin's method by values: the receiver, the arguments -/
def MtR (X : Cx) (id : String) (r : V → List V → Hp → VK → Prop) : Prop :=
  ∀ (pins : List (Addr × Obj)) (s : Shared) (σ : St) (H : Hp) (x : V) (xs : List V) (v : Value) (us : List Value) (Q : VK), Inv X pins σ H s → RelV x v → Vals xs us → r x xs H Q →
    wpAny (model X.prog X.w) X.A (call (.builtin id) (v :: us)) (EP X pins σ Q) X.xe s
section
variable {X : Cx} {a b : Expr} {ta tb : TE} {pos : Pos}
theorem IxR.or {r r' : R2} (h : IxR X r) (h' : IxR X r') : IxR X (fun x y H Q => r x y H Q ∨ r' x y H Q) := by
  intro value slice pins s σ H x y v u Q I rx ry q hs
  rcases q with q | q
  · exact h value slice pins s σ H x y v u Q I rx ry q hs
  · exact h' value slice pins s σ H x y v u Q I rx ry q hs
/-- a[b] -/
theorem pe_ix {r : R2} (hr : IxR X r) (ha : PE X a ta) (hb : PE X b tb) (hs : PlainIx b) : PE X (.Subscript a b pos) (tOp r ta tb) := by
  intro pins s σ H Q I h
  exact Subscript_ (binT ha hb I h fun v u s2 x y H2 I2 rx ry q => hr a b pins s2 σ H2 x y v u Q I2 rx ry q (hs _ _))
def rIxL (K : PySem.W.Frag) : R2 := fun x y H Q => ∃ p xs i v, x = .ref p ∧ y = .int i ∧ SqL K H p xs ∧ atI xs i = some v ∧ Q v H
def rIxT (K : PySem.W.Frag) : R2 := fun x y H Q => ∃ p xs i v, x = .ref p ∧ y = .int i ∧ SqT K H p xs ∧ atI xs i = some v ∧ Q v H
def rIxS : R2 := fun x y H Q => ∃ z i c, x = .str z ∧ y = .int i ∧ z.length ≤ sizeLine ∧ atI z.cps.toList i = some c ∧ Q (.str ⟨#[c]⟩) H
theorem ix_list : IxR X (rIxL X.K) := by
  intro value slice pins s σ H x y v u Q I rx ry h hs
  obtain ⟨p, xs, i, z, rfl, rfl, hq, he, q⟩ := h
  cases rx
  obtain ⟨t, rfl⟩ := ry
  obtain ⟨its, r, pl, hz⟩ := I.list hq
  obtain ⟨j, h1, h2, h3, h4, h5⟩ := atI_get he
  obtain ⟨w, ew, rw'⟩ := r.get h2
  have hl := r.length
  have hn := line63
  have fin : EP X pins σ Q w s := ⟨z, H, I, rw', q⟩
  by_cases h0 : 0 ≤ i
  · have hj : i.toNat = j := by
      rw [seqIndex_of h0 h5] at h1
      exact Option.some.inj h1
    exact item_listR pl.isList h0 (by omega) (by rw [hj]; simpa using ew) fin hs
  · have hj : (i + (its.toArray.size : Int)).toNat = j := by
      rw [seqIndex_neg (by omega) h4] at h1
      rw [List.size_toArray, ← hl]
      exact Option.some.inj h1
    exact subscriptTail_builtinR (x := w) pl.isList.typeIs slot_list_getitem.lookup
      (wpAny_getItem_list_neg (Q := fun r s' => r = w ∧ EP X pins σ Q r s') pl.isList (by omega) (by rw [List.size_toArray] <;> omega) (by omega) (by rw [hj]; simpa using ew) ⟨rfl, fin⟩) hs
theorem ix_tup : IxR X (rIxT X.K) := by
  intro value slice pins s σ H x y v u Q I rx ry h hs
  obtain ⟨p, xs, i, z, rfl, rfl, hq, he, q⟩ := h
  cases rx
  obtain ⟨t, rfl⟩ := ry
  obtain ⟨its, r, pl, hz⟩ := I.tuple hq
  obtain ⟨j, h1, h2, h3, h4, h5⟩ := atI_get he
  obtain ⟨w, ew, rw'⟩ := r.get h2
  have hl := r.length
  have hn := line63
  have fin : EP X pins σ Q w s := ⟨z, H, I, rw', q⟩
  exact subscriptTail_builtinR (x := w) pl.typeIs slot_tuple_getitem.lookup
    (getItem_tuple (j := j) (Q := fun r s' => r = w ∧ EP X pins σ Q r s') pl (by omega) (by omega) (by rw [List.size_toArray, ← hl]; exact h1) (by simpa using ew) ⟨rfl, fin⟩) hs
theorem ix_str : IxR X rIxS := by
  intro value slice pins s σ H x y v u Q I rx ry h hs
  obtain ⟨z, i, c, rfl, rfl, hz, he, q⟩ := h
  obtain ⟨t, rfl⟩ := rx
  obtain ⟨t', rfl⟩ := ry
  obtain ⟨j, h1, h2, h3, h4, h5⟩ := atI_get he
  have hl : z.cps.toList.length = z.length := by simp [Str.length]
  rw [hl] at h1 h4 h5
  have hn := line63
  exact tail_any (typeIs_str s z t) slot_str_getitem.lookup (getItem_str (c := c) (by
    have e1 : decide (i < -(2 ^ 63 : Int)) = false := decide_eq_false (by omega)
    have e2 : decide (i ≥ 2 ^ 63) = false := decide_eq_false (by omega)
    rw [e1, e2, Bool.or_false]) (by rw [h1]; simpa using h2) ⟨.str ⟨#[c]⟩, H, I.tok _, ⟨_, rfl⟩, q⟩) hs
/-- list, tuple or str -/
def rIx (K : PySem.W.Frag) : R2 := fun x y H Q => rIxL K x y H Q ∨ rIxT K x y H Q ∨ rIxS x y H Q
theorem ix_seq : IxR X (rIx X.K) := ix_list.or (ix_tup.or ix_str)
/-- the list's object behind a store -/
theorem mapSeq_set (its : List Value) (n j : Nat) (u : Value) : Obj.mapSeq (·.setIfInBounds j u) { cls := .type "list", data := .seq its.toArray n } = { cls := .type "list", data := .seq (its.set j u).toArray n } := by
  simp [Obj.mapSeq]
theorem Inv.lst {pins : List (Addr × Obj)} {σ : St} {H : Hp} {s : Shared} {p : Addr} {xs : List V} (I : Inv X pins σ H s) (h : H p = some (.lst xs)) :
    ∃ (its : List Value) (n : Nat), Vals xs its ∧ s.heap.get? p = some { cls := .type "list", data := .seq its.toArray n } ∧ xs.length ≤ sizeLine := by
  obtain ⟨z, its, n, r, e⟩ := I.hok p _ h
  exact ⟨its, n, r, e, z⟩
/-- the list at p is written by an update of its object -/
theorem Inv.lstUpd {pins : List (Addr × Obj)} {σ : St} {H : Hp} {s : Shared} {p : Addr} {xs ys : List V} {its its' : List Value} {n n' : Nat} {f : Obj → Obj} (I : Inv X pins σ H s) (h : H p = some (.lst xs))
    (ho : s.heap.get? p = some { cls := .type "list", data := .seq its.toArray n }) (hf : f { cls := .type "list", data := .seq its.toArray n } = { cls := .type "list", data := .seq its'.toArray n' }) (r : Vals ys its') (hz : ys.length ≤ sizeLine) (t : Nat) :
    Inv X pins σ (upd H p (.lst ys)) { s with heap := s.heap.update p f, toks := t } := by
  have e : (s.heap.update p f).get? p = some { cls := .type "list", data := .seq its'.toArray n' } := by
    rw [Heap.get?_update_self f ho (by rw [hf] <;> rfl), hf]
  refine I.write (x := p) (e := p) (by rw [h]; trivial) (.inl rfl) (fun b u hb q => (Heap.get?_update_other _ _ (Ne.symm hb)).trans q) ⟨_, e⟩ ?_
  exact ⟨hz, its', n', r, e⟩
def rSetL : V → V → V → Hp → (Hp → Prop) → Prop := fun o i v H Q => ∃ p xs k j, o = .ref p ∧ i = .int k ∧ H p = some (.lst xs) ∧ ixN xs.length k = some j ∧ Q (upd H p (.lst (xs.set j v)))
theorem set_list : PSet X rSetL := by
  intro pins s σ H o i v ov iv u Q I ro ri rv h
  obtain ⟨p, xs, k, j, rfl, rfl, hp, hj, q⟩ := h
  cases ro
  obtain ⟨t, rfl⟩ := ri
  obtain ⟨its, n, r, ho, hz⟩ := I.lst hp
  obtain ⟨h1, h2, h3, h4⟩ := ixN_seq hj
  have hl := r.length
  have hn := line63
  have I' : Inv X pins σ (upd H p (.lst (xs.set j v))) { s with heap := s.heap.update p (Obj.mapSeq (·.setIfInBounds j u)) } :=
    I.lstUpd hp ho (mapSeq_set its n j u) (r.set rv j) (by rw [List.length_set]; exact hz) s.toks
  by_cases h0 : 0 ≤ k
  · have hk : k.toNat = j := by
      rw [seqIndex_of h0 h4] at h1
      exact Option.some.inj h1
    exact PySem.W.ki_setAt ho h0 (by omega) (by rw [List.size_toArray, ← hl]; exact h4) (by rw [hk]; exact ⟨_, I', q⟩)
  · have hk : (k + (its.toArray.size : Int)).toNat = j := by
      rw [seqIndex_neg (by omega) h3] at h1
      rw [List.size_toArray, ← hl]
      exact Option.some.inj h1
    exact PySem.W.ki_setBack ho (by omega) (by rw [List.size_toArray, ← hl]; exact h3) (by omega) (by rw [hk]; exact ⟨_, I', q⟩)
theorem slice_bounds (lo hi : Option Int) (n : Nat) : (sliceBounds lo hi none n).1 = ((HT.sIx n 0 lo : Nat) : Int) ∧ (sliceBounds lo hi none n).2.1 = ((HT.sIx n n hi : Nat) : Int) ∧ (sliceBounds lo hi none n).2.2 = 1 := by
  refine ⟨?_, ?_, rfl⟩
  · cases lo with
    | none => simp [sliceBounds, HT.sIx]
    | some i =>
      simp only [sliceBounds, HT.sIx, Option.getD_none, show (1 : Int) > 0 by decide, if_true]
      by_cases h : i < 0
      · simp only [h, if_true] <;> omega
      · simp only [h, if_false] <;> omega
  · cases hi with
    | none => simp [sliceBounds, HT.sIx]
    | some i =>
      simp only [sliceBounds, HT.sIx, Option.getD_none, show (1 : Int) > 0 by decide, if_true]
      by_cases h : i < 0
      · simp only [h, if_true] <;> omega
      · simp only [h, if_false] <;> omega
theorem slicePick_cut (its : List Value) (lo hi : Option Int) : slicePick its.toArray lo hi none = ((its.drop (HT.sIx its.length 0 lo)).take (HT.sIx its.length its.length hi - HT.sIx its.length 0 lo)).toArray := by
  obtain ⟨h1, h2, h3⟩ := slice_bounds lo hi its.toArray.size
  unfold slicePick
  rw [h1, h2, h3]
  simp only [sliceRange_one, pick_run, List.size_toArray] <;> rfl
/-- xs[lo:hi] of a list: a new list -/
def rSlL (K : PySem.W.Frag) : V → Option Int → Option Int → Hp → VK → Prop := fun x lo hi H Q => ∃ a xs, x = .ref a ∧ SqL K H a xs ∧ ∀ p, H p = none → Q (.ref p) (upd H p (.lst (cutV xs lo hi)))
theorem sl_list : SlR X (rSlL X.K) := by
  intro pins s σ H x v vl vu lo hi sl Q I rx hs pl pu h
  obtain ⟨a, xs, rfl, hx, q⟩ := h
  cases rx
  obtain ⟨its, r, ht, hz⟩ := I.list hx
  have hlen := r.length
  refine ⟨"list", _, slot_list_getitem.lookup, ht.isList.typeIs, ?_⟩
  refine wpAny_getItem_list_slice ht.isList hs pl pu .none (by simp) ?_ (by rw [List.size_toArray] <;> omega)
  rw [slicePick_cut, ← hlen]
  refine ⟨.ref s.heap.objs.size, _, I.laid (t' := s.toks) (o := .lst (cutV xs lo hi)) (fun b ob q => Heap.get?_push_of_some _ q) (Nat.le_refl _) ?_, rfl, q _ (I.hok.fresh (Nat.le_refl _))⟩
  exact ⟨Nat.le_trans (cutV_length xs lo hi) hz, _, 0, (r.drop (HT.sIx xs.length 0 lo)).take (HT.sIx xs.length xs.length hi - HT.sIx xs.length 0 lo), Heap.get?_push_size _ rfl⟩
def flatV : V → Bool
  | .non => true
  | .bl _ => true
  | .int _ => true
  | .str _ => true
  | _ => false
/-- == of flat values -/
def eqV : V → V → Bool
  | .non, .non => true
  | .bl a, .bl b => a == b
  | .bl a, .int b => (if a then 1 else 0) == b
  | .int a, .bl b => a == (if b then 1 else 0)
  | .int a, .int b => a == b
  | .str a, .str b => a == b
  | _, _ => false
theorem eqAt_V {A : Around} {s : Shared} {y x : V} {u v : Value} (ry : RelV y u) (rx : RelV x v) (fy : flatV y = true) (fx : flatV x = true) : SeqAt.EqAt A s u v (eqV y x) := by
  cases y with
  | non =>
    cases ry
    cases x with
    | non => cases rx; exact SeqAt.EqAt.same _
    | bl b => cases rx; exact SeqAt.EqAt.none_bool b
    | int b => obtain ⟨t, rfl⟩ := rx; exact SeqAt.EqAt.none_int b t
    | str b => obtain ⟨t, rfl⟩ := rx; exact SeqAt.EqAt.none_str b t
    | _ => exact absurd (show false = true from fx) Bool.false_ne_true
  | bl a =>
    cases ry
    cases x with
    | non => cases rx; exact SeqAt.EqAt.bool_none a
    | bl b => cases rx; exact SeqAt.EqAt.bool_bool a b
    | int b => obtain ⟨t, rfl⟩ := rx; exact SeqAt.EqAt.bool_int a b t
    | str b => obtain ⟨t, rfl⟩ := rx; exact SeqAt.EqAt.bool_str a b t
    | _ => exact absurd (show false = true from fx) Bool.false_ne_true
  | int a =>
    obtain ⟨t', rfl⟩ := ry
    cases x with
    | non => cases rx; exact SeqAt.EqAt.int_none a t'
    | bl b => cases rx; exact SeqAt.EqAt.int_bool a t' b
    | int b => obtain ⟨t, rfl⟩ := rx; exact SeqAt.EqAt.int_int a t' b t
    | str b => obtain ⟨t, rfl⟩ := rx; exact SeqAt.EqAt.int_str a t' b t
    | _ => exact absurd (show false = true from fx) Bool.false_ne_true
  | str a =>
    obtain ⟨t', rfl⟩ := ry
    cases x with
    | non => cases rx; exact SeqAt.EqAt.str_none a t'
    | bl b => cases rx; exact SeqAt.EqAt.str_bool a t' b
    | int b => obtain ⟨t, rfl⟩ := rx; exact SeqAt.EqAt.str_int a t' b t
    | str b => obtain ⟨t, rfl⟩ := rx; exact SeqAt.EqAt.str_str a t' b t
    | _ => exact absurd (show false = true from fx) Bool.false_ne_true
  | _ => exact absurd (show false = true from fy) Bool.false_ne_true
/-- the items' answers, read off the values (a value's own answer does not lean on its token) -/
def eqU (x : V) (u : Value) : Bool := match u with
  | .none => eqV .non x
  | .bool b => eqV (.bl b) x
  | .int i _ => eqV (.int i) x
  | .str z _ => eqV (.str z) x
  | _ => false
theorem eqU_of {x y : V} {u : Value} (r : RelV y u) (f : flatV y = true) : eqU x u = eqV y x := by
  cases y with
  | non => cases r; rfl
  | bl b => cases r; rfl
  | int i => obtain ⟨t, rfl⟩ := r; rfl
  | str z => obtain ⟨t, rfl⟩ := r; rfl
  | _ => exact absurd (show false = true from f) Bool.false_ne_true
theorem any_eqU {x : V} : ∀ {xs : List V} {us : List Value}, Vals xs us → xs.all flatV = true → us.any (eqU x) = xs.any fun y => eqV y x
  | _, _, .nil, _ => rfl
  | y :: xs, u :: us, .cons r t, f => by
    rw [List.all_cons, Bool.and_eq_true] at f
    rw [List.any_cons, List.any_cons, eqU_of r f.1, any_eqU t f.2]
theorem mem_eqAt {A : Around} {s : Shared} {x : V} {v : Value} (rx : RelV x v) (fx : flatV x = true) : ∀ {xs : List V} {us : List Value}, Vals xs us → xs.all flatV = true → ∀ u ∈ us, SeqAt.EqAt A s u v (eqU x u)
  | _, _, .nil, _ => fun u hu => by cases hu
  | y :: xs, u :: us, .cons r t, f => fun u' hu => by
    rw [List.all_cons, Bool.and_eq_true] at f
    rcases List.mem_cons.mp hu with rfl | hu
    · rw [eqU_of r f.1]; exact eqAt_V r rx f.1 fx
    · exact mem_eqAt rx fx t f.2 u' hu
def inV (x : V) (xs : List V) : Bool := xs.any fun y => eqV y x
/-- x in a list or tuple of flat items -/
def rIn (K : PySem.W.Frag) (neg : Bool) : R2 := fun x y H Q => ∃ p xs, y = .ref p ∧ (SqL K H p xs ∨ SqT K H p xs) ∧ flatV x = true ∧ xs.all flatV = true ∧ Q (.bl (if neg then !inV x xs else inV x xs)) H
theorem op_notIn_seq : OpR X (compareOp .NotIn) (rIn X.K true) := by
  intro pins s σ H x y v u Q I rx ry h
  obtain ⟨p, xs, rfl, hq, fx, fs, q⟩ := h
  cases ry
  rcases hq with hq | hq
  · obtain ⟨its, r, pl, hz⟩ := I.list hq
    refine SeqAt.notIn_listAt (eqU x) pl.isList (fun w hw => mem_eqAt rx fx r fs w (by simpa using hw)) ⟨.bl _, H, I, rfl, ?_⟩
    rw [show its.toArray.any (eqU x) = its.any (eqU x) by simp, any_eqU r fs]
    exact q
  · obtain ⟨its, r, pl, hz⟩ := I.tuple hq
    refine SeqAt.notIn_tupleAt (eqU x) pl (fun w hw => mem_eqAt rx fx r fs w (by simpa using hw)) ⟨.bl _, H, I, rfl, ?_⟩
    rw [show its.toArray.any (eqU x) = its.any (eqU x) by simp, any_eqU r fs]
    exact q
theorem call_len_seq : CallR X (.builtin "len") (fun xs H Q => ∃ p ys, xs = [.ref p] ∧ (SqL X.K H p ys ∨ SqT X.K H p ys) ∧ Q (.int ys.length) H) := by
  intro pins s σ H xs us Q I r h
  obtain ⟨p, ys, rfl, hq, q⟩ := h
  obtain ⟨u, rfl, rx⟩ := vals1 r
  cases rx
  have hn := line63
  rcases hq with hq | hq
  · obtain ⟨its, r', pl, hz⟩ := I.list hq
    have hlen := r'.length
    exact Calls.call_len_list pl.isList (by simp only [List.size_toArray] <;> omega) ⟨.int ys.length, H, I.tok _, ⟨s.toks + 1, by rw [List.size_toArray, hlen]⟩, q⟩
  · obtain ⟨its, r', pl, hz⟩ := I.tuple hq
    have hlen := r'.length
    exact len_tuple pl (by simp only [List.size_toArray] <;> omega) ⟨.int ys.length, H, I.tok _, ⟨s.toks + 1, by rw [List.size_toArray, hlen]⟩, q⟩
theorem call_len_str : CallR X (.builtin "len") (fun xs H Q => ∃ z, xs = [.str z] ∧ z.length ≤ sizeLine ∧ Q (.int z.length) H) := by
  intro pins s σ H xs us Q I r h
  obtain ⟨z, rfl, hz, q⟩ := h
  obtain ⟨u, rfl, t, rfl⟩ := vals1 r
  have hn := line63
  exact len_str (by omega) ⟨.int z.length, H, I.tok _, ⟨_, rfl⟩, q⟩
theorem CallR.or {f : Value} {r r' : List V → Hp → VK → Prop} (h : CallR X f r) (h' : CallR X f r') : CallR X f (fun xs H Q => r xs H Q ∨ r' xs H Q) := by
  intro pins s σ H xs us Q I rs q
  rcases q with q | q
  · exact h pins s σ H xs us Q I rs q
  · exact h' pins s σ H xs us Q I rs q
theorem call_tuple_of : CallR X (.type "tuple") (fun xs H Q => ∃ p ys, xs = [.ref p] ∧ ((SqL X.K H p ys ∧ ∀ l, H l = none → Q (.ref l) (upd H l (.tup ys))) ∨ (SqT X.K H p ys ∧ Q (.ref p) H))) := by
  intro pins s σ H xs us Q I r h
  obtain ⟨p, ys, rfl, h⟩ := h
  obtain ⟨u, rfl, rx⟩ := vals1 r
  cases rx
  rcases h with ⟨hq, q⟩ | ⟨hq, q⟩
  · obtain ⟨its, r', pl, hz⟩ := I.list hq
    have hlen := r'.length
    refine call_tuple_list pl.isList (fun h' kp => ?_) (by simp only [List.size_toArray] <;> omega)
    have I1 : Inv X pins σ H { s with heap := h' } := I.kept (t' := s.toks) kp
    have I2 : Inv X pins σ (upd H h'.objs.size (.tup ys)) { s with heap := h'.push { cls := .type "tuple", data := .seq its.toArray } } :=
      I1.laid (t' := s.toks) (fun b o e => Heap.get?_push_of_some _ e) (Nat.le_refl _) (show ObjOk X.prog X.w _ _ _ (.tup ys) from ⟨hz, its, r', IsTup.new _ _⟩)
    exact ⟨.ref h'.objs.size, _, I2, rfl, q _ (I1.hok.fresh (Nat.le_refl _))⟩
  · obtain ⟨its, r', pl, hz⟩ := I.tuple hq
    exact call_tuple_same pl ⟨.ref p, H, I, rfl, q⟩
/-- the value is of that builtin type -/
def tyV (K : PySem.W.Frag) (T : String) (x : V) (H : Hp) : Prop := match x with
  | .str _ => T = "str"
  | .int _ => T = "int"
  | .ref p => (T = "list" ∧ ∃ xs, SqL K H p xs) ∨ (T = "tuple" ∧ ∃ o, K.lookup p = some o ∧ o.cls = .type "tuple" ∧ o.dict = none) ∨
      (T = "dict" ∧ ((∃ kvs, H p = some (.dK kvs)) ∨ ∃ kvs, H p = some (.dT kvs))) ∨ (T = "set" ∧ ∃ S n, H p = some (.set S n))
  | _ => False
theorem tyV_is {pins : List (Addr × Obj)} {σ : St} {H : Hp} {s : Shared} {T : String} {x : V} {v : Value} (I : Inv X pins σ H s) (r : RelV x v) (ty : tyV X.K T x H) :
    s.TypeIs v T ∧ ∀ a, v = .ref a → ∃ ob, s.heap.get? a = some ob ∧ ob.dict = none := by
  cases x with
  | str z =>
    obtain ⟨t, rfl⟩ := r
    cases (show T = "str" from ty)
    exact ⟨typeIs_str s z t, fun _ e => nomatch e⟩
  | int i =>
    obtain ⟨t, rfl⟩ := r
    cases (show T = "int" from ty)
    exact ⟨typeIs_int s i t, fun _ e => nomatch e⟩
  | ref p =>
    cases r
    rcases ty with ⟨rfl, xs, hq⟩ | ⟨rfl, o, hk, hc, hd⟩ | ⟨rfl, hk⟩ | ⟨rfl, S, n, hk⟩
    · obtain ⟨its, _, pl, _⟩ := I.list hq
      refine ⟨pl.isList.typeIs, fun a e => ?_⟩
      cases e
      obtain ⟨o, n, e, c, hd, _⟩ := pl
      exact ⟨o, e, hd⟩
    · refine ⟨⟨o, I.kIn p o hk, hc⟩, fun a e => ?_⟩
      cases e
      exact ⟨o, I.kIn _ o hk, hd⟩
    · have z : ∃ o, s.heap.get? p = some o ∧ o.ExactDict := by
        rcases hk with ⟨kvs, hk⟩ | ⟨kvs, hk⟩
        · obtain ⟨_, _, _, _, o, _, _, e, ex, _⟩ := I.hok p _ hk
          exact ⟨o, e, ex⟩
        · obtain ⟨_, _, _, _, o, _, _, e, ex, _⟩ := I.hok p _ hk
          exact ⟨o, e, ex⟩
      obtain ⟨o, e, ex⟩ := z
      refine ⟨⟨o, e, ex.1⟩, fun a e2 => ?_⟩
      cases e2
      exact ⟨o, e, ex.2.1⟩
    · obtain ⟨o, _, _, _, e, ex, _⟩ := I.hok p _ hk
      refine ⟨⟨o, e, ex.1⟩, fun a e2 => ?_⟩
      cases e2
      exact ⟨o, e, ex.2.1⟩
  | _ => exact False.elim ty
def tBM0 (K : PySem.W.Frag) (T : String) (r : V → List V → Hp → VK → Prop) (to : TE) : TE := fun σ H Q => to σ H fun x H1 => tyV K T x H1 ∧ r x [] H1 Q
def tBM (K : PySem.W.Frag) (T : String) (r : V → List V → Hp → VK → Prop) (to : TE) (t : TA) : TE := fun σ H Q => to σ H fun x H1 => tyV K T x H1 ∧ t σ H1 fun xs H2 => r x xs H2 Q
variable {o e : Expr} {es : List Expr} {to : TE} {t : TA} {name : Str} {apos cpos : Pos} {T id : String} {r : V → List V → Hp → VK → Prop}
theorem pe_bm0 (pa : PlainAttrs T) (slot : Slot T name id) (hty : typeOf (.builtin id) = pure (.type "method_descriptor")) (hm : MtR X id r) (ho : PE X o to)
    (hbase : attributeBase o name X.env (eval o X.env) = eval o X.env := by rfl) (hline : (apos.endLine == cpos.line) = true := by rfl) : PE X (.Call (.Attribute o name apos) [] [] cpos) (tBM0 X.K T r to) := by
  intro pins s σ H Q I h
  refine wpAny_Call_method0_late hbase hline (thn (ho pins s σ H _ I h) fun v s1 ⟨x, H1, I1, r1, ty, q1⟩ => ?_)
  obtain ⟨h1, h2⟩ := tyV_is I1 r1 ty
  exact ⟨T, id, pa, slot, hty, h1, h2, Calls.callWith_builtin rfl (PySem.evalArgs_none (hm pins s1 σ H1 x [] v [] Q I1 r1 .nil q1))⟩
theorem pe_bm (pa : PlainAttrs T) (slot : Slot T name id) (hty : typeOf (.builtin id) = pure (.type "method_descriptor")) (hm : MtR X id r) (ho : PE X o to) (ha : PA X (e :: es) t)
    (hbase : attributeBase o name X.env (eval o X.env) = eval o X.env := by rfl)
    (hfew : ((backTo cpos (starEach (e :: es) X.env)).all (fun x => !x.1) && (backToKw cpos (keywordEach [] X.env)).all (fun x => x.1.isSome)
      && decide ((e :: es).length + ([] : List Keyword).length + (if ([] : List Keyword).isEmpty then 0 else 1) < 30)) = true := by rfl)
    (hline : (apos.endLine == cpos.line) = true := by rfl) (hs : starEach (e :: es) X.env = (false, eval e X.env) :: starEach es X.env := by rfl) (hplain : (backTo cpos (starEach es X.env)).any (·.1) = false := by rfl) :
    PE X (.Call (.Attribute o name apos) (e :: es) [] cpos) (tBM X.K T r to t) := by
  intro pins s σ H Q I h
  refine wpAny_Call_method_late hbase hfew hline rfl (thn (ho pins s σ H _ I h) fun v s1 ⟨x, H1, I1, r1, ty, q1⟩ => ?_)
  obtain ⟨h1, h2⟩ := tyV_is I1 r1 ty
  refine ⟨T, id, pa, slot, hty, h1, h2, ?_⟩
  have hA := ha cpos pins s1 σ H1 _ I1 q1
  rw [hs] at hA ⊢
  refine Calls.callWith_builtin (by show (false || (backTo cpos (starEach es X.env)).any (·.1)) = false; rw [hplain] <;> rfl) (Calls.evalArgs_plain ?_)
  exact thn hA fun us s2 ⟨vs, H2, I2, r2, q2⟩ => hm pins s2 σ H2 x vs v us Q I2 r1 r2 q2
end
end L2
namespace L2
open PySem PySem.Spec PyProof.Rows
def MtM (X : Cx) (id : String) (r : V → List V → Hp → VK → Prop) : Prop :=
  ∀ (pins : List (Addr × Obj)) (s : Shared) (σ : St) (H : Hp) (x : V) (xs : List V) (v : Value) (us : List Value) (Q : VK), Inv X pins σ H s → RelV x v → Vals xs us → r x xs H Q →
    wpAny (model X.prog X.w) X.A (call (.builtin id) (v :: us)) (EP X pins σ Q) X.xe s
theorem Vals.one : ∀ {x : V} {us : List Value}, Vals [x] us → ∃ u, us = [u] ∧ RelV x u
  | _, _, .cons r .nil => ⟨_, rfl, r⟩
theorem Vals.zero : ∀ {us : List Value}, Vals [] us → us = []
  | _, .nil => rfl
theorem Vals.dropLast {xs : List V} {us : List Value} (h : Vals xs us) : Vals xs.dropLast us.dropLast := by
  induction h with
  | nil => exact .nil
  | cons r t ih =>
    cases t with
    | nil => exact .nil
    | cons q t' => exact .cons r ih
theorem Vals.reverse {xs : List V} {us : List Value} (h : Vals xs us) : Vals xs.reverse us.reverse := by
  induction h with
  | nil => exact .nil
  | cons r t ih => rw [List.reverse_cons, List.reverse_cons]; exact Vals.append ih (.cons r .nil)
theorem Vals.rep {xs : List V} {us : List Value} (h : Vals xs us) : ∀ k : Nat, Vals (List.replicate k xs).flatten (List.replicate k us).flatten
  | 0 => .nil
  | k + 1 => by
    rw [List.replicate_succ, List.replicate_succ, List.flatten_cons, List.flatten_cons]
    exact Vals.append h (Vals.rep h k)
theorem erase_last {α : Type} (l : List α) : l.eraseIdx (l.length - 1) = l.dropLast := by
  induction l with
  | nil => rfl
  | cons a r ih =>
    cases r with
    | nil => rfl
    | cons b r =>
      have e : (a :: b :: r).length - 1 = ((b :: r).length - 1) + 1 := by
        have h1 : (a :: b :: r).length = r.length + 2 := rfl
        have h2 : (b :: r).length = r.length + 1 := rfl
        omega
      rw [e, List.eraseIdx_cons_succ, ih]
      all_goals rfl
theorem foldl_rep (its : List Value) : ∀ (k : Nat) (acc : List Value),
    List.foldl (fun x1 x2 => x1 ++ x2) acc.toArray (List.replicate k its.toArray) = (acc ++ (List.replicate k its).flatten).toArray
  | 0, acc => by simp
  | k + 1, acc => by
    have e : acc.toArray ++ its.toArray = (acc ++ its).toArray := by simp
    have e2 : (acc ++ its) ++ (List.replicate k its).flatten = acc ++ (List.replicate (k + 1) its).flatten := by
      rw [List.replicate_succ, List.flatten_cons, List.append_assoc]
    rw [← e2, ← foldl_rep its k (acc ++ its), ← e, List.replicate_succ, List.foldl_cons]
section
variable {X : Cx} {pins : List (Addr × Obj)} {σ : St} {H : Hp} {s : Shared} {l b : Addr} {xs ys zs : List V}
theorem Inv.lset {its its' : List Value} {n : Nat} {f : Array Value → Array Value} {t' : Nat} (I : Inv X pins σ H s) (hH : H l = some (.lst xs))
    (e : s.heap.get? l = some { cls := .type "list", data := .seq its.toArray n }) (hf : f its.toArray = its'.toArray) (hv : Vals ys its') (hz : ys.length ≤ sizeLine) :
    Inv X pins σ (upd H l (.lst ys)) { s with heap := s.heap.update l (Obj.mapSeq f), toks := t' } := by
  have q := PySem.IsL.update e f
  rw [hf] at q
  refine I.write (x := l) (e := l) (by rw [hH]; exact trivial) (.inl rfl) (fun b' u hb hu => (Heap.get?_update_other s.heap (Obj.mapSeq f) (Ne.symm hb)).trans hu) ⟨_, q⟩ ?_
  exact ⟨hz, its', _, hv, q⟩
theorem Inv.lnew {its : List Value} {t' : Nat} (I : Inv X pins σ H s) (hv : Vals ys its) (hz : ys.length ≤ sizeLine) :
    Inv X pins σ (upd H s.heap.objs.size (.lst ys)) { s with heap := s.heap.push { cls := .type "list", data := .seq its.toArray }, toks := t' } :=
  I.laid (fun _ _ q => Heap.get?_push_of_some _ q) (Nat.le_refl _) ⟨hz, its, 0, hv, Heap.get?_push_size _ rfl⟩
theorem Inv.fresh (I : Inv X pins σ H s) : H s.heap.objs.size = none := I.hok.fresh (Nat.le_refl _)
theorem Inv.lstM (I : Inv X pins σ H s) (hH : H l = some (.lst xs)) : xs.length ≤ sizeLine ∧ ∃ (its : List Value) (n : Nat), Vals xs its ∧ xs.length = its.length ∧ s.heap.get? l = some { cls := .type "list", data := .seq its.toArray n } := by
  obtain ⟨z, its, n, r, e⟩ := I.hok l _ hH
  exact ⟨z, its, n, r, r.length, e⟩
theorem notLongL {n : Nat} (h : n ≤ sizeLine) : Builtin.List.listTooLong n = false := by
  unfold Builtin.List.listTooLong
  exact decide_eq_false (by omega)
end
section
variable {X : Cx}
def rAppend : V → List V → Hp → VK → Prop := fun x vs H Q => ∃ l xs y, x = .ref l ∧ vs = [y] ∧ H l = some (.lst xs) ∧ xs.length < sizeLine ∧ Q .non (upd H l (.lst (xs ++ [y])))
theorem mt_append : MtM X "list.append" rAppend := by
  intro pins s σ H x vs v us Q I rx rv h
  obtain ⟨l, xs, y, rfl, rfl, hH, hz, q⟩ := h
  cases rx
  obtain ⟨u, rfl, ru⟩ := rv.one
  obtain ⟨z, its, n, r, hl, e⟩ := I.lstM hH
  refine call_meets F.slot_list_append ⟨_, e, rfl⟩ F.entry_list_append (F.args_list_append_2 _ _) (PySem.list_append l its.toArray n u (by rw [List.size_toArray]; omega)) ⟨e, ?_⟩
  refine ⟨.non, _, I.lset (its' := its ++ [u]) hH e (by simp) (r.append (.cons ru .nil)) ?_, rfl, q⟩
  rw [List.length_append, List.length_singleton]
  omega
def rExtend : V → List V → Hp → VK → Prop := fun x vs H Q => ∃ l b xs zs, x = .ref l ∧ vs = [.ref b] ∧ H l = some (.lst xs) ∧ H b = some (.lst zs) ∧ xs.length + zs.length ≤ sizeLine ∧ Q .non (upd H l (.lst (xs ++ zs)))
theorem mt_extend : MtM X "list.extend" rExtend := by
  intro pins s σ H x vs v us Q I rx rv h
  obtain ⟨l, b, xs, zs, rfl, rfl, hH, hB, hz, q⟩ := h
  cases rx
  obtain ⟨u, rfl, ru⟩ := rv.one
  cases ru
  obtain ⟨z, its, n, r, hl, e⟩ := I.lstM hH
  obtain ⟨z2, its2, n2, r2, hl2, e2⟩ := I.lstM hB
  have hsz : its.toArray.size + its2.toArray.size ≤ sizeLine := by rw [List.size_toArray, List.size_toArray]; omega
  have hlong : ¬ (!its.toArray.isEmpty && Builtin.List.listTooLong (its.toArray.size + its2.toArray.size)) = true := by
    rw [notLongL hsz, Bool.and_false]
    exact Bool.false_ne_true
  refine call_meets F.slot_list_extend ⟨_, e, rfl⟩ F.entry_list_extend (F.args_list_extend_2 _ _)
    (AutoSeq1.list_extend_list_list_0 l its.toArray n b its2.toArray n2 hlong (by rw [List.size_toArray]; omega) (by omega)) ⟨e, e2, ?_⟩
  refine ⟨.non, _, I.lset (its' := its ++ its2) hH e (by simp) (r.append r2) ?_, rfl, q⟩
  rw [List.length_append]
  omega
def rPop : V → List V → Hp → VK → Prop := fun x vs H Q => ∃ l xs y, x = .ref l ∧ vs = [] ∧ H l = some (.lst xs) ∧ xs[xs.length - 1]? = some y ∧ Q y (upd H l (.lst xs.dropLast))
theorem mt_pop : MtM X "list.pop" rPop := by
  intro pins s σ H x vs v us Q I rx rv h
  obtain ⟨l, xs, y, rfl, rfl, hH, hy, q⟩ := h
  cases rx
  have hus := rv.zero
  subst hus
  obtain ⟨z, its, n, r, hl, e⟩ := I.lstM hH
  obtain ⟨u, hu, ru⟩ := r.get hy
  have hy' : its.toArray[its.toArray.size - 1]? = some u := by
    show its.toArray[its.length - 1]? = some u
    rw [← Array.getElem?_toList, ← hl]
    exact hu
  refine call_meets F.slot_list_pop ⟨_, e, rfl⟩ F.entry_list_pop (F.args_list_pop_1 _) (MeetsSeq.list_pop_last l its.toArray n u hy' (by rw [List.size_toArray]; omega)) ⟨e, ?_⟩
  refine ⟨y, _, I.lset (its' := its.dropLast) hH e ?_ r.dropLast ?_, ru, q⟩
  · show its.toArray.eraseIdxIfInBounds (its.toArray.size - 1) = its.dropLast.toArray
    rw [List.size_toArray, List.eraseIdxIfInBounds_toArray, erase_last]
  · rw [List.length_dropLast]
    omega
def rCat : R2 := fun x y H Q => ∃ l b xs zs, x = .ref l ∧ y = .ref b ∧ H l = some (.lst xs) ∧ H b = some (.lst zs) ∧ xs.length + zs.length ≤ sizeLine ∧ ∀ p, H p = none → Q (.ref p) (upd H p (.lst (xs ++ zs)))
theorem op_cat : OpR X (binaryOp .Add) rCat := by
  intro pins s σ H x y v u Q I rx ry h
  obtain ⟨l, b, xs, zs, rfl, rfl, hH, hB, hz, q⟩ := h
  cases rx
  cases ry
  obtain ⟨z, its, n, r, hl, e⟩ := I.lstM hH
  obtain ⟨z2, its2, n2, r2, hl2, e2⟩ := I.lstM hB
  refine PySem.P.add_list e e2 ?_ (by rw [List.size_toArray, List.size_toArray]; omega)
  have ea : its.toArray ++ its2.toArray = (its ++ its2).toArray := by simp
  rw [ea]
  exact ⟨.ref _, _, I.lnew (t' := s.toks) (r.append r2) (by rw [List.length_append]; omega), rfl, q _ I.fresh⟩
/-- a list times an int (a negative one is nothing) -/
def rRep : R2 := fun x y H Q => ∃ l k xs, x = .ref l ∧ y = .int k ∧ H l = some (.lst xs) ∧ -(2 ^ 63) ≤ k ∧ k < 2 ^ 63 ∧ xs.length * k.toNat ≤ sizeLine ∧
  ∀ p, H p = none → Q (.ref p) (upd H p (.lst (List.replicate k.toNat xs).flatten))
theorem len_rep {α : Type} (xs : List α) (k : Nat) : (List.replicate k xs).flatten.length = k * xs.length := by
  induction k with
  | zero => simp
  | succ k ih => rw [List.replicate_succ, List.flatten_cons, List.length_append, ih, Nat.succ_mul, Nat.add_comm]
theorem op_rep : OpR X (binaryOp .Mult) rRep := by
  intro pins s σ H x y v u Q I rx ry h
  obtain ⟨l, k, xs, rfl, rfl, hH, h1, h2, hz, q⟩ := h
  cases rx
  obtain ⟨t, rfl⟩ := ry
  obtain ⟨z, its, n, r, hl, e⟩ := I.lstM hH
  have hlen : its.toArray.size * k.toNat ≤ sizeLine := by rw [List.size_toArray, ← hl]; exact hz
  have hcap : ¬ its.toArray.size * k.toNat > (2 ^ 63 - 1) / 8 := by
    have : (sizeLine : Nat) ≤ (2 ^ 63 - 1) / 8 := by decide
    omega
  have hfit : ¬ (!Builtin.List.listFitsIndex k) = true := by
    rw [fitsIndex_both h1 h2]
    exact Bool.false_ne_true
  have hlong : ¬ Builtin.List.listTooLong (its.toArray.size * k.toNat) = true := by
    rw [notLongL hlen]
    exact Bool.false_ne_true
  have hnew : List.foldl (fun x1 x2 => x1 ++ x2) #[] (List.replicate (if its.toArray.isEmpty = true then 0 else k.toNat) its.toArray) = (List.replicate k.toNat its).flatten.toArray := by
    have f0 : ∀ m : Nat, List.foldl (fun x1 x2 => x1 ++ x2) #[] (List.replicate m its.toArray) = (List.replicate m its).flatten.toArray := fun m => by
      have := foldl_rep its m []
      rw [List.nil_append] at this
      exact this
    rw [f0]
    cases its with
    | nil => simp
    | cons a r' => rw [if_neg (by simp)]
  refine wpAny_binaryOp_repeat_ref (T := "list") (U := "int") (by decide) ⟨_, e, rfl⟩ (fun s' => typeIs_int s' k t) noFill_list_mul F.fills_int_mul F.slot_int_rmul repeat_list F.slot_int_index.lookup
    (call_meets F.slot_int_rmul (typeIs_int s k t) F.entry_int_rmul (F.args_int_rmul_2 _ _) (int___rmul___int_list k t l its.toArray n)
      ⟨e, rfl, ⟨_, e, rfl⟩, call_meets F.slot_list_mul ⟨_, e, rfl⟩ F.entry_list_mul (F.args_list_mul_2 _ _) (AutoListH.list___mul___list_int_3 l its.toArray n k t hfit hcap hlong) ⟨e, ?_⟩⟩)
  rw [hnew]
  exact ⟨.ref _, _, I.lnew (t' := s.toks) (r.rep k.toNat) (by rw [len_rep, Nat.mul_comm]; exact hz), rfl, q _ I.fresh⟩
end
section
variable {prog : Program} {w : World} {A : Around} {E : Value → Shared → Prop} {s : Shared}
end
section
variable {X : Cx}
end
end L2
namespace Att
open PySem PySem.W PySem.Calls PyProof.Rows
theorem ints_of_wellAll {P : Params} {h : Heap} : ∀ (ns : List Int) (vs : List Value), WellAll P h vs (ns.map WData.int) → IntsAre vs ns := by
  intro ns
  induction ns with
  | nil =>
    intro vs w
    rw [List.map_nil] at w
    cases w
    exact .nil
  | cons n ns ih =>
    intro vs w
    rw [List.map_cons] at w
    cases w with
    | cons a b =>
      cases a
      exact .cons _ _ (ih _ b)
theorem script_of {l : OpenLaw} {n : Nat} (hn : l.most = some n) {P : Params} {h : Heap} {args : List WData} {vals : List Value}
    (hpre : l.row.toRowW.claim.pre args = true) (hwl : WellAll P h vals args) :
    ∃ a vs ns, vals = [Value.ref a] ∧ args = [WData.list (ns.map WData.int)] ∧ h.get? a = some { cls := .type "list", data := .seq vs.toArray } ∧ IntsAre vs ns ∧ ns.length ≤ n := by
  have hsh : WShape.hasAll [] args [.list .int] = true := (pre_splitW hpre).1
  have hc : l.pre.holds [] { args := args } = true := (pre_splitW hpre).2
  obtain ⟨d, r, rfl, h1, h2⟩ := hasAllW_cons hsh
  obtain rfl := hasAllW_nil h2
  obtain ⟨xs, rfl, h3⟩ := hasW_list h1
  obtain ⟨ns, rfl⟩ := items_int h3
  have hlen : ns.length ≤ n := by
    unfold OpenLaw.pre at hc
    have h4 : (WTm.not (.lt (.lit (.int (n : Int))) (.len (.arg 0)))).holds [] { args := [.list (ns.map .int)] } = true := by
      have h4 := (holds_andW hc).1
      rw [hn] at h4
      exact h4
    have h5 := condW_of h4 (w_not (w_lt w_lit (w_len_list (w_arg rfl))))
    rw [List.length_map] at h5
    refine Nat.le_of_not_lt fun q => ?_
    have q' : (n : Int) < ((ns.length : Nat) : Int) := by omega
    first
      | (rw [decide_eq_true q'] at h5; exact absurd h5 (by decide))
      | (simp at h5; omega)
  cases hwl with
  | cons w1 w2 =>
    cases w2
    cases w1 with
    | list ho hall => exact ⟨_, _, ns, rfl, rfl, ho, ints_of_wellAll ns _ hall, hlen⟩
theorem post_true (l : OpenLaw) (args : List WData) : l.row.toRowW.claim.post args (.bool true) args = true :=
  postW_of (r := l.row.toRowW) (X := (true == true))
    (show WShape.has [] (.bool true) .bool = true by first | rfl | decide | simp [WShape.has, WShape.arms, WShape.armsAll])
    (show (WTm.eq .res (.lit (.bool true))).value [] { args := args, res := some (.bool true), after := args } = some (.bool (true == true)) from w_eq_bool (w_res rfl) w_lit) rfl
/-- the same from a codeAny of the CALL (for a layer whose function contracts speak of calls) -/
theorem attach_call {l : OpenLaw} {n : Nat} {q : Program} {loose : List Str} {XP : (Str → Option Value) → Heap → Prop} {YP : World → Heap → Prop} {d : DefRec}
    (hn : l.most = some n) (hdf : d.params.defaults = [])
    (call : ∀ (w : World) (s₀ s₁ : Shared) (mg mb : Str → Option Value) (fa : Addr) (o : Obj) (pm cd doc : Value) (a : Addr) (vs : List Value) (ns : List Int),
      Ground q loose [] XP w s₀ mg mb s₁.heap → YP w s₁.heap →
      s₁.heap.get? fa = some o → o.data = .func (docDef d.name d.params d.body d.scope pm cd doc) → s₁.heap.CodeRec cd d.name → mg d.name = some (.ref fa) →
      s₁.heap.get? a = some { cls := .type "list", data := .seq vs.toArray } → IntsAre vs ns → ns.length ≤ n → s₁.gens = #[] →
      codeAny (model l.prog w) callerA (.call (.ref fa) ⟨[.ref a], []⟩) (fun r s' => r = .ok (.ret (.bool true)) ∧ OldK s₁.heap s'.heap ∧ s'.os = s₁.os ∧ AllBare s'.gens) s₁) :
    WalkO q loose XP YP l.row.toRowW d [] (fun f vs => PySem.call f vs) := by
  intro w s₀ s₁ mg mb G Y fa o pm cd doc dV kV ho hd hcd hD hmg hg args vals as hpre hlay hrd hwl hlo
  obtain rfl : dV = .none := Dflts.none hD hdf
  obtain rfl : kV = .none := Dflts.noKw hD
  obtain ⟨a, vs, ns, rfl, rfl, hobj, hints, hlen⟩ := script_of hn hpre hwl
  refine enter_call (codeAny_mono (call w s₀ s₁ mg mb fa o pm cd doc a vs ns G Y ho (fd_plain hd) hcd hmg hobj hints hlen hg) fun r s' hq => ?_)
  obtain ⟨rfl, h2, h3, h4⟩ := hq
  exact ⟨.inl ⟨.bool true, .bool true, [], rfl, fun _ => rfl, .bool true, post_true l _, fun _ => ⟨List.Pairwise.nil, fun _ hm => (nomatch hm)⟩⟩, h2, h3, h4⟩
section
variable {prog : Program} {w : World} {A : Around} {E : Value → Shared → Prop} {s : Shared} {K : Frag}
end
end Att
namespace L2
open PySem PySem.Spec PyProof.Rows
theorem vals_ints : ∀ {vs : List Value} {ns : List Int}, IntsAre vs ns → Vals (ns.map V.int) vs
  | _, _, .nil => .nil
  | _, _, .cons n t h => .cons ⟨t, rfl⟩ (vals_ints h)
/-- nothing is tracked but the script, known to the object (or it is an object of the module) -/
def Only (H : Hp) : Prop := ∀ b, H b = none ∨ ∃ o xs, H b = some (.frz o (.lst xs))
/-- THE HEAD: the law's promise, at the heap behind the top. F, the promise of the law's def, may use that base is part of the heap (so K.In base, base.Ns mainGlobals mg stand in Mod) -/
theorem law_call {P : Program} {w : World} {K : PySem.W.Frag} {mg mb : Str → Option Value} {CX : CXT} {k : Nat} {fa a : Addr} {fd : FuncData} {x : Str} {sp : Sp} {s₁ : Shared} {vs : List Value} {ns : List Int}
    (KX : K.In s₁.heap) (hns : s₁.heap.Ns mainGlobals mg) (hb : s₁.heap.Ns builtinsNs mb) (hbb : ∀ x : Str, x ≠ "__name__" → mb x = bootBuiltins x) (hlim : s₁.heap.NoLimit) (hg : s₁.gens = #[])
    (ha : s₁.heap.get? a = some { cls := .type "list", data := .seq vs.toArray }) (hi : IntsAre vs ns) (hl : ns.length ≤ sizeLine) (hr : Room k callerA)
    (F : ∀ base : Heap, K.In base → base.Ns mainGlobals mg → FnOk P w K mg base CX k fa fd [x] sp) (hbind : ∀ (s : Shared) (u : Value), BindsTo s fd ⟨[u], []⟩ [(x, u)])
    (hsp : ∀ H : Hp, Only H → SqL K H a (ns.map V.int) → sp [.ref a] H (fun v _ => v = .bl true) fun _ _ _ => False)
    (hCX : ∀ H e s', CX [] H s₁ (fun _ _ _ => False) e s' → False) :
    codeAny (model P w) callerA (.call (.ref fa) ⟨[.ref a], []⟩) (fun r s' => r = .ok (.ret (.bool true)) ∧ OldK s₁.heap s'.heap ∧ s'.os = s₁.os ∧ AllBare s'.gens) s₁ := by
  have rv := vals_ints hi
  have lenV := hi.length
  -- from an abstract heap in which nothing but the script may be tracked
  have core : ∀ H : Hp, Only H → SqL K H a (ns.map V.int) → HOk P w H s₁.heap → (∀ b, H b ≠ none → b = a) → (H a ≠ none → K.lookup a = none) →
      codeAny (model P w) callerA (.call (.ref fa) ⟨[.ref a], []⟩) (fun r s' => r = .ok (.ret (.bool true)) ∧ OldK s₁.heap s'.heap ∧ s'.os = s₁.os ∧ AllBare s'.gens) s₁ := by
    intro H hO hS hok hA hK
    have base_of : ∀ {b : Addr} {o : Obj}, s₁.heap.get? b = some o → H b = none → (hidT s₁.heap H).get? b = some o := fun e n => hidT_get e n
    have noA : ∀ {b : Addr} {o : Obj} {es : Array DictEntry} {ep : Nat}, s₁.heap.get? b = some o → o.data = .dict es ep → H b = none := fun {b o es ep} e d => by
      cases q : H b with
      | none => rfl
      | some u =>
        have e' : b = a := hA b (by rw [q]; simp)
        subst e'
        rw [ha] at e; cases e
        have d' : Data.seq vs.toArray _ = Data.dict es ep := d
        cases d'
    have nsK : ∀ {b : Addr} {m : Str → Option Value}, s₁.heap.Ns b m → (hidT s₁.heap H).Ns b m := fun {b m} ⟨o, es, ep, e, d, r⟩ => ⟨o, es, ep, base_of e (noA e d), d, r⟩
    have hKb : K.In (hidT s₁.heap H) := fun b o e => base_of (KX b o e) (by
      cases q : H b with
      | none => rfl
      | some u =>
        have e' : b = a := hA b (by rw [q]; simp)
        subst e'
        rw [hK (by rw [q]; simp)] at e; cases e)
    have hM : Mod K mg (hidT s₁.heap H) := ⟨hKb, nsK hns, ⟨mb, nsK hb, hbb⟩, let ⟨mc, h1, h2⟩ := hlim; ⟨mc, nsK h1, h2⟩⟩
    have e0 : Env0 P w K mg (hidT s₁.heap H) callerA [] s₁ H := ⟨rfl, hM, fun b o e => of_hidT e, Nat.le_of_eq (hidT_size _ _), trivial, fun b hb => absurd (show b ∈ ([] : List Addr) from hb) (by simp), hok, .of_eq hg⟩
    refine codeAny_mono ((F _ hKb (nsK hns)).run callerA [] s₁ H ⟨[.ref a], []⟩ [.ref a] [.ref a] _ _ hr e0 (hbind s₁ (.ref a)) (.cons rfl .nil) (hsp H hO hS)) fun r s' h => ?_
    cases r with
    | error e => exact (hCX H e s' h).elim
    | ok fl =>
      cases fl with
      | next => exact False.elim h
      | brk => exact False.elim h
      | cont => exact False.elim h
      | ret u =>
        obtain ⟨v, H', os, bare, un, hok', r', q⟩ := h
        have q' : v = .bl true := q
        subst q'
        obtain rfl : u = Value.bool true := r'
        refine ⟨rfl, OldK.of_keep fun b o e => ?_, os, bare⟩
        cases q : H b with
        | none => exact un.keep b o e q (by intro z; exact absurd (show b ∈ ([] : List Addr) from z) (by simp)) (by simp)
        | some u =>
          rcases hO b with z | ⟨ob, xs, z⟩
          · rw [q] at z; cases z
          · have z2 := un.frzs b ob _ z
            obtain ⟨e1, _⟩ := hok b _ z
            obtain ⟨e2, _⟩ := hok' b _ z2
            rw [e] at e1; cases e1
            exact e2
  cases hk : K.lookup a with
  | some o =>
    -- the script is one of the module's own objects
    have e := KX a o hk
    rw [ha] at e
    cases e
    refine core (fun _ => none) (fun _ => .inl rfl) (.inr ⟨_, vs.toArray, _, hk, rfl, rfl, rfl, by rw [List.size_toArray, lenV]; exact hl, by simpa using rv⟩) (fun b u z => by have z' : (none : Option HO) = some u := z; cases z') (fun b z => absurd rfl z) fun z => absurd rfl z
  | none =>
    refine core (fun b => if b = a then some (.frz { cls := .type "list", data := .seq vs.toArray } (.lst (ns.map V.int))) else none) (fun b => ?_) (.inl (.inr ⟨{ cls := .type "list", data := .seq vs.toArray }, if_pos rfl⟩)) (fun b u z => ?_) (fun b z => ?_) fun _ => hk
    · by_cases hb : b = a
      · exact .inr ⟨_, _, if_pos hb⟩
      · exact .inl (if_neg hb)
    · by_cases hb : b = a
      · have z' := (if_pos hb).symm.trans z
        cases z'
        subst hb
        exact ⟨ha, by rw [List.length_map]; exact hl, vs, _, rv, ha⟩
      · have z' := (if_neg hb).symm.trans z
        cases z'
    · by_cases hb : b = a
      · exact hb
      · exact absurd (if_neg hb) z
end L2
namespace L2
open PySem PySem.Spec PyProof.Rows
/-- the goal that k_head leaves (case hc), from the law's promise. F gives the function object fd (K's own) once, then the promise over every base -/
theorem walk_of {l : PySem.W.OpenLaw} {n k : Nat} {q : Program} {loose : List Str} {XP : (Str → Option Value) → Heap → Prop} {YP : World → Heap → Prop} {d : DefRec} {K : Params → PySem.W.Frag} {CX : World → CXT} {sp : World → Sp} {x : Str}
    (hn : l.most = some n) (hn2 : n ≤ sizeLine) (hdf : d.params.defaults = []) (hr : Room k callerA)
    (hY : ∀ (w : World) (h : Heap), YP w h → (K w.params).In h)
    (F : ∀ (w : World) (mg : Str → Option Value) (fa : Addr) (h : Heap), (K w.params).In h → h.Ns mainGlobals mg → mg d.name = some (.ref fa) →
      ∃ fd : FuncData, (∀ (s : Shared) (u : Value), BindsTo s fd ⟨[u], []⟩ [(x, u)]) ∧
        ∀ base : Heap, (K w.params).In base → base.Ns mainGlobals mg → FnOk l.prog w (K w.params) mg base (CX w) k fa fd [x] (sp w))
    (hsp : ∀ (w : World) (H : Hp) (a : Addr) (ns : List Int), ns.length ≤ n → Only H → SqL (K w.params) H a (ns.map V.int) → sp w [.ref a] H (fun v _ => v = .bl true) fun _ _ _ => False)
    (hCX : ∀ (w : World) (H : Hp) (s : Shared) (e : Value) (s' : Shared), CX w [] H s (fun _ _ _ => False) e s' → False) :
    PySem.W.WalkO q loose XP YP l.row.toRowW d [] (fun f vs => PySem.call f vs) := by
  refine Att.attach_call hn hdf fun w s₀ s₁ mg mb fa o pm cd doc a vs ns G Y ho hd hcd hmg hobj hints hlen hg => ?_
  have KX := hY w _ Y
  obtain ⟨fd, hb, hF⟩ := F w mg fa _ KX G.T.g hmg
  exact law_call KX G.T.g G.T.b G.T.builtins G.T.nolimit hg hobj hints (Nat.le_trans hlen hn2) hr hF hb (fun H hO hS => hsp w H a ns hlen hO hS) fun H e s' => hCX w H s₁ e s'
end L2
namespace L2
open PySem PySem.Spec PyProof.Rows
/-- the j-th statement of a class's body -/
def inClass (s : Stmt) (j : Nat) : Stmt := match s with
  | .ClassDef _ _ _ body _ _ _ _ _ _ _ => body.getD j (.Pass ⟨0, 0, 0, 0⟩)
  | _ => .Pass ⟨0, 0, 0, 0⟩
def defArgs (s : Stmt) : Arguments := match s with
  | .FunctionDef _ a _ _ _ _ _ _ _ _ => a
  | _ => { posonlyargs := [], args := [], vararg := none, kwonlyargs := [], kw_defaults := [], kwarg := none, defaults := [] }
def defBody (s : Stmt) : List Stmt := match s with
  | .FunctionDef _ _ b _ _ _ _ _ _ _ => b
  | _ => []
def defScope (s : Stmt) : Scope := match s with
  | .FunctionDef _ _ _ _ _ _ sc _ _ _ => sc
  | _ => { kind := .function, names := [], isGenerator := false, isCoroutine := false }
abbrev CX0 : CXT := fun _ _ _ _ _ _ => False
abbrev E0 : XK := fun _ _ _ => False
theorem pass0 {X : Cx} : Passes CX0 X E0 := fun _ _ _ _ _ _ _ h => h.elim
structure Fun (K : PySem.W.Frag) (x qual : Str) (st : Stmt) (f : Addr) (fd : FuncData) : Prop where
  ex : ∃ (oc : Value) (od : Option Addr) (kV doc pm : Value) (an : Option Addr) (cdv ct : Value) (osl : Array (Option Value)),
    fd = PySem.W.fnOf x qual (defArgs st) (defBody st) (defScope st) .none kV doc pm an cdv ct ∧ K.lookup f = some ⟨oc, od, .func fd, osl⟩ ∧ PySem.W.codeIn K cdv qual = true
  kp : PySem.W.keepIn K (.ref f) = true
section
variable {P : Program} {w : World} {K : PySem.W.Frag} {mg : Str → Option Value} {base : Heap}
/-- THE RULE for a def: its body as a term of rules, and the reading of that term -/
theorem Fun.ok {x qual : Str} {st : Stmt} {f : Addr} {fd : FuncData} {N ps : List Str} {k : Nat} {sp : Sp} (F : Fun K x qual st f fd) (S : FnScope N ps (defScope st)) (len : ∀ vs H Q E, sp vs H Q E → vs.length = ps.length)
    (hbody : ∀ (cdv : Value) (A : Around) (outer : List Env) (s : Shared) (H : Hp) (vs : List V) (Q : VK) (E : XK), Room k (A.deeper (envOfC qual (defScope st) s.heap.objs.size f cdv)) → sp vs H Q E →
      ∃ t, PSs (cxOf CX0 P w K mg base N qual (defScope st) f cdv A outer s H E).nox (defBody st) t ∧ t { nx := fun _ H' => Q .non H', rt := Q } (start N vs) H) : FnOk P w K mg base CX0 (k + 1) f fd ps sp := by
  obtain ⟨oc, od, kV, doc, pm, an, cdv, ct, osl, rfl, lk, hcd⟩ := F.ex
  refine fn_of lk hcd S len fun A outer s H vs Q E hr hsp => ?_
  obtain ⟨t, h, q⟩ := hbody cdv A outer s H vs Q E hr hsp
  exact ⟨t, h.nox, q⟩
/-- how its arguments bind (no defaults): h is «fun _ _ _ _ _ _ us hl => match us, hl with | [_, _], _ => rfl», one _ a parameter -/
theorem Fun.binds {x qual : Str} {st : Stmt} {f : Addr} {fd : FuncData} {ps : List Str} (F : Fun K x qual st f fd)
    (h : ∀ (kV doc pm : Value) (an : Option Addr) (cdv ct : Value) (us : List Value), us.length = ps.length → bindArgs (PySem.W.fnOf x qual (defArgs st) (defBody st) (defScope st) .none kV doc pm an cdv ct) ⟨us, []⟩ = pure (ps.zip us)) : Binds K fd ps [] := by
  obtain ⟨oc, od, kV, doc, pm, an, cdv, ct, osl, rfl, lk, hcd⟩ := F.ex
  exact .all (h kV doc pm an cdv ct)
theorem fun_mk {x qual : Str} {st : Stmt} {f : Addr} {oc : Value} {od an : Option Addr} {osl : Array (Option Value)} {kV doc pm cdv ct : Value} (l : K.lookup f = some ⟨oc, od, .func (PySem.W.fnOf x qual (defArgs st) (defBody st) (defScope st) .none kV doc pm an cdv ct), osl⟩)
    (c : PySem.W.codeIn K cdv qual = true) (k : PySem.W.keepIn K (.ref f) = true) : Fun K x qual st f (PySem.W.fnOf x qual (defArgs st) (defBody st) (defScope st) .none kV doc pm an cdv ct) := ⟨⟨oc, od, kV, doc, pm, an, cdv, ct, osl, rfl, l, c⟩, k⟩
end
theorem hu_of {A : Around} {k : Nat} (hr : Room k A) : A.units + 1 < cLine := Nat.lt_of_le_of_lt (Nat.add_le_add_left (by decide : 1 ≤ 64) _) hr.units
section
variable {X : Cx}
/-- len of a dict -/
theorem call_lenD : CallR X (.builtin "len") (fun xs H Q => ∃ a kvs, xs = [V.ref a] ∧ H a = some (.dK kvs) ∧ Q (.int kvs.length) H) := by
  intro pins s σ H xs us Q I r h
  obtain ⟨a, kvs, rfl, ha, q⟩ := h
  obtain ⟨u, rfl, ru⟩ := vals1 r
  cases ru
  exact d_len I (.inl ha) fun t s' I' => ⟨.int kvs.length, H, I', ⟨t, rfl⟩, q⟩
end
/-- all that was tracked is as it was -/
def Same (H H' : Hp) : Prop := ∀ b o, H b = some o → H' b = some o
theorem Same.free {H H' : Hp} (e : Same H H') {l : Addr} (h : H' l = Option.none) : H l = Option.none := by
  cases q : H l with
  | none => rfl
  | some o =>
    rw [e l o q] at h
    cases h
section
variable {κ : Type} [DecidableEq κ]
end
end L2
set_option maxHeartbeats 4000000
namespace PySem
def clOf (names : List (Str × NameKind)) (env : Env) : List (Str × Addr) :=
  names.foldl (fun cs p => if p.2 == NameKind.free then (p.1, (env.cells.lookup p.1).getD 0) :: cs else cs) []
theorem closure_loop {env : Env} : ∀ (l : List (Str × NameKind)) (acc : List (Str × Addr)), (∀ p ∈ l, p.2 = .free → ∃ c, env.cells.lookup p.1 = some c) →
    (forIn l acc (fun (x : Str × NameKind) (cs : List (Str × Addr)) => match x with
      | (name, kind) => if (kind == NameKind.free) = true then (do let a ← cellOf env name; pure (ForInStep.yield ((name, a) :: cs)) : Sem _) else pure (ForInStep.yield cs))) =
    (pure (l.foldl (fun cs p => if p.2 == NameKind.free then (p.1, (env.cells.lookup p.1).getD 0) :: cs else cs) acc) : Sem _)
  | [], acc, _ => by simp
  | (n, k) :: r, acc, h => by
    have ih := fun a => closure_loop r a fun p hp => h p (List.mem_cons_of_mem _ hp)
    rw [List.forIn_cons]
    by_cases hk : k = .free
    · subst hk
      obtain ⟨c, e⟩ := h (n, .free) List.mem_cons_self rfl
      have e' : cellOf env n = pure c := by unfold cellOf; rw [e]
      show (if (NameKind.free == NameKind.free) = true then (do let a ← cellOf env n; pure (ForInStep.yield ((n, a) :: acc)) : Sem _) else pure (ForInStep.yield acc)) >>= _ = _
      rw [if_pos (by rfl), e', pure_bind, pure_bind]
      rw [List.foldl_cons]
      have e2 : (if ((n, NameKind.free).2 == NameKind.free) = true then ((n, NameKind.free).1, (env.cells.lookup (n, NameKind.free).1).getD 0) :: acc else acc) = (n, c) :: acc := by
        rw [if_pos (by rfl), e]; rfl
      rw [e2]
      exact ih _
    · have hb : (k == NameKind.free) = false := by simpa using hk
      simp only [hb, Bool.false_eq_true, if_false, pure_bind, ih, List.foldl_cons]
theorem closureFor_all {scope : Scope} {env : Env} (h : ∀ p ∈ scope.names, p.2 = .free → ∃ c, env.cells.lookup p.1 = some c) : closureFor scope env = pure (clOf scope.names env) := by
  unfold closureFor clOf
  have := closure_loop (env := env) scope.names [] h
  simp only [bind_pure]
  exact this
theorem mem_clOf {env : Env} : ∀ {l : List (Str × NameKind)} {acc : List (Str × Addr)} {y : Str} {c : Addr},
    (y, c) ∈ l.foldl (fun cs p => if p.2 == NameKind.free then (p.1, (env.cells.lookup p.1).getD 0) :: cs else cs) acc ↔ (y, c) ∈ acc ∨ ((y, NameKind.free) ∈ l ∧ c = (env.cells.lookup y).getD 0)
  | [], acc, y, c => by simp
  | (n, k) :: r, acc, y, c => by
    rw [List.foldl_cons, mem_clOf (l := r)]
    by_cases hk : k = .free
    · subst hk
      simp only [beq_self_eq_true, if_true, List.mem_cons, Prod.mk.injEq]
      constructor
      · rintro ((⟨rfl, rfl⟩ | h) | ⟨h1, h2⟩)
        · exact .inr ⟨.inl ⟨rfl, trivial⟩, rfl⟩
        · exact .inl h
        · exact .inr ⟨.inr h1, h2⟩
      · rintro (h | ⟨⟨rfl, _⟩ | h1, h2⟩)
        · exact .inl (.inr h)
        · exact .inl (.inl ⟨rfl, h2⟩)
        · exact .inr ⟨h1, h2⟩
    · have hb : (k == NameKind.free) = false := by simpa using hk
      simp only [hb, Bool.false_eq_true, if_false, List.mem_cons, Prod.mk.injEq]
      constructor
      · rintro (h | ⟨h1, h2⟩)
        · exact .inl h
        · exact .inr ⟨.inr h1, h2⟩
      · rintro (h | ⟨⟨_, h⟩ | h1, h2⟩)
        · exact .inl h
        · exact absurd h.symm hk
        · exact .inr ⟨h1, h2⟩
theorem mem_of_lookupG {β : Type} : ∀ {l : List (Str × β)} {a : Str} {b : β}, l.lookup a = some b → (a, b) ∈ l
  | [], _, _, h => by simp at h
  | (k, v) :: l, a, b, h => by
    rw [List.lookup_cons] at h
    split at h
    · rename_i e
      cases h
      have : a = k := by simpa using e
      subst this
      exact List.mem_cons_self
    · exact List.mem_cons_of_mem _ (mem_of_lookupG h)
theorem lookup_of_mem {β : Type} : ∀ {l : List (Str × β)} {a : Str} {b : β}, (a, b) ∈ l → ∃ b', l.lookup a = some b'
  | [], _, _, h => by simp at h
  | (k, v) :: l, a, b, h => by
    rw [List.lookup_cons]
    split
    · exact ⟨v, rfl⟩
    · rename_i e
      rcases List.mem_cons.mp h with q | q
      · cases q
        simp at e
      · exact lookup_of_mem q
theorem relabel_lookup {env : Env} : ∀ {names : List (Str × NameKind)} {y : Str} {k : NameKind},
    (names.map fun (n, k) => if (k == NameKind.free && env.scope.kind == .function && env.kindOf n == some .cell) then (n, NameKind.cell) else (n, k)).lookup y = some k →
    names.lookup y = some k ∨ (names.lookup y = some .free ∧ k = .cell)
  | [], _, _, h => by simp at h
  | (n, k0) :: r, y, k, h => by
    rw [List.map_cons] at h
    by_cases hc : (k0 == NameKind.free && env.scope.kind == .function && env.kindOf n == some .cell) = true
    · simp only [hc, if_true] at h
      rw [List.lookup_cons] at h ⊢
      cases hy : y == n with
      | true =>
        rw [hy] at h
        cases h
        have : k0 = .free := by
          rw [Bool.and_eq_true, Bool.and_eq_true] at hc
          simpa using hc.1.1
        subst this
        exact .inr ⟨rfl, rfl⟩
      | false =>
        rw [hy] at h
        exact relabel_lookup h
    · rw [Bool.not_eq_true] at hc
      simp only [hc, Bool.false_eq_true, if_false] at h
      rw [List.lookup_cons] at h ⊢
      cases hy : y == n with
      | true =>
        rw [hy] at h
        exact .inl h
      | false =>
        rw [hy] at h
        exact relabel_lookup h
theorem relabel_free {env : Env} : ∀ {names : List (Str × NameKind)} {y : Str}, names.lookup y = some .free →
    (names.map fun (n, k) => if (k == NameKind.free && env.scope.kind == .function && env.kindOf n == some .cell) then (n, NameKind.cell) else (n, k)).lookup y = some .cell ∨
    (names.map fun (n, k) => if (k == NameKind.free && env.scope.kind == .function && env.kindOf n == some .cell) then (n, NameKind.cell) else (n, k)).lookup y = some .free
  | [], _, h => by simp at h
  | (n, k0) :: r, y, h => by
    rw [List.map_cons]
    rw [List.lookup_cons] at h
    cases hy : y == n with
    | true =>
      rw [hy] at h
      cases h
      by_cases hc : (NameKind.free == NameKind.free && env.scope.kind == .function && env.kindOf n == some .cell) = true
      · left; simp only [hc, if_true, List.lookup_cons, hy]
      · rw [Bool.not_eq_true] at hc
        right; simp only [hc, Bool.false_eq_true, if_false, List.lookup_cons, hy]
    | false =>
      rw [hy] at h
      have ih := relabel_free (env := env) h
      by_cases hc : (k0 == NameKind.free && env.scope.kind == .function && env.kindOf n == some .cell) = true
      · simp only [hc, if_true, List.lookup_cons, hy]; exact ih
      · rw [Bool.not_eq_true] at hc
        simp only [hc, Bool.false_eq_true, if_false, List.lookup_cons, hy]; exact ih
section
variable {prog : Program} {w : World} {A : Around} {R : Result → Shared → Prop} {s : Shared}
/-- what one turn of a comprehension over a list asks: the next one, let go, stored, tested, and its element appended -/
def CompAsks (prog : Program) (w : World) (A : Around) (elt target : Expr) (ifs : List Expr) (env : Env) (it acc : Value) (last : Shared → Prop) (on : Shared → Prop) : Shared → Prop :=
  let no : Value → Shared → Prop := fun _ _ => False
  wpAny (model prog w) A (pyNext it) (fun r s1 => match r with
    | none => last s1
    | some v => wpAny (model prog w) A (letOwnedTupleGo target it v) (fun _ => wpAny (model prog w) A (assign target env v) (fun _ => wpAny (model prog w) A
        (forIn ifs true fun c r => if r = true then do let ok ← isTrue c env (eval c env); pure (ForInStep.yield ok) else pure (ForInStep.yield r))
        (fun ok s4 => if ok = true then wpAny (model prog w) A (eval elt env) (fun x => wpAny (model prog w) A (call (.builtin "list.append") [acc, x]) (fun _ => on) no) no s4 else on s4) no) no) no s1) no
theorem comp_turn {elt target iter : Expr} {ifs : List Expr} {acc it : Value} {env : Env} {pos : Pos} {scope : Scope} {last on : Shared → Prop} {s : Shared} (h : CompAsks prog w A elt target ifs env it acc last on s) :
    wpAny (model prog w) A (compTurn (.ListComp elt [⟨target, iter, ifs, 0⟩] scope pos) 0 it acc env) (fun r t => r = .done .next ∧ last t ∨ r = .again (.compLoop (.ListComp elt [⟨target, iter, ifs, 0⟩] scope pos) 0 it acc env) ∧ on t) (fun _ _ => False) s := by
  have off : ∀ {R : Value → Shared → Prop} (e : Value) (t : Shared), False → R e t := fun _ _ f => f.elim
  rw [compTurn_list]
  refine wpAny_bind (wpAny_standAt (wpAny_bind (wpAny_mono h (fun r s1 k => ?_) off)))
  match r, k with
  | none, k => exact wpAny_pure (.inl ⟨rfl, k⟩)
  | some v, k =>
    refine wpAny_bind (wpAny_mono k (fun _ _ k => wpAny_bind (wpAny_mono k (fun _ _ k => wpAny_bind (wpAny_mono k (fun ok s4 k => ?_) off)) off)) off)
    match ok, k with
    | false, k => exact wpAny_pure (.inr ⟨rfl, k⟩)
    | true, k => exact wpAny_bind (wpAny_bind (wpAny_mono k (fun _ _ k => wpAny_bind (wpAny_mono k (fun _ _ k => wpAny_pure (wpAny_pure (.inr ⟨rfl, k⟩))) off)) off))
theorem codeAny_compLoop_any {env : Env} {it acc : Value} {scope : Scope} {pos : Pos} {ifs : List Expr} {elt target iter : Expr} (I : Nat → Shared → Prop) (turn : ∀ n s, I n s → CompAsks prog w A elt target ifs env it acc (R (.ok .next)) (fun t => ∃ m, m < n ∧ I m t) s) (n : Nat) (h : I n s) :
    codeAny (model prog w) A (.compLoop (.ListComp elt [⟨target, iter, ifs, 0⟩] scope pos) 0 it acc env) R s := by
  refine codeAny_loop rfl I (fun n s k => wpAny_noted ?_) n h
  refine wpAny_mono (comp_turn (turn n s k)) (fun r t k => ?_) fun _ _ f => f.elim
  rcases k with ⟨rfl, k⟩ | ⟨rfl, k⟩
  · exact k
  · exact ⟨rfl, k⟩

end
end PySem
namespace L2
open PySem PySem.Spec PyProof.Rows
/-- what a comprehension's block stands on: its iterator's records, the state and the abstract heap ahead of it, its own names' address, the pins -/
structure CompAt where
  fp : List Addr
  s : Shared
  H : Hp
  C : Addr
  pins : List (Addr × Obj)
def compCx (X : Cx) (scope : Scope) (N : List Str) (z : CompAt) : Cx :=
  { X with N := N, s₀ := z.s, H₀ := z.H, env := compEnvC scope (clOf scope.names X.env) z.C X.env, outer := X.stack, ex := z.fp, fn := fun _ => false, pn := X.pn ++ z.pins, xe := fun _ _ => False }
structure CompOk (X : Cx) (scope : Scope) (x : Str) (ys : List Str) (ix : List Nat) : Prop where
  kind : scope.kind = .function
  hx : scope.names.lookup x = some .local
  nocell : ∀ p ∈ scope.names, p.2 ≠ .cell
  names : ∀ p ∈ scope.names, p.2 = .local → scope.names.lookup p.1 = some .local
  fr : ∀ p ∈ scope.names, p.2 = .free → X.env.kindOf p.1 = some .cell ∨ X.env.kindOf p.1 = some .free
  len : ys.length = ix.length
  here : ∀ (j : Nat) (y : Str) (i : Nat), ys[j]? = some y → ix[j]? = some i → scope.names.lookup y = some .free ∧ X.N[i]? = some y
  nd : (x :: ys).Nodup
/-- the tests of a comprehension -/
def PIfs (X : Cx) (ifs : List Expr) (t : TT) : Prop :=
  ∀ (pins : List (Addr × Obj)) (s : Shared) (σ : St) (H : Hp) (Q : Bool → Hp → Prop), Inv X pins σ H s → t σ H Q →
    wpAny (model X.prog X.w) X.A (forIn ifs true fun c r => if r = true then do let ok ← isTrue c X.env (eval c X.env); pure (ForInStep.yield ok) else pure (ForInStep.yield r)) (TP X pins σ Q) X.xe s
def tNoIf : TT := fun _ H Q => Q true H
theorem pifs_nil {X : Cx} : PIfs X [] tNoIf := fun pins s σ H Q I h => wpAny_tests_nil ⟨H, I, h⟩
theorem pifs_one {X : Cx} {c : Expr} {t : TT} (h : PT X c t) : PIfs X [c] t := fun pins s σ H Q I q => wpAny_tests_one (h pins s σ H Q I q)
section
variable {X : Cx} {scope : Scope} {x : Str} {ys : List Str} {ix : List Nat} {elt iter : Expr} {ifs : List Expr} {px pos : Pos} {wi : TI} {tt : CompAt → TT} {te : CompAt → TE}
theorem comp_turned {pins : List (Addr × Obj)} {σ : St} {H : Hp} {s : Shared} {C : Addr} {h' : Heap} (I : Inv X pins σ H s) (f : FpOk X pins H C) (hs : Heap.SameBut C s.heap h') : Inv X pins σ H { s with heap := h' } :=
  I.turned (t' := s.toks) (fun b o hb e => (hs.2 b hb).trans e) f.1 f.2.1 f.2.2.2.1 f.2.2.2.2.1 f.2.2.2.2.2
end
section
variable {ix : List Nat} {tt : CompAt → TT} {te : CompAt → TE} {σ : St} {Q : VK} {H1 : Hp}
end
section
variable {X : Cx} {tg : Expr}
end
section
variable {ix : List Nat} {tt : CompAt → TT} {te : CompAt → TE} {σ : St} {Q : VK} {H1 : Hp}
end
end L2
namespace PySem
open PyProof.Rows
theorem lri_no_len : typeLookup (.type "list_reverseiterator") "__len__" = pure none := by rw [typeLookup_type, builtinLookup_eq_fast]; kernel_rfl
theorem lri_hint : typeLookup (.type "list_reverseiterator") "__length_hint__" = pure (some (.builtin "list_reverseiterator.__length_hint__")) := by rw [typeLookup_type, builtinLookup_eq_fast]; kernel_rfl
section
variable {prog : Program} {w : World} {A : Around} {E : Value → Shared → Prop} {s : Shared}
/-- a reversed list's iterator: how long it is isn't asked at once -/
theorem rev_hint {r : Addr} {Q : Bool → Shared → Prop} (hT : s.TypeIs (.ref r) "list_reverseiterator") (h : Q false s) : wpAny (model prog w) A (Builtin.List.listLengthHint (.ref r)) Q E s := by
  have isa : isSubtype (.type "list_reverseiterator") (.type "list_reverseiterator") = pure true := by rw [isSubtype_type]; kernel_rfl
  have cut : splitId "list_reverseiterator.__length_hint__" = some ("list_reverseiterator", "__length_hint__") := by decide +kernel
  unfold Builtin.List.listLengthHint
  refine wpAny_bind (wpAny_specialOf hT lri_no_len (wpAny_bind (wpAny_specialOf hT lri_hint ?_)))
  dsimp only
  rw [cut]
  refine wpAny_bind (wpAny_isInstance hT isa ?_)
  rw [if_neg (by decide), if_pos (by decide +kernel), if_neg (by decide +kernel)]
  exact wpAny_pure h
/-- a list, new -/
def NewList (s : Shared) : Value → Shared → Prop := fun v t => v = .ref s.heap.objs.size ∧ t = { s with heap := s.heap.push { cls := .type "list", data := .seq #[] } }
/-- list(reversed(l)), the second call -/
theorem call_list_rev {l it : Addr} {items : Array Value} {Q : Value → Shared → Prop} (hh : A.handled = none) (hl : s.heap.IsList l items) (hne : l ≠ it) (hi : s.heap.IsRevIter it l ((items.size : Int) - 1)) (hn : items.size ≤ sizeLine)
    (hQ : ∀ h' tk acc c, (∀ b o, b ≠ it → s.heap.get? b = some o → h'.get? b = some o) → h'.get? s.heap.objs.size = some { cls := .type "list", dict := none, data := .seq acc c, slots := #[] } →
      ItemsOf (fun i v => items[items.size - 1 - i]? = some v) acc items.size → Q (.ref s.heap.objs.size) { s with heap := h', toks := tk }) :
    wpAny (model prog w) A (call (.type "list") [.ref it]) Q E s := by
  refine callType_codes (Q₁ := NewList s) PySem.F.called_list (PySem.F.typeCall_list_1 _) PySem.F.entry_list_init (code_list_new _ ⟨rfl, rfl⟩) ?_
  rintro _ _ ⟨rfl, rfl⟩
  have hS := Heap.get?_push_size s.heap (o := { cls := .type "list", data := .seq #[] }) rfl
  have below : ∀ {b o}, s.heap.get? b = some o → b < s.heap.objs.size := Heap.lt_size
  have hlt : l < s.heap.objs.size := hl.elim fun _ q => below q.1
  have hit : it < s.heap.objs.size := hi.elim fun _ q => below q.1
  refine ⟨⟨_, hS, rfl⟩, PySem.F.args_list_init_2 _ _, ?_⟩
  show wpAny _ _ (do let old ← Builtin.List.listItems (.ref s.heap.objs.size); Builtin.List.listUpdate (.ref s.heap.objs.size) (fun _ => #[]); letGo old.toList.reverse; Builtin.List.listExtendWith (.ref s.heap.objs.size) (.ref it) .none) _ _ _
  refine wpAny_bind ?_
  unfold Builtin.List.listItems
  refine wpAny_bind (wpAny_seqItems hS rfl (wpAny_pure ?_))
  show wpAny _ _ (updateSeq s.heap.objs.size (fun _ => #[]) >>= fun _ => letGo (#[] : Array Value).toList.reverse >>= fun _ => Builtin.List.listExtendWith (.ref s.heap.objs.size) (.ref it) .none) _ _ _
  refine wpAny_bind (wpAny_updateSeq hS rfl ?_)
  have hS₂ := Heap.get?_update_self (Obj.mapSeq (fun _ => (#[] : Array Value))) hS rfl
  generalize hh2 : (s.heap.push { cls := .type "list", data := .seq #[] }).update s.heap.objs.size (Obj.mapSeq (fun _ => (#[] : Array Value))) = h2 at hS₂ ⊢
  have oth : ∀ b o, s.heap.get? b = some o → h2.get? b = some o := fun b o e => by
    rw [← hh2]
    exact (Heap.get?_update_other _ _ (Nat.ne_of_gt (Heap.lt_size e))).trans (Heap.get?_push_of_some _ e)
  refine wpAny_bind (wpAny_letGo ?_)
  have hl2 : h2.IsList l items := hl.at fun o e => oth l o e
  have hi2 : h2.IsRevIter it l ((items.size : Int) - 1) := hi.at fun o e => oth it o e
  have hSI : s.heap.objs.size ≠ it := Nat.ne_of_gt hit
  have W := Walks.listRev (prog := prog) (w := w) (A := A.in1.in1) hh it l hne items
  have st : (fun i (h : Heap) => i ≤ items.size ∧ h.IsRevIter it l ((items.size : Int) - 1 - (i : Int)) ∧ h.IsList l items) 0 h2 := ⟨Nat.zero_le _, by simpa using hi2, hl2⟩
  unfold Builtin.List.listExtendWith
  have hT : ({ s with heap := h2 } : Shared).TypeIs (.ref it) "list_reverseiterator" := hi2.typeIs
  refine wpAny_bind (wpAny_typeOf hT ?_)
  have h1 : Builtin.List.listSameRef (.ref s.heap.objs.size) (.ref it) = false := by simp [Builtin.List.listSameRef, hSI]
  have h2' : (Value.type "list_reverseiterator" == Value.type "list") = false := by decide
  have h3 : (Value.type "list_reverseiterator" == Value.type "tuple") = false := by decide
  simp only [h1, h2', h3, Bool.or_false, Bool.false_eq_true, if_false]
  refine wpAny_bind (wpAny_pyIter_revIter hi2 ?_)
  refine wpAny_bind (wpAny_holding (rev_hint hT ?_))
  have hSf : s.heap.objs.size ∉ [it, l] := by simp only [List.mem_cons, List.not_mem_nil, or_false, not_or]; exact ⟨hSI, Nat.ne_of_gt hlt⟩
  have key : ∀ (h : Heap) (c₁ : Nat), (fun i (h : Heap) => i ≤ items.size ∧ h.IsRevIter it l ((items.size : Int) - 1 - (i : Int)) ∧ h.IsList l items) 0 h → (∀ b o, s.heap.get? b = some o → h.get? b = some o) →
      h.get? s.heap.objs.size = some { cls := .type "list", data := .seq #[] c₁ } → codeAny (model prog w) A.in1 (.builtin "list.extend.loop" ⟨[.ref s.heap.objs.size, .ref it, .none], []⟩) (wants (fun r s₂ => r = .none ∧ Q (.ref s.heap.objs.size) s₂) E) { s with heap := h } := by
    intro h c₁ hst hk hS₁
    refine codeAny_extend_loopS W.toS hn s.heap.objs.size hSf .none items.size 0 _ #[] c₁ rfl (Nat.zero_le _) hst hS₁ (ItemsOf.nil _) fun s' acc' c' hm hS' hacc => ?_
    rw [Moved.eq_with hm]
    refine ⟨rfl, hQ s'.heap s'.toks acc' c' (fun b o hb e => hm.heap b o (fun hmem => ?_) (hk b o e)) hS' hacc⟩
    rcases List.mem_cons.mp hmem with e' | hmem
    · exact absurd (Heap.lt_size e) (by rw [e']; exact Nat.lt_irrefl _)
    · exact hb (List.mem_singleton.mp hmem)
  refine wpAny_ite_split (fun _ => ?_) (fun _ => wpAny_pure ⟨plainId_quiet PySem.F.plain_extend_loop _, key _ _ st oth hS₂⟩)
  refine wpAny_bind (wpAny_rule ?_)
  refine wpAny_bind ?_
  show wpAny _ _ (updateSeq s.heap.objs.size (·.push .none) >>= fun _ => updateSeq s.heap.objs.size (·.pop)) _ _ _
  refine wpAny_bind (wpAny_updateSeq hS₂ rfl ?_)
  have hS₃ := Heap.get?_update_self (Obj.mapSeq (·.push Value.none)) hS₂ rfl
  refine wpAny_updateSeq (hz := by seq_fits) hS₃ rfl ?_
  have hS₄ := Heap.get?_update_self (Obj.mapSeq (·.pop)) hS₃ rfl
  have oth2 := ((Heap.SameBut.update h2 s.heap.objs.size (Obj.mapSeq (·.push Value.none))).trans (Heap.SameBut.update _ _ (Obj.mapSeq (·.pop)))).extBut
  refine wpAny_pure ⟨plainId_quiet PySem.F.plain_extend_loop _, key _ _ ?_ (fun b o e => oth2 b o (Nat.ne_of_lt (Heap.lt_size e)) (oth b o e)) hS₄⟩
  exact W.frame 0 _ _ st fun b hb o e => oth2 b o (fun z => hSf (z ▸ hb)) e
end
end PySem
namespace L2
open PySem PySem.Spec PyProof.Rows
section
variable {X : Cx} {e : Expr} {te : TE}
/-- list(reversed(e)) -/
theorem pe_listrev {p1 p2 q1 q2 : Pos} (hc : X.calm = true) (gl : Gl X "list") (ml : X.mg "list" = none) (gr : Gl X "reversed") (mr : X.mg "reversed" = none) (he : PE X e te)
    (hs1 : starEach [e] X.env = [(false, eval e X.env)] := by rfl)
    (hs2 : starEach [.Call (.Name "reversed" p2) [e] [] q2] X.env = [(false, eval (.Call (.Name "reversed" p2) [e] [] q2) X.env)] := by rfl) :
    PE X (.Call (.Name "list" p1) [.Call (.Name "reversed" p2) [e] [] q2] [] q1) (fun σ H Q => te σ H fun x H1 => ∃ l ys, x = .ref l ∧ SqL X.K H1 l ys ∧ ∀ p, H1 p = none → Q (.ref p) (upd H1 p (.lst ys.reverse))) := by
  intro pins s σ H Q I h
  refine Call_ (ld_blt I gl ml PyProof.Rows.boot_list (PyProof.Rows.callWith_type1 ?_ (by rw [hs2]; rfl) rfl))
  rw [hs2]
  show wpAny _ _ (spliced ((false, eval (.Call (.Name "reversed" p2) [e] [] q2) X.env) :: backTo q1 [])) _ _ s
  refine Calls.spliced_cons ?_
  refine Call_ (ld_blt I gr mr PyProof.Rows.boot_reversed (PyProof.Rows.callWith_type1 ?_ (by rw [hs1]; rfl) rfl))
  rw [hs1]
  show wpAny _ _ (spliced ((false, eval e X.env) :: backTo q2 [])) _ _ s
  refine Calls.spliced_cons (thn (he pins s σ H _ I h) fun u s1 ⟨x, H1, I1, r1, q1⟩ => Calls.spliced_nil ?_)
  obtain ⟨l, ys, e1, hq, q⟩ := q1
  subst e1
  cases r1
  obtain ⟨its, rv, p, hz⟩ := I1.list hq
  have hlen := rv.length
  refine call_reversed_list p.isList (Calls.spliced_nil ?_)
  have hl1 : (s1.heap.push (revObj l ((its.toArray.size : Int) - 1))).IsList l its.toArray := p.isList.push _
  have hlt : l < s1.heap.objs.size := by obtain ⟨_, e, _⟩ := p.isList; exact Heap.lt_size e
  refine call_list_rev (I1.ok.hd hc) hl1 (Nat.ne_of_lt hlt) ⟨_, Heap.get?_push_size _ rfl, rfl, rfl⟩ (by rw [List.size_toArray, ← hlen]; exact hz) fun h' tk acc c hk hD hacc => ?_
  have hk' : ∀ b o, s1.heap.get? b = some o → h'.get? b = some o := fun b o e => hk b o (Nat.ne_of_lt (Heap.lt_size e)) (Heap.get?_push_of_some _ e)
  have hsz : s1.heap.objs.size ≤ (s1.heap.push (revObj l ((its.toArray.size : Int) - 1))).objs.size := by rw [Heap.size_push]; exact Nat.le_succ _
  have hv : acc.toList = its.reverse := by
    refine List.ext_getElem? fun i => ?_
    by_cases hi : i < its.length
    · have hi2 : i < acc.size := by rw [hacc.1, List.size_toArray]; exact hi
      have e := hacc.2 i acc[i] (Array.getElem?_eq_getElem hi2)
      rw [List.getElem?_reverse hi, Array.getElem?_toList, Array.getElem?_eq_getElem hi2]
      simpa using e.symm
    · rw [List.getElem?_eq_none (by rw [Array.length_toList, hacc.1, List.size_toArray]; omega), List.getElem?_eq_none (by rw [List.length_reverse]; omega)]
  refine ⟨.ref _, _, I1.laid (t' := tk) (o := .lst ys.reverse) hk' hsz ?_, rfl, q _ (I1.hok.fresh hsz)⟩
  exact ⟨by rw [List.length_reverse]; exact hz, acc.toList, c, by rw [hv]; exact rv.reverse, by rw [Array.toArray_toList]; exact hD⟩
theorem op_fdivB : OpR X (binaryOp .FloorDiv) (rI (fun _ j => 0 < j ∧ j < 2 ^ 200) fun i j => .int (i / j)) := opI fun i j _ _ _ _ _ hc q => by
  have h0 : j ≠ 0 := by omega
  refine floordiv_int h0 ?_ (.inl (PyProof.noPylong_of_log2 ?_))
  · rw [Int.fdiv_eq_ediv_of_nonneg _ (by omega)]; exact q
  · have : j.natAbs < 2 ^ 200 := by omega
    have h1 : j.natAbs ≠ 0 := by omega
    exact Nat.lt_trans ((Nat.log2_lt h1).mpr this) (by decide)
end
end L2
namespace L2
open PySem PySem.Spec PyProof.Rows Builtin.Str
section
variable {X : Cx} {e : Expr} {es : List Expr} {te : TE} {t : TA}
def rSlS : V → Option Int → Option Int → Hp → VK → Prop := fun x lo hi H Q => ∃ z, x = .str z ∧ z.length ≤ sizeLine ∧ Q (.str (Txt.slice z lo hi)) H
theorem sl_str : SlR X rSlS := by
  intro pins s σ H x v vl vu lo hi sl Q I rx hs pl pu h
  obtain ⟨z, rfl, hz, q⟩ := h
  obtain ⟨t, rfl⟩ := rx
  refine ⟨"str", _, PySem.F.slot_str_getitem.lookup, typeIs_str _ _ _, ?_⟩
  cases pl with
  | none =>
    cases pu with
    | none => exact wpAny_getItem_str_slice (l := none) (u := none) (st := none) hs rfl (post_val_or_str ⟨Nat.le_trans (Txt.slice_le z _ _) hz, fun t' k => ⟨.str (Txt.slice z none none), H, I.tok _, ⟨_, rfl⟩, q⟩⟩)
    | int j uj => exact wpAny_getItem_str_slice (l := none) (u := some (j, uj)) (st := none) hs rfl (post_val_or_str ⟨Nat.le_trans (Txt.slice_le z _ _) hz, fun t' k => ⟨.str (Txt.slice z none (some j)), H, I.tok _, ⟨_, rfl⟩, q⟩⟩)
  | int i ui =>
    cases pu with
    | none => exact wpAny_getItem_str_slice (l := some (i, ui)) (u := none) (st := none) hs rfl (post_val_or_str ⟨Nat.le_trans (Txt.slice_le z _ _) hz, fun t' k => ⟨.str (Txt.slice z (some i) none), H, I.tok _, ⟨_, rfl⟩, q⟩⟩)
    | int j uj => exact wpAny_getItem_str_slice (l := some (i, ui)) (u := some (j, uj)) (st := none) hs rfl (post_val_or_str ⟨Nat.le_trans (Txt.slice_le z _ _) hz, fun t' k => ⟨.str (Txt.slice z (some i) (some j)), H, I.tok _, ⟨_, rfl⟩, q⟩⟩)
def eqVs : List V → List V → Bool
  | [], [] => true
  | x :: xs, y :: ys => eqV x y && eqVs xs ys
  | _, _ => false
theorem range_succ_all (n : Nat) (f : Nat → Bool) : (List.range (n + 1)).all f = (f 0 && (List.range n).all fun j => f (j + 1)) := by
  rw [List.range_succ_eq_map, List.all_cons, List.all_map]; rfl
def rEqL (K : PySem.W.Frag) (neg : Bool) : R2 := fun x y H Q => ∃ a b xs ys, x = .ref a ∧ y = .ref b ∧ SqL K H a xs ∧ SqL K H b ys ∧ xs.all flatV = true ∧ ys.all flatV = true ∧ Q (.bl (if neg then !eqVs xs ys else eqVs xs ys)) H
end
def Has (P : Program) (w : World) (K : PySem.W.Frag) (mg : Str → Option Value) (base : Heap) (x : Str) (k : Nat) (ps : List Str) (sp : Sp) : Prop :=
  ∃ (f : Addr) (fd : FuncData), mg x = some (.ref f) ∧ PySem.W.keepIn K (.ref f) = true ∧ Binds K fd ps [] ∧ FnOk P w K mg base CX0 k f fd ps sp
theorem pe_has {X : Cx} {x : Str} {k : Nat} {ps : List Str} {sp : Sp} {p pos : Pos} {e : Expr} {es : List Expr} {t : TA} (h : Has X.prog X.w X.K X.mg X.base x k ps sp) (hr : Room k X.A) (hg : Gl X x) (ha : PA X (e :: es) t)
    (hdb : (x == ("__debug__" : Str)) = false := by decide) (he : starEach (e :: es) X.env = (false, eval e X.env) :: starEach es X.env := by rfl) (hpl : (backTo pos (starEach es X.env)).any (·.1) = false := by rfl) :
    PE X (.Call (.Name x p) (e :: es) [] pos) (tCall sp [] E0 t) := by
  obtain ⟨f, fd, hm, hk, hb, G⟩ := h
  exact pe_call G hr hg hm hk hb .nil pass0 ha hdb he hpl
end L2
namespace L2
open PySem PySem.Spec PyProof.Rows
def inStN (n : Nat) (ix : List Nat) (σ : St) : St := List.replicate n none ++ ix.map fun i => (σ[i]?).getD none
structure CompOkN (X : Cx) (scope : Scope) (xs ys : List Str) (ix : List Nat) : Prop where
  kind : scope.kind = .function
  hx : ∀ x ∈ xs, scope.names.lookup x = some .local
  nocell : ∀ p ∈ scope.names, p.2 ≠ .cell
  names : ∀ p ∈ scope.names, p.2 = .local → scope.names.lookup p.1 = some .local
  fr : ∀ p ∈ scope.names, p.2 = .free → X.env.kindOf p.1 = some .cell ∨ X.env.kindOf p.1 = some .free
  len : ys.length = ix.length
  here : ∀ (j : Nat) (y : Str) (i : Nat), ys[j]? = some y → ix[j]? = some i → scope.names.lookup y = some .free ∧ X.N[i]? = some y
  nd : (xs ++ ys).Nodup
def compChkN (osc : Scope) (N : List Str) (scope : Scope) (xs ys : List Str) (ix : List Nat) : Bool :=
  decide (scope.kind = .function) && xs.all (fun x => decide (scope.names.lookup x = some .local)) && scope.names.all (fun p => decide (p.2 ≠ .cell)) &&
  scope.names.all (fun p => decide (p.2 = .local → scope.names.lookup p.1 = some .local)) &&
  scope.names.all (fun p => decide (p.2 = .free → osc.names.lookup p.1 = some .cell ∨ osc.names.lookup p.1 = some .free)) &&
  decide (ys.length = ix.length) && (ys.zip ix).all (fun p => decide (scope.names.lookup p.1 = some .free ∧ N[p.2]? = some p.1)) && decide ((xs ++ ys).Nodup)
theorem compOkN_of {X : Cx} {osc scope : Scope} {N : List Str} {xs ys : List Str} {ix : List Nat} (hsc : X.env.scope = osc) (hN : X.N = N) (h : compChkN osc N scope xs ys ix = true) : CompOkN X scope xs ys ix := by
  unfold compChkN at h
  simp only [Bool.and_eq_true, List.all_eq_true, decide_eq_true_eq] at h
  obtain ⟨⟨⟨⟨⟨⟨⟨h1, h2⟩, h3⟩, h4⟩, h5⟩, h6⟩, h7⟩, h8⟩ := h
  refine ⟨h1, h2, h3, h4, fun p hp hf => ?_, h6, fun j y i e1 e2 => ?_, h8⟩
  · have := h5 p hp hf
    unfold Env.kindOf
    rw [hsc]
    exact this
  · rw [hN]
    refine h7 (y, i) ?_
    have : (ys.zip ix)[j]? = some (y, i) := by rw [List.getElem?_zip_eq_some]; exact ⟨e1, e2⟩
    exact List.mem_of_getElem? this
/-- a state that keeps what the block took from the def -/
def KeepN (n : Nat) (ix : List Nat) (σ σ' : St) : Prop := σ'.length = n + ix.length ∧ ∀ (j : Nat) v, (inStN n ix σ)[j]? = some (some v) → σ'[j]? = some (some v)
theorem inStN_len (n : Nat) (ix : List Nat) (σ : St) : (inStN n ix σ).length = n + ix.length := by
  unfold inStN
  rw [List.length_append, List.length_replicate, List.length_map]
theorem inStN_lt {n : Nat} {ix : List Nat} {σ : St} {j : Nat} (h : j < n) (v : V) : (inStN n ix σ)[j]? ≠ some (some v) := by
  unfold inStN
  rw [List.getElem?_append_left (by rw [List.length_replicate]; exact h), List.getElem?_replicate, if_pos h]
  intro e
  have : (none : Option V) = some v := Option.some.inj e
  cases this
theorem comp_invN {X : Cx} {scope : Scope} {xs ys : List Str} {ix : List Nat} (O : CompOkN X scope xs ys ix) {pins : List (Addr × Obj)} {σ : St} {H : Hp} {s : Shared} {fp : List Addr} {h' : Heap} {t' : Nat}
    (I : Inv X pins σ H s) (hf : ∀ b ∈ fp, FpOk X pins H b) (hfl : ∀ b ∈ fp, b < s.heap.objs.size) (m : Str → Option Value)
    (hns : h'.Ns s.heap.objs.size m) (hk : ∀ b o, s.heap.get? b = some o → h'.get? b = some o) :
    Inv (compCx X scope (xs ++ ys) ⟨fp, s, H, s.heap.objs.size, pins⟩) [] (inStN xs.length ix σ) H { s with heap := h', toks := t' } := by
  have hC : H s.heap.objs.size = none := I.hok.fresh (Nat.le_refl _)
  have cl : ∀ y c, (clOf scope.names X.env).lookup y = some c → X.env.cells.lookup y = some c := fun y c e => by
    rcases (mem_clOf (acc := [])).mp (mem_of_lookupG e) with z | ⟨z, rfl⟩
    · simp at z
    · obtain ⟨c', e'⟩ := I.ok.has y (O.fr _ z rfl)
      rw [e']; rfl
  have clh : ∀ y, (y, NameKind.free) ∈ scope.names → ∃ c, (clOf scope.names X.env).lookup y = some c := fun y z => lookup_of_mem ((mem_clOf (acc := [])).mpr (.inr ⟨z, rfl⟩))
  refine ⟨⟨I.ok.mod, O.kind, I.ok.glob, I.ok.blt, Nat.le_refl _, fun y z c h1 h2 => I.ok.inj y z c (cl y c h1) (cl z c h2), fun y hy => ?_, fun y c h _ => ?_, I.ok.hd, I.ok.frames, .inl rfl,
    fun b hb => ⟨Nat.ne_of_lt (hfl b hb), fun y c e => (hf b hb).2.2.2.2.1 y c (cl y c e)⟩, I.bs, Nat.le_trans I.ok.bsz I.sz, fun b o e hb => ?_, fun b hb hb2 => ?_, I.stack, I.stkFree⟩,
    rfl, I.bare, Un.kept hk, ⟨m, hns, fun i y v e1 e2 vis => ?_⟩, fun y c e => ?_, hC, fun y c e => I.freeC y c (cl y c e), fun p hp => ?_, I.hok.kept hk, ?_⟩
  · rcases hy with h | h
    · rcases relabel_lookup h with q | ⟨q, _⟩
      · exact absurd rfl (O.nocell _ (mem_of_lookupG q))
      · exact clh y (mem_of_lookupG q)
    · rcases relabel_lookup h with q | ⟨q, e⟩
      · exact clh y (mem_of_lookupG q)
      · cases e
  · exact Bool.noConfusion (show false = true from h)
  · rcases (hf b hb).2.2.2.1 with z | z
    · exact I.ok.noex b o e z
    · exact absurd (Nat.lt_of_lt_of_le (Nat.lt_of_lt_of_le (Heap.lt_size e) I.ok.bsz) z) (Nat.lt_irrefl _)
  · exact (List.mem_cons.mp (I.stkSub b hb2)).elim (fun e => (hf b hb).2.1 e) fun z => (hf b hb).2.2.1 z
  · have hil : xs.length ≤ i := Nat.le_of_not_lt fun q => inStN_lt q v e2
    obtain ⟨j, rfl⟩ := Nat.exists_eq_add_of_le hil
    have ey : ys[j]? = some y := by
      have e1' : (xs ++ ys)[xs.length + j]? = some y := e1
      rw [List.getElem?_append_right (Nat.le_add_right _ _), Nat.add_sub_cancel_left] at e1'
      exact e1'
    have e2' : (ix.map fun i => (σ[i]?).getD none)[j]? = some (some v) := by
      have e2'' : (inStN xs.length ix σ)[xs.length + j]? = some (some v) := e2
      unfold inStN at e2''
      rw [List.getElem?_append_right (by rw [List.length_replicate]; exact Nat.le_add_right _ _), List.length_replicate, Nat.add_sub_cancel_left] at e2''
      exact e2''
    rw [List.getElem?_map] at e2'
    cases hi : ix[j]? with
    | none => rw [hi] at e2'; cases e2'
    | some i =>
      rw [hi] at e2'
      have e3 : (σ[i]?).getD none = some v := Option.some.inj e2'
      obtain ⟨hfree, hN⟩ := O.here j y i ey hi
      have ev : σ[i]? = some (some v) := by
        cases h : σ[i]? with
        | none => rw [h] at e3; cases e3
        | some q => rw [h] at e3; exact congrArg some e3
      obtain ⟨m', _, hl⟩ := I.loc
      have hkx := O.fr (y, .free) (mem_of_lookupG hfree) rfl
      obtain ⟨u, r, l⟩ := hl i y v hN ev (hkx.elim (fun z => .inr (.inl z)) fun z => .inr (.inr z))
      refine ⟨u, r, .inr ⟨relabel_free hfree, ?_⟩⟩
      obtain ⟨c, ec⟩ := clh y (mem_of_lookupG hfree)
      rcases l with ⟨k, _⟩ | ⟨_, c', ec', z⟩
      · rcases hkx with q | q
        · rw [q] at k; cases k
        · rw [q] at k; cases k
      · have : c = c' := Option.some.inj ((cl y c ec).symm.trans ec')
        subst this
        exact ⟨c, ec, z.keeps hk⟩
  · obtain ⟨v, z⟩ := I.cell y c (cl y c e)
    exact ⟨v, z.keeps hk⟩
  · have hp' : p ∈ (X.pn ++ pins) ++ ([] : List (Addr × Obj)) := hp
    rw [List.append_nil] at hp'
    obtain ⟨e, n, ne, nf, d⟩ := I.pin p hp'
    exact ⟨hk _ _ e, n, Nat.ne_of_lt (Heap.lt_size e), fun z => (List.mem_cons.mp (I.stkSub _ z)).elim ne nf, d⟩
  · show (inStN xs.length ix σ).length = (xs ++ ys).length
    rw [inStN_len, List.length_append, O.len]
/-- W: the invariant by the turn, a measure and the list so far -/
def CompWG (n : Nat) (ix : List Nat) (J : It) (g : CompAt → TG) (tt : CompAt → TT) (te : CompAt → TE) (σ : St) (Q : VK) (H1 : Hp) : Prop :=
  ∀ D, H1 D = none → ∃ W : Nat → Nat → List V → Hp → Prop, (∃ m, W 0 m [] (upd H1 D (.lst []))) ∧ ∀ i m ys H2, W i m ys H2 → H2 D = some (.lst ys) ∧
    ((J.stop i H2 ∧ Q (.ref D) H2) ∨ (J.go i H2 ∧ ys.length < sizeLine ∧ ∃ N : List V → Hp → Prop, (∀ ys' H', N ys' H' → ∃ m', m' < m ∧ W (i + 1) m' ys' H') ∧
      ∀ x H3, J.yld i H2 x H3 → ∀ z, g z x (inStN n ix σ) H3 fun σ' H3' => KeepN n ix σ σ' ∧ tt z σ' H3' fun b H4 =>
        if b = true then te z σ' H4 fun y H5 => H5 D = some (.lst ys) ∧ N (ys ++ [y]) (upd H5 D (.lst (ys ++ [y]))) else N ys H4))
theorem comp_blockN {X : Cx} {scope : Scope} {xs ys : List Str} {ix : List Nat} (O : CompOkN X scope xs ys ix) (hc : X.calm = true) {elt iter : Expr} {ifs : List Expr} {tg : Expr} {pos : Pos} {g : CompAt → TG} {tt : CompAt → TT} {te : CompAt → TE}
    (hg : ∀ z, PG (compCx X scope (xs ++ ys) z) tg (g z)) (hi : ∀ z, PIfs (compCx X scope (xs ++ ys) z) ifs (tt z)) (he : ∀ z, PE (compCx X scope (xs ++ ys) z) elt (te z))
    {pins : List (Addr × Obj)} {σ : St} {H : Hp} {s2 : Shared} {J : It} {fp : List Addr} {it : Addr} {tn : Nat → Heap → Prop} (I2 : Inv X pins σ H s2) (T : Turn X.prog X.w X.K tg J fp it tn) (st : tn 0 s2.heap)
    (hf : ∀ b ∈ fp, FpOk X pins H b) {Q : VK} (hw : CompWG xs.length ix J g tt te σ Q H) {RR : Value → Addr → Result → Shared → Prop} {E : Value → Shared → Prop}
    (hRR : ∀ D C m' H' s', Inv X pins σ H' s' → s'.heap.Ns C m' → FpOk X pins H' C → Q (.ref D) H' → RR (.ref D) C (.ok .next) s') :
    wpAny (model X.prog X.w) X.A (newList []) (fun acc s₃ => wpAny (model X.prog X.w) X.A (newFunctionEnv scope X.env.globals (clOf scope.names X.env) [] X.env.qual none .none (some X.env)) (fun cenv s₄ =>
      codeAny (model X.prog X.w) X.A (.compStart (.ListComp elt [⟨tg, iter, ifs, 0⟩] scope pos) 0 (.ref it) acc { cenv with scope := relabel scope X.env }) (RR acc cenv.locals) s₄) E s₃) E s2 := by
  refine wpAny_newObj_type (wpAny_newFunctionEnv O.nocell (by intro y hy; simp at hy) (fun h₁ hns₁ hsb₁ => ?_) O.kind)
  dsimp only at hns₁ hsb₁ ⊢
  have hDn : H s2.heap.objs.size = none := I2.hok.fresh (Nat.le_refl _)
  obtain ⟨W, ⟨m0, w0⟩, turn⟩ := hw s2.heap.objs.size hDn
  have flt : ∀ b ∈ fp, b < s2.heap.objs.size := fun b hb => by
    obtain ⟨o, e, _⟩ := T.obj 0 _ st b hb
    exact Heap.lt_size e
  obtain ⟨s3, hs3⟩ : ∃ s3 : Shared, s3 = { s2 with heap := s2.heap.push { cls := .type "list", data := .seq ([] : List Value).toArray } } := ⟨_, rfl⟩
  have hh3 : s3.heap = s2.heap.push { cls := .type "list", data := .seq ([] : List Value).toArray } := by rw [hs3]
  have I3 : Inv X pins σ (upd H s2.heap.objs.size (.lst [])) s3 := by
    rw [hs3]
    exact I2.laid (t' := s2.toks) (fun b u e => Heap.get?_push_of_some _ e) (Nat.le_refl _) (show ObjOk X.prog X.w _ _ _ (.lst []) from ⟨Nat.zero_le _, [], 0, .nil, Heap.get?_push_size _ rfl⟩)
  have hns₂ : h₁.Ns s3.heap.objs.size fun x => ([] : List (Str × Value)).reverse.lookup x := by rw [hh3]; exact hns₁
  have hsb₂ : Heap.SameBut s3.heap.objs.size (s3.heap.push { cls := .type (if (some X.env).isSome then "dict" else "frame"), data := .dict #[] }) h₁ := by rw [hh3]; exact hsb₁
  have hf3 : ∀ b ∈ fp, FpOk X pins (upd H s2.heap.objs.size (.lst [])) b := fun b hb => ⟨by rw [upd_ne (Nat.ne_of_lt (flt b hb))]; exact (hf b hb).1, (hf b hb).2⟩
  have hsz : s3.heap.objs.size = s2.heap.objs.size + 1 := by rw [hh3, Heap.size_push]
  have flt3 : ∀ b ∈ fp, b < s3.heap.objs.size := fun b hb => by rw [hsz]; exact Nat.lt_succ_of_lt (flt b hb)
  have hk : ∀ b o, s3.heap.get? b = some o → h₁.get? b = some o := fun b o e => hsb₂.extBut b o (Nat.ne_of_lt (Heap.lt_size e)) (Heap.get?_push_of_some _ e)
  have hk2 : ∀ b o, s2.heap.get? b = some o → h₁.get? b = some o := fun b o e => hk b o (by rw [hh3]; exact Heap.get?_push_of_some _ e)
  have st1 : tn 0 h₁ := T.keep _ _ _ st fun b hb o e => hk2 b o e
  let z : CompAt := ⟨fp, s3, upd H s2.heap.objs.size (.lst []), s3.heap.objs.size, pins⟩
  have cl : ∀ y c, (clOf scope.names X.env).lookup y = some c → X.env.cells.lookup y = some c := fun y c e => by
    rcases (mem_clOf (acc := [])).mp (mem_of_lookupG e) with q | ⟨q, rfl⟩
    · simp at q
    · obtain ⟨c', e'⟩ := I2.ok.has y (O.fr _ q rfl)
      rw [e']; rfl
  -- the iterator's records, as the block sees them
  have fpy : ∀ {H' : Hp}, (∀ b ∈ fp, H' b = none) → ∀ b ∈ fp, FpOk (compCx X scope (xs ++ ys) z) [] H' b := fun hn b hb => by
    refine ⟨hn b hb, Nat.ne_of_lt (flt3 b hb), fun hb2 => ?_, .inl hb, fun y c e => (hf b hb).2.2.2.2.1 y c (cl y c e), fun p hp => ?_⟩
    · exact (List.mem_cons.mp (I3.stkSub b hb2)).elim (fun e => (hf b hb).2.1 e) fun q => (hf b hb).2.2.1 q
    · have hp' : p ∈ (X.pn ++ pins) ++ ([] : List (Addr × Obj)) := hp
      rw [List.append_nil] at hp'
      exact (hf b hb).2.2.2.2.2 p hp'
  -- back to the def
  have back : ∀ {pl : List (Addr × Obj)} {σ' : St} {H' : Hp} {s' : Shared}, Inv (compCx X scope (xs ++ ys) z) pl σ' H' s' → Inv X pins σ H' s' ∧ FpOk X pins H' s3.heap.objs.size := fun {pl σ' H' s'} IY => by
    have I' : Inv X pins σ H' s' := I3.call' (ch := fp) IY.os IY.base IY.hok IY.bare fun b hb => ⟨(hf b hb).2.2.2.1, (hf b hb).2.1, (hf b hb).2.2.2.2.1, (hf b hb).2.2.2.2.2⟩
    exact ⟨I', I3.fpOk (Nat.le_refl _) IY.free⟩
  have loop : ∀ t' : Nat, codeAny (model X.prog X.w) X.A (.compLoop (.ListComp elt [⟨tg, iter, ifs, 0⟩] scope pos) 0 (.ref it) (.ref s2.heap.objs.size) (compCx X scope (xs ++ ys) z).env) (RR (.ref s2.heap.objs.size) s3.heap.objs.size) { s3 with heap := h₁, toks := t' } := by
    intro t'
    have IY := comp_invN (t' := t') O I3 hf3 flt3 _ hns₂ hk
    refine codeAny_compLoop_any (fun n s' => ∃ i vs H', Inv (compCx X scope (xs ++ ys) z) [] (inStN xs.length ix σ) H' s' ∧ tn i s'.heap ∧ (∀ b ∈ fp, H' b = none) ∧ W i n vs H') ?_ m0 ⟨0, [], _, IY, st1, fun b hb => (hf3 b hb).1, w0⟩
    rintro n s5 ⟨i, vs, H5, I5, st5, fr5, w5⟩
    obtain ⟨hD, stop | go⟩ := turn i n vs H5 w5
    · refine thn (T.done (compCx X scope (xs ++ ys) z) rfl rfl rfl hc i [] s5 _ H5 _ I5 (fpy fr5) st5 stop.1) fun r s6 ⟨hr, I6⟩ => ?_
      subst hr
      obtain ⟨m6, n6, _⟩ := I6.loc
      exact hRR _ _ m6 H5 s6 (back I6).1 n6 (back I6).2 stop.2
    · obtain ⟨hgo, hl, N, hN, step⟩ := go
      refine thn (T.item (compCx X scope (xs ++ ys) z) rfl rfl rfl hc i [] s5 _ H5 _ I5 (fpy fr5) st5 hgo) fun r s6 ⟨u, hr, h6⟩ => ?_
      subst hr
      refine thn h6 fun _ s7 ⟨xv, H7, I7, r7, y7, st7, fr7⟩ => ?_
      have I7' := I7.pinned (fpy fr7) (T.obj _ _ st7)
      have q7 := step xv H7 y7 z
      refine thn (hg z _ s7 _ H7 xv u _ I7' r7 q7) fun _ s8 q8 => ?_
      obtain ⟨σ8, H8, I8, k8, q8⟩ := q8
      have wk : ∀ {H' : Hp} {s' : Shared}, Inv (compCx X scope (xs ++ ys) z) ([] ++ pinsAt fp s7.heap) σ8 H' s' → Inv (compCx X scope (xs ++ ys) z) [] (inStN xs.length ix σ) H' s' ∧ tn (i + 1) s'.heap ∧ ∀ b ∈ fp, H' b = none := fun {H' s'} IW => by
        refine ⟨(IW.unpinned).weak (by rw [inStN_len]; exact k8.1.symm) k8.2, T.keep _ _ _ st7 fun b hb o e => (IW.pin (b, o) (List.mem_append_right _ (List.mem_append_right _ (mem_pinsAt hb e)))).1, fun b hb => ?_⟩
        obtain ⟨o, e, d⟩ := T.obj _ _ st7 b hb
        exact (IW.pin (b, o) (List.mem_append_right _ (List.mem_append_right _ (mem_pinsAt hb e)))).2.1
      refine thn (hi z _ s8 _ H8 _ I8 q8) fun ok s9 ⟨H9, I9, q9⟩ => ?_
      cases ok with
      | false =>
        rw [if_neg Bool.false_ne_true] at q9
        rw [if_neg Bool.false_ne_true]
        obtain ⟨m', hm, w9⟩ := hN _ _ q9
        exact ⟨m', hm, i + 1, vs, H9, (wk I9).1, (wk I9).2.1, (wk I9).2.2, w9⟩
      | true =>
        rw [if_pos rfl] at q9
        rw [if_pos rfl]
        refine thn (he z _ s9 _ H9 _ I9 q9) fun yv s10 ⟨y, H10, I10, r10, hD10, n10⟩ => ?_
        obtain ⟨m', hm, w10⟩ := hN _ _ n10
        have ap := mt_append (X := compCx X scope (xs ++ ys) z) _ s10 _ H10 (.ref s2.heap.objs.size) [y] (.ref s2.heap.objs.size) [yv] (fun v H' => H' = upd H10 s2.heap.objs.size (.lst (vs ++ [y]))) I10 rfl (.cons r10 .nil) ⟨s2.heap.objs.size, vs, y, rfl, rfl, hD10, hl, rfl⟩
        refine thn ap fun _ s11 ⟨_, H11, I11, _, e11⟩ => ?_
        subst e11
        exact ⟨m', hm, i + 1, vs ++ [y], _, (wk I11).1, (wk I11).2.1, (wk I11).2.2, w10⟩
  subst hs3
  exact codeAny_compStart_list (loop _) (T.self X.A 0 _ _ _ st1 (loop _))
/-- [elt for TARGET in iter if ..], as a value -/
def tCompG (n : Nat) (ix : List Nat) (wi : TI) (g : CompAt → TG) (tt : CompAt → TT) (te : CompAt → TE) : TE := fun σ H Q => wi σ H fun J H1 => CompWG n ix J g tt te σ Q H1
section
variable {X : Cx} {scope : Scope} {xs ys : List Str} {ix : List Nat} {elt iter tg : Expr} {ifs : List Expr} {pos : Pos} {wi : TI} {g : CompAt → TG} {tt : CompAt → TT} {te : CompAt → TE}
theorem pe_compG (O : CompOkN X scope xs ys ix) (hc : X.calm = true) (hit : PI X tg iter wi) (hg : ∀ z, PG (compCx X scope (xs ++ ys) z) tg (g z))
    (hi : ∀ z, PIfs (compCx X scope (xs ++ ys) z) ifs (tt z)) (he : ∀ z, PE (compCx X scope (xs ++ ys) z) elt (te z)) (hs : ∀ v, foldedSetIterable iter X.env v = pure v := by intro _; rfl) :
    PE X (.ListComp elt [⟨tg, iter, ifs, 0⟩] scope pos) (tCompG xs.length ix wi g tt te) := by
  intro pins s σ H Q I h
  rw [eval_ListComp]
  refine wpAny_comprehension_free (use := none) rfl hs (closureFor_all fun p hp hf => I.ok.has p.1 (O.fr p hp hf)) O.kind O.names (thn (hit pins s σ H _ I h) fun v s1 h1 => thn h1 fun itv s2 h2 => ?_)
  obtain ⟨it, fp, tn, J, H2, e, I2, T, st2, f2, hw⟩ := h2
  subst e
  refine comp_blockN (RR := fun acc C => compPost (model X.prog X.w) X.A X.xe none (EP X pins σ Q) acc C) O hc hg hi he I2 T st2 f2 hw ?_
  intro D C m' H' s' I' n' fC q
  exact ⟨m', n', fun h' hs' => ⟨.ref D, H', comp_turned I' fC hs', rfl, q⟩⟩
theorem pg_own {z : CompAt} {i : Nat} {x : Str} {p : Pos} (O : CompOkN X scope xs ys ix) (hi : xs[i]? = some x) : PG (compCx X scope (xs ++ ys) z) (.Name x p) (gName i) := by
  have hm : x ∈ xs := List.mem_of_getElem? hi
  have hl : i < xs.length := (List.getElem?_eq_some_iff.mp hi).1
  exact pg_name (X := compCx X scope (xs ++ ys) z) O.nd (by show (xs ++ ys)[i]? = some x; rw [List.getElem?_append_left hl]; exact hi) (.inl (lookup_relabel_local (O.hx x hm))) (.inr (lookup_relabel_local (O.hx x hm)))
end
end L2
namespace PySem
open Sem
end PySem
namespace HT
open PySem PySem.Spec PyProof.Rows
section
variable {prog : Program} {w : World} {A : Around} {E : Value → Shared → Prop} {s : Shared}
theorem adjust_rev (n : Nat) : Builtin.Slice.sliceAdjust none none (-1) (n : Int) = ((n : Int) - 1, -1) := rfl
theorem places_rev (n : Nat) : Builtin.Slice.slicePlaces ((n : Int) - 1) (-1) (-1) = n := by
  unfold Builtin.Slice.slicePlaces
  rw [if_neg (by decide)]
  by_cases h : n = 0
  · subst h; decide
  · rw [if_pos (by omega)]
    have : ((n : Int) - 1 - -1 - 1) / (- -1) = (n : Int) - 1 := by
      have e : (- -1 : Int) = 1 := by decide
      rw [e, Int.ediv_one]; omega
    rw [this]; omega
theorem sliceApplied_rev {sl : Addr} {n : Nat} {t : Tok} {Q : Int × Int × Nat → Shared → Prop} (hs : s.heap.IsSliceOf sl .none .none (.int (-1) t))
    (h : Q ((n : Int) - 1, -1, n) s) : wpAny (model prog w) A (Builtin.Slice.sliceApplied (.ref sl) (pure (n : Int))) Q E s := by
  obtain ⟨os, hos, hcs, hds⟩ := id hs
  unfold Builtin.Slice.sliceApplied Builtin.Slice.sliceFields
  refine wpAny_bind (wpAny_bind (wpAny_field hos hds (x := .none) rfl (wpAny_bind (wpAny_field hos hds (x := .none) rfl (wpAny_bind (wpAny_field hos hds (x := .int (-1) t) rfl (wpAny_pure ?_)))))))
  refine wpAny_bind (slicePart_int ?_)
  show wpAny _ _ (if ((-1 : Int) == 0) = true then _ else _) _ _ s
  rw [if_neg (by decide)]
  refine wpAny_bind (slicePart_none (wpAny_bind (slicePart_none (wpAny_bind (wpAny_pure ?_)))))
  show wpAny _ _ (match Builtin.Slice.sliceAdjust none none (-1) (n : Int) with | (lo, hi) => pure (lo, (-1 : Int), Builtin.Slice.slicePlaces lo hi (-1))) _ _ s
  rw [adjust_rev n]
  show wpAny _ _ (pure ((n : Int) - 1, (-1 : Int), Builtin.Slice.slicePlaces ((n : Int) - 1) (-1) (-1))) _ _ s
  rw [places_rev]
  exact wpAny_pure h
theorem fm_congr {α β : Type} {f g : α → Option β} : ∀ {l : List α}, (∀ a ∈ l, f a = g a) → l.filterMap f = l.filterMap g
  | [], _ => rfl
  | a :: r, h => by
    rw [List.filterMap_cons, List.filterMap_cons, h a List.mem_cons_self, fm_congr (l := r) fun b hb => h b (List.mem_cons_of_mem _ hb)]
theorem pick_rev (xs : Array Value) : ((List.range xs.size).filterMap fun (m : Nat) => xs[((xs.size : Int) - 1 + (m : Int) * -1).toNat]?).toArray = xs.toList.reverse.toArray := by
  congr 1
  have e : ∀ m ∈ List.range xs.size, xs[((xs.size : Int) - 1 + (m : Int) * -1).toNat]? = xs.toList.reverse[m]? := by
    intro m hm
    have hm' := List.mem_range.mp hm
    have : ((xs.size : Int) - 1 + (m : Int) * -1).toNat = xs.size - 1 - m := by omega
    rw [this, List.getElem?_reverse (by rw [Array.length_toList]; exact hm'), Array.length_toList, Array.getElem?_toList]
  rw [fm_congr e]
  have hl : xs.size = xs.toList.reverse.length := by rw [List.length_reverse, Array.length_toList]
  rw [hl]
  generalize xs.toList.reverse = zs
  induction zs with
  | nil => rfl
  | cons z r ih =>
    rw [List.length_cons, List.range_succ_eq_map, List.filterMap_cons]
    show z :: _ = _
    rw [List.filterMap_map]
    show z :: List.filterMap (fun m => (z :: r)[m + 1]?) (List.range r.length) = _
    have : (fun m => (z :: r)[m + 1]?) = fun m => r[m]? := by funext m; rfl
    rw [this, ih]
theorem getItem_tuple_rev {t sl : Addr} {items : Array Value} {tk : Tok} {Q : Value → Shared → Prop} (ht : IsTup s.heap t items) (hs : s.heap.IsSliceOf sl .none .none (.int (-1) tk))
    (h : Q (.ref s.heap.objs.size) { s with heap := s.heap.push { cls := .type "tuple", data := .seq items.toList.reverse.toArray } })
    (hsz : items.size ≤ sizeLine) : wpAny (model prog w) A (getItem (.ref t) (.ref sl)) Q E s := by
  have htake : sizeOk (.seq items.toList.reverse.toArray) := by
    show items.toList.reverse.toArray.size ≤ sizeLine
    rw [List.size_toArray, List.length_reverse, Array.length_toList]
    exact hsz
  obtain ⟨os, hos, hcs, hds⟩ := id hs
  have hTs : s.TypeIs (.ref sl) "slice" := ⟨os, hos, hcs⟩
  unfold getItem
  try with_reducible refine wpAny_holding ?_
  first | refine wpAny_bind (wpAny_pure ?_) | skip
  refine wpAny_bind (wpAny_sequenceKey ht.typeIs (by decide) ?_)
  refine wpAny_bind (wpAny_callSpecial?_slot (name := Str.ofString "__getitem__") ht.typeIs PyProof.Rows.slot_tuple_getitem
    (wpAny_call_entry PyProof.Rows.slot_tuple_getitem ht.typeIs entry_tuple_getitem ?_ (args_tuple_getitem _ _)))
  show wpAny _ _ (Builtin.Tuple.tupleItemsOf (.ref t) >>= _) _ _ s
  refine wpAny_bind (tupleItemsOf_ ht ?_)
  refine wpAny_bind (wpAny_typeOf hTs ?_)
  rw [if_pos (by decide)]
  refine wpAny_bind (sliceApplied_rev hs ?_)
  have hno : ¬ ((((items.size : Int) - 1) == 0 && (-1 : Int) == 1 && items.size == items.size) = true) := by
    intro q
    rw [Bool.and_eq_true, Bool.and_eq_true] at q
    exact absurd q.1.2 (by decide)
  show wpAny _ _ (if (((items.size : Int) - 1) == 0 && (-1 : Int) == 1 && items.size == items.size) = true then _ else _) _ _ s
  rw [if_neg hno, pick_rev]
  first
    | exact wpAny_bind (m := Builtin.Tuple.tupleExact _) (wpAny_newObj_type (wpAny_pure ⟨_, rfl, wpAny_pure h⟩) htake)
    | exact wpAny_bind (m := Builtin.Tuple.tupleExact _) (wpAny_newObj_type (wpAny_bind (wpAny_pure (wpAny_pure ⟨_, rfl, wpAny_pure h⟩))) htake)
    | exact wpAny_bind (wpAny_bind (m := Builtin.Tuple.tupleExact _) (wpAny_newObj_type (wpAny_pure (wpAny_pure ⟨_, rfl, wpAny_pure h⟩)) htake))
    | exact wpAny_bind (wpAny_bind (m := Builtin.Tuple.tupleExact _) (wpAny_newObj_type (wpAny_pure ⟨_, rfl, wpAny_pure h⟩) htake))
end
end HT
namespace L2
open PySem PySem.Spec PyProof.Rows
section
variable {X : Cx} {e st : Expr} {te : TE} {p2 pos : Pos}
/-- t[::-1] of a tuple; the step by any expression that tells -1 -/
def tRevT (K : PySem.W.Frag) (te : TE) : TE := fun σ H Q => te σ H fun x H1 => ∃ a xs, x = .ref a ∧ SqT K H1 a xs ∧ ∀ p, H1 p = none → Q (.ref p) (upd H1 p (.tup xs.reverse))
theorem pe_revT {ts : TE} (he : PE X e te) (hst : PE X st ts) (hv : ∀ σ H Q, Q (.int (-1)) H → ts σ H Q) : PE X (.Subscript e (.Slice none none (some st) p2) pos) (tRevT X.K te) := by
  intro pins s σ H Q I h
  refine Subscript_ (thn (he pins s σ H _ I h) fun v s1 ⟨x, H1, I1, r1, q1⟩ => ?_)
  obtain ⟨a, xs, rfl, hq, q⟩ := q1
  cases r1
  refine wpAny_Slice ?_
  rw [evalPart_none]
  refine wpAny_pure (wpAny_pure ?_)
  rw [evalPart_some]
  refine thn (hst pins s1 σ H1 (fun v H' => v = .int (-1) ∧ H' = H1) I1 (hv _ _ _ ⟨rfl, rfl⟩)) fun vs s2 ⟨y, H2, I2, r2, e2, e3⟩ => ?_
  subst e2 e3
  obtain ⟨tk, rfl⟩ := r2
  have I4 : Inv X pins σ _ { s2 with heap := s2.heap.push { cls := .type "slice", data := .fields #[.none, .none, .int (-1) tk] } } := I2.kept (t' := s2.toks) fun b ob q => Heap.get?_push_of_some _ q
  obtain ⟨its, r, ht, hz⟩ := I4.tuple hq
  have hlen : its.toArray.size = xs.length := by rw [List.size_toArray]; exact r.length.symm
  show wpAny (model X.prog X.w) X.A (subscriptTail e (.Slice none none (some st) p2) (.ref a) (.ref s2.heap.objs.size)) (EP X pins σ Q) X.xe { s2 with heap := s2.heap.push { cls := .type "slice", data := .fields #[.none, .none, .int (-1) tk] } }
  refine tail_any (ops := [.ref a, .ref s2.heap.objs.size]) ht.typeIs PyProof.Rows.slot_tuple_getitem.lookup ?_ (by with_unfolding_all rfl)
  refine HT.getItem_tuple_rev ht (Heap.IsSliceOf.new ..) ?_ (by rw [hlen]; exact hz)
  refine ⟨.ref _, _, I4.laid (t' := s2.toks) (o := .tup xs.reverse) (fun b ob q => Heap.get?_push_of_some _ q) (Nat.le_refl _) ?_, rfl, q _ (I4.hok.fresh (Nat.le_refl _))⟩
  exact ⟨by rw [List.length_reverse]; exact hz, _, r.reverse, IsTup.new _ _⟩
end
end L2
namespace L2
open PySem PySem.Spec PyProof.Rows
end L2
namespace My
inductive F2 {α β : Type} (R : α → β → Prop) : List α → List β → Prop
  | nil : F2 R [] []
  | cons {a : α} {b : β} {as : List α} {bs : List β} : R a b → F2 R as bs → F2 R (a :: as) (b :: bs)
end My
namespace L2
open PySem PySem.Spec PyProof.Rows
section
variable {X : Cx}
end
end L2
namespace HT
open PySem PySem.Spec PyProof.Rows
section
variable {prog : Program} {w : World} {A : Around} {E : Value → Shared → Prop} {s : Shared}
theorem getItem_tuple_whole {t sl : Addr} {items : Array Value} {vl vu : Value} {lo hi : Option Int} {Q : Value → Shared → Prop} (ht : IsTup s.heap t items) (hs : s.heap.IsSliceOf sl vl vu .none) (pl : IsPart vl lo) (pu : IsPart vu hi)
    (hw : sIx items.size 0 lo = 0 ∧ sIx items.size items.size hi = items.size) (h : Q (.ref t) s) : wpAny (model prog w) A (getItem (.ref t) (.ref sl)) Q E s := by
  obtain ⟨os, hos, hcs, hds⟩ := id hs
  have hTs : s.TypeIs (.ref sl) "slice" := ⟨os, hos, hcs⟩
  unfold getItem
  try with_reducible refine wpAny_holding ?_
  first | refine wpAny_bind (wpAny_pure ?_) | skip
  refine wpAny_bind (wpAny_sequenceKey ht.typeIs (by decide) ?_)
  refine wpAny_bind (wpAny_callSpecial?_slot (name := Str.ofString "__getitem__") ht.typeIs PyProof.Rows.slot_tuple_getitem
    (wpAny_call_entry PyProof.Rows.slot_tuple_getitem ht.typeIs entry_tuple_getitem ?_ (args_tuple_getitem _ _)))
  show wpAny _ _ (Builtin.Tuple.tupleItemsOf (.ref t) >>= _) _ _ s
  refine wpAny_bind (tupleItemsOf_ ht ?_)
  refine wpAny_bind (wpAny_typeOf hTs ?_)
  rw [if_pos (by decide)]
  refine wpAny_bind (sliceApplied_gen hs pl pu ?_)
  have hyes : (((sIx items.size 0 lo : Nat) : Int) == 0 && (1 : Int) == 1 && (sIx items.size items.size hi - sIx items.size 0 lo) == items.size) = true := by
    rw [hw.1, hw.2]; simp
  show wpAny _ _ (if (((sIx items.size 0 lo : Nat) : Int) == 0 && (1 : Int) == 1 && (sIx items.size items.size hi - sIx items.size 0 lo) == items.size) = true then _ else _) _ _ s
  rw [if_pos hyes]
  unfold Builtin.Tuple.tupleIsExact
  refine wpAny_bind (wpAny_bind (wpAny_typeOf ht.typeIs (wpAny_pure ?_)))
  rw [if_pos (by decide)]
  refine wpAny_bind (wpAny_rule ?_)
  exact wpAny_pure ⟨_, rfl, wpAny_pure h⟩
end
end HT
namespace L2
open PySem PySem.Spec PyProof.Rows
section
variable {X : Cx}
/-- t[lo:hi] of a tracked tuple, the whole of it too -/
def rSlTA : V → Option Int → Option Int → Hp → VK → Prop := fun x lo hi H Q => ∃ a xs, x = .ref a ∧ H a = some (.tup xs) ∧ ∀ (b : Addr) (H' : Hp), H' b = some (.tup (cutV xs lo hi)) → (∀ c o, H c = some o → H' c = some o) → Q (.ref b) H'
theorem sl_tupA : SlR X rSlTA := by
  intro pins s σ H x v vl vu lo hi sl Q I rx hs pl pu h
  obtain ⟨a, xs, rfl, hx, q⟩ := h
  by_cases hw : HT.sIx xs.length 0 lo = 0 ∧ HT.sIx xs.length xs.length hi = xs.length
  · cases rx
    obtain ⟨its, r, ht, hz⟩ := I.tuple (SqT.of (K := X.K) hx)
    have hlen : its.toArray.size = xs.length := by rw [List.size_toArray]; exact r.length.symm
    refine ⟨"tuple", _, PyProof.Rows.slot_tuple_getitem.lookup, ht.typeIs, ?_⟩
    refine HT.getItem_tuple_whole ht hs pl pu (by rw [hlen]; exact hw) ⟨.ref a, H, I, rfl, q a H ?_ fun _ _ e => e⟩
    have e : cutV xs lo hi = xs := by
      unfold cutV
      rw [hw.1, hw.2]; simp
    rw [e]; exact hx
  · exact sl_tup pins s σ H (.ref a) v vl vu lo hi sl Q I rx hs pl pu ⟨a, xs, rfl, SqT.of hx, hw, fun p hp => q p _ upd_same fun c o e => by rw [upd_ne (ne_of_none e hp)]; exact e⟩
end
end L2
namespace L2
open PySem PySem.Spec PyProof.Rows
section
variable {X : Cx} {pins : List (Addr × Obj)} {σ : List (Option V)} {H : Hp} {s : Shared} {h' : Heap}
/-- an iterator's records have changed, and a new object is laid and tracked -/
theorem Inv.turnedLay {fp : List Addr} {T : Addr} {o : HO} {t' : Nat} (I : Inv X pins σ H s) (hf : ∀ b ∈ fp, FpOk X pins H b) (k : ∀ b u, b ∉ fp → s.heap.get? b = some u → h'.get? b = some u) (hT : s.heap.objs.size ≤ T)
    (new : ObjOk X.prog X.w (upd H T o) h' T o) : Inv X pins σ (upd H T o) { s with heap := h', toks := t' } := by
  have hn : H T = none := I.hok.fresh hT
  have neT : ∀ b u, s.heap.get? b = some u → b ≠ T := fun b u e z => Nat.lt_irrefl _ (Nat.lt_of_lt_of_le (Heap.lt_size e) (by rw [z]; exact hT))
  have nfp : ∀ b u, H b = some u → b ∉ fp := fun b u e z => by
    have q := (hf b z).1
    rw [q] at e; cases e
  have hL : X.env.locals ∉ fp := fun z => (hf _ z).2.1 rfl
  refine I.step (g' := s.gens) (d' := s.drawn) (ch := fp) (H' := upd H T o) (fun b hb => ?_) (fun b u _ _ hc e _ => k b u hc e) (fun b u _ _ hc e _ => ⟨u.slots, k b u hc e⟩) (fun b u hc e n => ?_)
    (fun b u hc e => ⟨u, k b u hc e⟩) (fun b xs e => ?_) (fun b u v e => ?_) (fun b ps e => ⟨#[], ?_⟩) (fun m hm => ?_) (fun b u e => ?_) I.bare
  · obtain ⟨_, f1, _, f3, f4, f5⟩ := hf b hb
    exact ⟨f3, f1, f4, f5⟩
  · rw [upd_ne (neT b u e)]; exact n
  · rw [upd_ne (ne_of_none e hn)]; exact e
  · rw [upd_ne (ne_of_none e hn)]; exact e
  · rw [upd_ne (ne_of_none e hn), e]; simp
  · obtain ⟨u, es, ep, ho, r⟩ := hm
    exact ⟨u, es, ep, k _ u hL ho, r⟩
  · by_cases hb : b = T
    · subst hb; rw [upd_same] at e; cases e; exact new
    · rw [upd_ne hb] at e
      refine (I.hok b u e).stay (fun c v hc q => k c v ?_ q) (fun c q => by rw [upd_ne (ne_of_none q hn)]; exact q) fun c xs q => by rw [upd_ne (ne_of_none q hn)]; exact q
      rcases hc with z | z
      · rw [z]; exact nfp b u e
      · exact nfp c _ z
/-- an iterator's records have changed -/
theorem Inv.turnedN {fp : List Addr} {t' : Nat} (I : Inv X pins σ H s) (hf : ∀ b ∈ fp, FpOk X pins H b) (k : ∀ b u, b ∉ fp → s.heap.get? b = some u → h'.get? b = some u) : Inv X pins σ H { s with heap := h', toks := t' } := by
  have nfp : ∀ b u, H b = some u → b ∉ fp := fun b u e z => by
    have q := (hf b z).1
    rw [q] at e; cases e
  have hL : X.env.locals ∉ fp := fun z => (hf _ z).2.1 rfl
  refine I.step (g' := s.gens) (d' := s.drawn) (ch := fp) (H' := H) (fun b hb => ?_) (fun b u _ _ hc e _ => k b u hc e) (fun b u _ _ hc e _ => ⟨u.slots, k b u hc e⟩) (fun b u hc e n => n)
    (fun b u hc e => ⟨u, k b u hc e⟩) (fun b xs e => e) (fun b u v e => e) (fun b ps e => ⟨#[], by rw [e]; simp⟩) (fun m hm => ?_) (fun b u e => ?_) I.bare
  · obtain ⟨_, f1, _, f3, f4, f5⟩ := hf b hb
    exact ⟨f3, f1, f4, f5⟩
  · obtain ⟨u, es, ep, ho, r⟩ := hm
    exact ⟨u, es, ep, k _ u hL ho, r⟩
  · refine (I.hok b u e).stay (fun c v hc q => k c v ?_ q) (fun _ q => q) fun _ _ q => q
    rcases hc with z | z
    · rw [z]; exact nfp b u e
    · exact nfp c _ z
end
theorem zip_apart {n l1 l2 : Nat} (h1 : l1 < n) (h2 : l2 < n) : ZipApart (n + 4) (n + 2) (n + 3) n (n + 1) l1 l2 := by
  constructor <;> (show ¬ ((_ : Nat) = _); omega)
def Itz (K : PySem.W.Frag) (l1 l2 : Addr) : It := ⟨fun i H => ∃ xs ys x y, SqL K H l1 xs ∧ SqL K H l2 ys ∧ xs[i]? = some x ∧ ys[i]? = some y,
  fun i H v H' => ∃ T, v = .ref T ∧ H T = none ∧ ∀ xs ys x y, SqL K H l1 xs → SqL K H l2 ys → xs[i]? = some x → ys[i]? = some y → H' = upd H T (.tup [x, y]),
  fun i H => ∃ xs ys, SqL K H l1 xs ∧ SqL K H l2 ys ∧ min xs.length ys.length = i⟩
def ZipRec (z TI TO i1 i2 l1 l2 : Addr) (i : Nat) (h : Heap) : Prop := IsZip h z TI TO .none ∧ IsPair h TI (.ref i1) (.ref i2) ∧ (∃ a b, IsPair h TO a b) ∧ h.IsListIter i1 l1 i ∧ h.IsListIter i2 l2 i
theorem turn_zip {P : Program} {w : World} {K : PySem.W.Frag} {elts : List Expr} {k0 : Nat} {p0 : Pos} {z TI TO i1 i2 l1 l2 : Addr} (D : ZipApart z TI TO i1 i2 l1 l2) :
    Turn P w K (.Tuple elts k0 p0) (Itz K l1 l2) [z, TI, TO, i1, i2] z (ZipRec z TI TO i1 i2 l1 l2) where
  mem := by simp
  obj := fun i h st b hb => by
    obtain ⟨h1, h2, ⟨a, c, h3⟩, ⟨o4, h4, c4, d4⟩, ⟨o5, h5, c5, d5⟩⟩ := st
    simp only [List.mem_cons, List.not_mem_nil, or_false] at hb
    rcases hb with rfl | rfl | rfl | rfl | rfl
    · exact ⟨_, h1, fun v q => by cases q⟩
    · exact ⟨_, h2, fun v q => by cases q⟩
    · exact ⟨_, h3, fun v q => by cases q⟩
    · exact ⟨_, h4, fun v q => by rw [d4] at q; cases q⟩
    · exact ⟨_, h5, fun v q => by rw [d5] at q; cases q⟩
  keep := fun i h h' st k => by
    obtain ⟨h1, h2, ⟨a, c, h3⟩, h4, h5⟩ := st
    exact ⟨k z (by simp) _ h1, k TI (by simp) _ h2, ⟨a, c, k TO (by simp) _ h3⟩, h4.at fun o e => k i1 (by simp) o e, h5.at fun o e => k i2 (by simp) o e⟩
  item := by
    intro X hP hw hK hc i pins s σ H E I hf st hg
    subst hP hw hK
    obtain ⟨xs, ys, x, y, hx, hy, ex, ey⟩ := hg
    obtain ⟨us, r1, p1, z1⟩ := I.list hx
    obtain ⟨vs, r2, p2, z2⟩ := I.list hy
    obtain ⟨u, eu, ru⟩ := r1.get ex
    obtain ⟨v, ev, rv⟩ := r2.get ey
    obtain ⟨h1, h2, h3, h4, h5⟩ := st
    have W := WalksT.zip2 (prog := X.prog) (w := X.w) (A := X.A) (I.ok.hd hc) z TI TO i1 i2 l1 l2 D us.toArray vs.toArray
    have hiu : i < us.length := (List.getElem?_eq_some_iff.mp eu).1
    have hiv : i < vs.length := (List.getElem?_eq_some_iff.mp ev).1
    have wrf : ∀ b, b ∉ ([z, TI, TO, i1, i2] : List Addr) → b ∉ ([z, TO, i1, i2] : List Addr) := fun b hb q => hb (by simp at q ⊢; rcases q with q | q | q | q <;> simp [q])
    refine W.item i s _ _ (by rw [List.size_toArray, List.size_toArray]; omega) ⟨h1, h2, h3, h4, h5, p1.isList, p2.isList⟩ fun T vals h' tk hP hsz hT hM hk => ⟨.ref T, rfl, ?_⟩
    obtain ⟨x', y', e1, e2, rfl⟩ := hP
    have e1' : u = x' := by
      have : us[i]? = some x' := by simpa using e1
      rw [eu] at this; exact Option.some.inj this
    have e2' : v = y' := by
      have : vs[i]? = some y' := by simpa using e2
      rw [ev] at this; exact Option.some.inj this
    subst e1' e2'
    refine W.go elts k0 p0 i T { s with heap := h', toks := tk } _ _ hM fun h'' st'' hk' => ?_
    obtain ⟨g1, g2, g3, g4, g5, g6, g7⟩ := st''
    have nT := W.apart i T _ hM
    have hT2 : h''.IsTuple T #[u, v] := hT.at fun o e => hk' T o nT e
    refine ⟨.ref T, upd H T (.tup [x, y]), ?_, rfl, ⟨T, rfl, I.hok.fresh hsz, fun xs' ys' x'' y'' q1 q2 q3 q4 => ?_⟩, ⟨g1, g2, g3, g4, g5⟩, fun b hb => ?_⟩
    · refine I.turnedLay (t' := tk) (fp := [z, TI, TO, i1, i2]) hf (fun b o hb e => hk' b o (wrf b hb) (hk b o (wrf b hb) e)) hsz ?_
      exact ⟨by show 2 ≤ sizeLine; decide, [u, v], .cons ru (.cons rv .nil), hT2⟩
    · rw [I.list_inj q1 hx] at q3
      rw [I.list_inj q2 hy] at q4
      rw [ex] at q3; rw [ey] at q4
      cases q3; cases q4; rfl
    · have q := (hf b hb).1
      have nb : b ≠ T := by
        intro e
        obtain ⟨o, eo, _⟩ : ∃ o, s.heap.get? b = some o ∧ True := by
          simp only [List.mem_cons, List.not_mem_nil, or_false] at hb
          obtain ⟨a, c, h3⟩ := h3
          obtain ⟨o4, h4, _⟩ := h4
          obtain ⟨o5, h5, _⟩ := h5
          rcases hb with rfl | rfl | rfl | rfl | rfl
          · exact ⟨_, h1, trivial⟩
          · exact ⟨_, h2, trivial⟩
          · exact ⟨_, h3, trivial⟩
          · exact ⟨_, h4, trivial⟩
          · exact ⟨_, h5, trivial⟩
        exact Nat.lt_irrefl _ (Nat.lt_of_lt_of_le (Heap.lt_size eo) (by rw [e]; exact hsz))
      rw [upd_ne nb]; exact q
  done := by
    intro X hP hw hK hc i pins s σ H E I hf st hg
    subst hP hw hK
    obtain ⟨xs, ys, hx, hy, hi⟩ := hg
    obtain ⟨us, r1, p1, z1⟩ := I.list hx
    obtain ⟨vs, r2, p2, z2⟩ := I.list hy
    obtain ⟨h1, h2, h3, h4, h5⟩ := st
    have W := WalksT.zip2 (prog := X.prog) (w := X.w) (A := X.A) (I.ok.hd hc) z TI TO i1 i2 l1 l2 D us.toArray vs.toArray
    have l1' := r1.length
    have l2' := r2.length
    have e : i = min us.toArray.size vs.toArray.size := by rw [List.size_toArray, List.size_toArray]; omega
    subst e
    have wrf : ∀ b, b ∉ ([z, TI, TO, i1, i2] : List Addr) → b ∉ ([z, TO, i1, i2] : List Addr) := fun b hb q => hb (by simp at q ⊢; rcases q with q | q | q | q <;> simp [q])
    exact W.done s _ _ ⟨h1, h2, h3, h4, h5, p1.isList, p2.isList⟩ fun h' tk hk => ⟨rfl, I.turnedN (fp := [z, TI, TO, i1, i2]) hf fun b o hb e => hk b o (wrf b hb) e⟩
  self := fun A i s Q E st h => wpAny_pyIter_zip st.1 h
section
variable {X : Cx}
def iZip (K : PySem.W.Frag) (ta : TA) : TI := fun σ H R => ta σ H fun vs H1 => ∃ l1 l2 xs ys, vs = [.ref l1, .ref l2] ∧ SqL K H1 l1 xs ∧ SqL K H1 l2 ys ∧ R (Itz K l1 l2) H1
theorem pi_zip {elts : List Expr} {k0 : Nat} {p0 : Pos} {a b : Expr} {ta : TA} {p pos : Pos} (hg : Gl X "zip") (hm : X.mg "zip" = none) (ha : PA X [a, b] ta)
    (hs : starEach [a, b] X.env = [(false, eval a X.env), (false, eval b X.env)] := by rfl) (hs2 : starEach [b] X.env = [(false, eval b X.env)] := by rfl) :
    PI X (.Tuple elts k0 p0) (.Call (.Name "zip" p) [a, b] [] pos) (iZip X.K ta) := by
  intro pins s σ H R I h
  refine Call_ (ld_blt I hg hm PyProof.Rows.boot_zip (PyProof.Rows.callWith_type1 (thn (ha pos pins s σ H _ I h) fun us s1 ⟨vs, H1, I1, r1, q1⟩ => ?_) (by rw [hs, hs2]) (by rw [hs2]; rfl)))
  obtain ⟨l1, l2, xs, ys, e, hx, hy, q⟩ := q1
  subst e
  cases r1 with
  | cons r rr =>
    cases rr with
    | cons r' rr =>
      cases rr
      cases r
      cases r'
      obtain ⟨as, ra, pa, za⟩ := I1.list hx
      obtain ⟨bs, rb, pb, zb⟩ := I1.list hy
      refine call_zip_2 pa.isList pb.isList fun h' z1 z2 z3 z4 z5 zs zk => ?_
      have la : l1 < s1.heap.objs.size := by obtain ⟨_, e, _⟩ := pa.isList; exact Heap.lt_size e
      have lb : l2 < s1.heap.objs.size := by obtain ⟨_, e, _⟩ := pb.isList; exact Heap.lt_size e
      have I2 : Inv X pins σ H1 { s1 with heap := h' } := I1.kept (t' := s1.toks) zk
      refine wpAny_pyIter_zip z1 ?_
      refine ⟨_, [s1.heap.objs.size + 4, s1.heap.objs.size + 2, s1.heap.objs.size + 3, s1.heap.objs.size, s1.heap.objs.size + 1], _, _, H1, rfl, I2,
        turn_zip (zip_apart la lb), ⟨z1, z2, ⟨_, _, z3⟩, z4, z5⟩, fun b hb => ?_, q⟩
      have hb' : s1.heap.objs.size ≤ b := by
        simp only [List.mem_cons, List.not_mem_nil, or_false] at hb
        rcases hb with e | e | e | e | e <;> (rw [e]; first | exact Nat.le_add_right _ _ | exact Nat.le_refl _)
      exact I1.fpOk hb' (I1.hok.fresh hb')
end
end L2
namespace L2
open PySem PySem.Spec PyProof.Rows
/-- the items of xs[lo:hi:st] -/
def pickV (xs : List V) (lo hi st : Option Int) : List V := (sliceRange (sliceBounds lo hi st xs.length).1 (sliceBounds lo hi st xs.length).2.1 (sliceBounds lo hi st xs.length).2.2).filterMap (xs[·]?)
theorem Vals.none_at {xs : List V} {us : List Value} (h : Vals xs us) {j : Nat} (e : xs[j]? = none) : us[j]? = none := by
  rw [List.getElem?_eq_none_iff] at e ⊢
  rw [← h.length]; exact e
theorem Vals.some_of {xs : List V} {us : List Value} (h : Vals xs us) : ∀ js : List Nat, Vals (js.filterMap (xs[·]?)) (js.filterMap (us[·]?)) := by
  intro js
  induction js with
  | nil => exact .nil
  | cons j js ih =>
    cases e : xs[j]? with
    | none => simp only [List.filterMap_cons, e, h.none_at e]; exact ih
    | some x =>
      obtain ⟨u, eu, r⟩ := h.get e
      simp only [List.filterMap_cons, e, eu]
      exact .cons r ih
section
variable {X : Cx} {e st : Expr} {te ts : TE} {lo hi : Option Expr} {tl th : TO} {p2 pos : Pos}
def tSlS (K : PySem.W.Frag) (te : TE) (tl th tk : TO) : TE := fun σ H Q => te σ H fun x H1 => tl σ H1 fun l H2 => th σ H2 fun u H3 => tk σ H3 fun c H4 =>
  ∃ a xs, x = .ref a ∧ SqL K H4 a xs ∧ c ≠ some 0 ∧ ∀ p, H4 p = none → Q (.ref p) (upd H4 p (.lst (pickV xs l u c)))
theorem pe_sliceS (he : PE X e te) (hl : PO X lo tl) (hu : PO X hi th) (hst : PE X st ts) : PE X (.Subscript e (.Slice lo hi (some st) p2) pos) (tSlS X.K te tl th (tPart ts)) := by
  intro pins s σ H Q I h
  refine Subscript_ (thn (he pins s σ H _ I h) fun v s1 ⟨x, H1, I1, r1, q1⟩ => ?_)
  refine wpAny_Slice (thn (hl pins s1 σ H1 _ I1 q1) fun vl s2 ⟨l, H2, I2, pl, q2⟩ => thn (hu pins s2 σ H2 _ I2 q2) fun vu s3 ⟨u, H3, I3, pu, q3⟩ => thn (po_some hst pins s3 σ H3 _ I3 q3) fun vs s4 ⟨c, H4, I4, ps, q4⟩ => ?_)
  obtain ⟨a, xs, rfl, hq, hc0, q⟩ := q4
  cases r1
  have I5 : Inv X pins σ H4 { s4 with heap := s4.heap.push { cls := .type "slice", data := .fields #[vl, vu, vs] } } := I4.kept (t' := s4.toks) fun b ob q => Heap.get?_push_of_some _ q
  obtain ⟨its, r, pls, hz⟩ := I5.list hq
  show wpAny (model X.prog X.w) X.A (subscriptTail e (.Slice lo hi (some st) p2) (.ref a) (.ref s4.heap.objs.size)) (EP X pins σ Q) X.xe { s4 with heap := s4.heap.push { cls := .type "slice", data := .fields #[vl, vu, vs] } }
  refine tail_any (ops := [.ref a, .ref s4.heap.objs.size]) pls.isList.typeIs list_getitem_lookup ?_ (by with_unfolding_all rfl)
  have hn := r.length
  refine wpAny_getItem_list_slice pls.isList (Heap.IsSliceOf.new ..) pl pu ps hc0 ?_ (by rw [List.size_toArray, ← hn]; exact hz)
  have le := slicePick_size_le its.toArray l u c
  have ep : slicePick its.toArray l u c = ((sliceRange (sliceBounds l u c xs.length).1 (sliceBounds l u c xs.length).2.1 (sliceBounds l u c xs.length).2.2).filterMap (its[·]?)).toArray := by
    unfold slicePick
    rw [List.size_toArray, hn]
    simp
  have rp := Vals.some_of r (sliceRange (sliceBounds l u c xs.length).1 (sliceBounds l u c xs.length).2.1 (sliceBounds l u c xs.length).2.2)
  have lp := rp.length
  rw [ep] at le ⊢
  refine ⟨.ref _, _, I5.laid (t' := s4.toks) (o := .lst (pickV xs l u c)) (fun b ob q => Heap.get?_push_of_some _ q) (Nat.le_refl _) ?_, rfl, q _ (I5.hok.fresh (Nat.le_refl _))⟩
  refine ⟨?_, _, 0, rp, Heap.get?_push_size _ rfl⟩
  rw [List.size_toArray, List.size_toArray] at le
  show (pickV xs l u c).length ≤ sizeLine
  unfold pickV
  rw [lp]
  omega
end
def Itd (lo : Int) (n : Nat) : It := ⟨fun i _ => i < n, fun i H x H' => H' = H ∧ x = .int (lo - i), fun i _ => n ≤ i⟩
theorem turn_down {P : Program} {w : World} {K : PySem.W.Frag} {tg : Expr} (it : Addr) (lo : Int) (n : Nat) : Turn P w K tg (Itd lo n) [it] it (fun i h => IsRangeIter h it (lo + (i : Nat) * -1) ((n : Int) - (i : Nat)) (-1)) where
  mem := by simp
  obj := fun i h st b hb => by
    have e : b = it := by simpa using hb
    subst e
    exact ⟨_, st, fun v q => by cases q⟩
  keep := fun i h h' st k => k it (by simp) _ st
  item := by
    intro X hP hw hK hc i pins s σ H E I hf st hg
    subst hP hw hK
    obtain ⟨f0, f1, f2, f3, f4, f5⟩ := hf it (by simp)
    refine (Walks.range (prog := X.prog) (w := X.w) (I.ok.hd hc) it lo (-1) n).item i s _ _ hg st fun v h' tk hv st' kk => ?_
    obtain ⟨t, rfl⟩ := hv
    have J : Inv X pins σ H { s with heap := h', toks := tk } := I.turned (fun b o hb e => kk b o (by simpa using hb) e) f0 f1 f3 f4 f5
    refine ⟨_, rfl, go_of (s := { s with heap := h', toks := tk }) (n := "range_iterator") st' rfl rfl (by decide) ⟨.int (lo - i), H, J, ⟨t, ?_⟩, ⟨rfl, rfl⟩, st', fun b hb => (hf b hb).1⟩⟩
    congr 1
    omega
  done := by
    intro X hP hw hK hc i pins s σ H E I hf st hg
    subst hP hw hK
    obtain ⟨f0, f1, f2, f3, f4, f5⟩ := hf it (by simp)
    have hg' : n ≤ i := hg
    exact wpAny_pyNext_range_end (I.ok.hd hc) st (by omega) fun h' eb => ⟨rfl, I.turned (t' := s.toks) (fun b o hb e => eb b o hb e) f0 f1 f3 f4 f5⟩
  self := fun _ _ _ _ _ st h => wpAny_pyIter_rangeiter st h
theorem size_down {a b : Int} : Builtin.Range.rangeSize a b (-1) = if a > b then a - b else 0 := by
  unfold Builtin.Range.rangeSize
  rw [if_neg (by decide)]
  split
  · rw [show (- -1 : Int) = 1 from rfl, Int.ediv_one]; omega
  · rfl
theorem small_down {a b : Int} (q1 : -(2 ^ 62) ≤ a) (q2 : a < 2 ^ 62) (q3 : -(2 ^ 62) ≤ b) (q4 : b < 2 ^ 62) : Builtin.Range.small a b (-1) = true := by
  unfold Builtin.Range.small
  rw [size_down]
  have n1 : ¬ ((-1 : Int) > 0) := by decide
  simp only [Builtin.Range.rangeFitsLong, Bool.and_eq_true, Bool.or_eq_true, decide_eq_true_eq, beq_iff_eq, if_neg n1]
  split <;> omega
section
variable {X : Cx} {tg : Expr}
def iRngD (ta : TA) : TI := fun σ H R => ta σ H fun vs H1 => ∃ i j : Int, vs = [.int i, .int j, .int (-1)] ∧ (-(2 ^ 62) ≤ i ∧ i < 2 ^ 62 ∧ -(2 ^ 62) ≤ j ∧ j < 2 ^ 62) ∧ R (Itd i (i - j).toNat) H1
theorem pi_rangeD {a b c : Expr} {ta : TA} {p pos : Pos} (hg : Gl X "range") (hm : X.mg "range" = none) (ha : PA X [a, b, c] ta)
    (hs : starEach [a, b, c] X.env = [(false, eval a X.env), (false, eval b X.env), (false, eval c X.env)] := by rfl) (hs2 : starEach [b, c] X.env = [(false, eval b X.env), (false, eval c X.env)] := by rfl) :
    PI X tg (.Call (.Name "range" p) [a, b, c] [] pos) (iRngD ta) := by
  intro pins s σ H R I h
  refine Call_ (ld_blt I hg hm boot_range (PyProof.Rows.callWith_type1 (thn (ha pos pins s σ H _ I h) fun us s1 ⟨vs, H1, I1, r1, q1⟩ => ?_) (by rw [hs, hs2]) (by rw [hs2]; rfl)))
  obtain ⟨i, j, e, ⟨q1, q2, q3, q4⟩, q⟩ := q1
  subst e
  cases r1 with
  | cons r rr =>
    cases rr with
    | cons r' rr =>
      cases rr with
      | cons r'' rr =>
        cases rr
        obtain ⟨t, rfl⟩ := r
        obtain ⟨t', rfl⟩ := r'
        obtain ⟨t'', rfl⟩ := r''
        refine PySem.call_range_3 (by decide) ?_ (.inl (PyProof.noPylong_of_log2 (by decide +kernel)))
        refine wpAny_pyIter_range (IsRange.new ..) (small_down q1 q2 q3 q4) ?_
        have J : Inv X pins σ H1 { s1 with heap := s1.heap.push { cls := .type "range", data := .fields #[.int i t, .int j t', .int (-1) t''] }, toks := s1.toks } := I1.kept fun b o e => Heap.get?_push_of_some _ e
        refine ⟨_, [(s1.heap.push { cls := .type "range", data := .fields #[.int i t, .int j t', .int (-1) t''] }).objs.size], _, _, H1, rfl, J.kept (t' := s1.toks) fun b o e => Heap.get?_push_of_some _ e, turn_down _ i (i - j).toNat, ?_, fun b hb => ?_, q⟩
        · have e1 : i + ((0 : Nat) : Int) * -1 = i := by omega
          have e2 : (((i - j).toNat : Nat) : Int) - ((0 : Nat) : Int) = Builtin.Range.rangeSize i j (-1) := by rw [size_down]; split <;> omega
          show IsRangeIter _ _ (i + ((0 : Nat) : Int) * -1) ((((i - j).toNat : Nat) : Int) - ((0 : Nat) : Int)) (-1)
          rw [e1, e2]
          exact Heap.get?_push_size _ rfl
        · rw [List.mem_singleton.mp hb]
          exact J.fpOk (Nat.le_refl _) (J.hok.fresh (Nat.le_refl _))
end
end L2
namespace PySem
open Sem (wp)
open AutoSeq1 (wpAny_loadPart')
section
variable {prog : Program} {w : World} {A : Around} {E : Value → Shared → Prop} {s : Shared}
theorem tup_next {b t : Addr} {i : Nat} {ys : Array Value} {y : Value} {Q : Value → Shared → Prop} (hb : s.heap.IsTupleIter b t i) (ht : s.heap.IsTuple t ys) (hy : ys[i]? = some y)
    (k : ∀ h2, h2.IsTupleIter b t (i + 1) → Heap.SameBut b s.heap h2 → Q y { s with heap := h2 }) : wpAny (model prog w) A (Builtin.SmallTypes.nextOf (.ref b)) Q E s := by
  obtain ⟨ob, gb, cb, db⟩ := id hb
  obtain ⟨ot, gt, _, nt, dt⟩ := ht
  unfold Builtin.SmallTypes.nextOf
  refine wpAny_bind (wpAny_callSpecial?_slot (name := Str.ofString "__next__") hb.typeIs F.slot_tuple_iterator_next (wpAny_call_entry F.slot_tuple_iterator_next hb.typeIs F.entry_tuple_iterator_next ?_ (F.args_tuple_iterator_next_1 _)))
  show wpAny _ _ (field (.ref b) 0 >>= _) _ _ s
  refine wpAny_bind (wpAny_field gb db (x := .ref t) rfl ?_)
  show wpAny _ _ (if (Value.ref t == Value.none) = true then _ else _) _ _ s
  have no : ¬ ((Value.ref t == Value.none) = true) := Bool.false_ne_true
  rw [if_neg no]
  show wpAny _ _ (field (.ref b) 1 >>= _) _ _ s
  refine wpAny_bind (wpAny_field gb db (x := .int i 0) rfl ?_)
  show wpAny _ _ (seqItems? (.ref t) >>= _) _ _ s
  refine wpAny_bind (wpAny_seqItems gt dt ?_)
  simp only [Int.toNat_natCast, hy]
  refine wpAny_bind (wpAny_setField gb db (by simp) (wpAny_pure ⟨y, rfl, wpAny_pure (k _ ?_ (Heap.SameBut.update ..))⟩))
  refine ⟨_, Heap.get?_update_self _ gb (Obj.isFreed_of_fields (Obj.data_mapFields db _)), (Obj.cls_mapFields ..).trans cb, ?_⟩
  rw [Obj.data_mapFields db]
  simp [rawInt]
theorem tup_over {b t : Addr} {i : Nat} {ys : Array Value} {Q : Value → Shared → Prop} (calm : A.handled = none) (hb : s.heap.IsTupleIter b t i) (ht : s.heap.IsTuple t ys) (hy : ys[i]? = none)
    (k : ∀ h2 x, Heap.ExtBut b s.heap h2 → (∃ o, h2.get? x = some o ∧ o.cls = .type "StopIteration") → E (.ref x) { s with heap := h2 }) : wpAny (model prog w) A (Builtin.SmallTypes.nextOf (.ref b)) Q E s := by
  obtain ⟨ob, gb, cb, db⟩ := id hb
  obtain ⟨ot, gt, _, nt, dt⟩ := ht
  unfold Builtin.SmallTypes.nextOf
  refine wpAny_bind (wpAny_callSpecial?_slot (name := Str.ofString "__next__") hb.typeIs F.slot_tuple_iterator_next (wpAny_call_entry F.slot_tuple_iterator_next hb.typeIs F.entry_tuple_iterator_next ?_ (F.args_tuple_iterator_next_1 _)))
  show wpAny _ _ (field (.ref b) 0 >>= _) _ _ s
  refine wpAny_bind (wpAny_field gb db (x := .ref t) rfl ?_)
  show wpAny _ _ (if (Value.ref t == Value.none) = true then _ else _) _ _ s
  have no : ¬ ((Value.ref t == Value.none) = true) := Bool.false_ne_true
  rw [if_neg no]
  show wpAny _ _ (field (.ref b) 1 >>= _) _ _ s
  refine wpAny_bind (wpAny_field gb db (x := .int i 0) rfl ?_)
  show wpAny _ _ (seqItems? (.ref t) >>= _) _ _ s
  refine wpAny_bind (wpAny_seqItems gt dt ?_)
  simp only [Int.toNat_natCast, hy]
  refine wpAny_bind (wpAny_rule (wpAny_bind (wpAny_setField gb db (by simp) ?_)))
  have calm' : A.in1.handled = none := calm
  unfold Builtin.SmallTypes.stopIteration
  wp_walk
  refine wpAny_raiseNew_none calm' ?_
  refine k _ _ (((Heap.SameBut.update ..).extBut.push _).push _) ⟨_, Heap.get?_push_size _ rfl, rfl⟩
end
theorem Draws.tup {prog : Program} {w : World} {A : Around} (calm : A.handled = none) (b t : Addr) (ne : t ≠ b) (ys : Array Value) :
    Draws prog w A b [b, t] ys.size (fun i v => ys[i]? = some v) (fun i h => h.IsTupleIter b t i ∧ h.IsTuple t ys) where
  live := fun _ _ st => by
    obtain ⟨o, g, _⟩ := st.1
    exact ⟨o, g⟩
  frame := fun _ _ _ st kk => ⟨st.1.at fun o e => kk b (by simp) o e, st.2.at fun o e => kk t (by simp) o e⟩
  item := fun i s Q E hi st hQ => tup_next st.1 st.2 (y := ys[i]) (by simp [hi]) fun h2 b2 sb => hQ _ h2 s.toks (by simp [hi]) ⟨b2, st.2.extBut sb.extBut ne⟩ sb
  done := fun s Q E st hE => tup_over calm st.1 st.2 (by simp) hE
set_option maxHeartbeats 4000000 in
theorem meets_enum_tup (t : Addr) (ys : Array Value) (m : Nat) (td : Option Addr) (ts : Array (Option Value)) :
    Meets (Builtin.«enumerate.__new__» ⟨[.type "enumerate", .ref t], []⟩) (fun _ R st => st.heap.get? t = some { cls := .type "tuple", dict := td, data := .seq ys m, slots := ts } ∧
      R (.ok (.ret (.ref (st.heap.push { cls := .type "tuple_iterator", data := .fields #[.ref t, .int 0 0] }).objs.size)))
        { st with heap := (st.heap.push { cls := .type "tuple_iterator", data := .fields #[.ref t, .int 0 0] }).push { cls := .type "enumerate", data := .fields #[.none, .bool false, .ref st.heap.objs.size, rawInt 0, .none, .none] } }) := by
  refine .of_wp fun prog w A R st g => ?_
  obtain ⟨heap0, gens0, drawn0, toks0, os0⟩ := st
  obtain ⟨gt, gR⟩ := g
  have a1 := sub_enumerate
  have gT : Heap.IsTuple (Shared.heap ⟨heap0, gens0, drawn0, toks0, os0⟩) t ys := ⟨_, gt, rfl, m, rfl⟩
  wp_walk using wpAny_loadPart' gt
  refine wpAny_stack_any fun stk => wpAny_pure ?_
  split
  · rename_i c _ _ _ _ _
    cases (c == Value.type "enumerate")
    · wp_walk using wpAny_loadPart' gt, wpAny_pyIter_tuple gT
      exact ⟨_, rfl, gR⟩
    · wp_walk using wpAny_loadPart' gt, wpAny_pyIter_tuple gT
      exact ⟨_, rfl, gR⟩
  · wp_walk using wpAny_loadPart' gt, wpAny_pyIter_tuple gT
    exact ⟨_, rfl, gR⟩
section
variable {prog : Program} {w : World} {A : Around} {E : Value → Shared → Prop} {s : Shared}
abbrev tupIt (t : Addr) : Obj := { cls := .type "tuple_iterator", data := .fields #[.ref t, .int 0 0] }
abbrev enumIt (i : Addr) : Obj := { cls := .type "enumerate", data := .fields #[.none, .bool false, .ref i, rawInt 0, .none, .none] }
theorem call_enum_tup {t : Addr} {ys : Array Value} {Q : Value → Shared → Prop} (hT : s.heap.IsTuple t ys)
    (k : ∀ h2, IsEnum h2 (s.heap.objs.size + 1) s.heap.objs.size 0 .none → h2.IsTupleIter s.heap.objs.size t 0 → (∀ b o, s.heap.get? b = some o → h2.get? b = some o) → Q (.ref (s.heap.objs.size + 1)) { s with heap := h2 }) :
    wpAny (model prog w) A (call (.type "enumerate") [.ref t]) Q E s := by
  obtain ⟨⟨c, td, dt, ts⟩, gt, ct, m, dd⟩ := hT
  have ct' : c = .type "tuple" := ct
  have dd' : dt = .seq ys m := dd
  subst ct' dd'
  refine callType_new F.called_enumerate (by decide) (F.typeCall_enumerate_1 _) (F.newCall_enumerate_1 _) (fun obj => F.args_object_init_2 obj _) F.entry_enumerate_new (meets_enum_tup t ys m td ts) ⟨gt, ?_⟩
  have sz : (s.heap.push (tupIt t)).objs.size = s.heap.objs.size + 1 := Heap.size_push ..
  show _ ∧ _
  rw [sz]
  have en : IsEnum ((s.heap.push (tupIt t)).push (enumIt s.heap.objs.size)) (s.heap.objs.size + 1) s.heap.objs.size 0 .none := by
    have a := Heap.get?_push_size (s.heap.push (tupIt t)) (o := enumIt s.heap.objs.size) rfl
    rw [sz] at a
    exact a
  exact ⟨⟨_, en, rfl⟩, k _ en ⟨_, Heap.get?_push_of_some _ (Heap.get?_push_size _ rfl), rfl, rfl⟩ fun b o e => Heap.get?_push_of_some _ (Heap.get?_push_of_some _ e)⟩
end
end PySem
namespace L2
open PySem PySem.Spec PyProof.Rows
def Ite (K : PySem.W.Frag) (a : Addr) : It := ⟨fun i H => ∃ xs x, SqT K H a xs ∧ xs[i]? = some x,
  fun i H v H' => ∃ T, v = .ref T ∧ H T = none ∧ ∀ xs x, SqT K H a xs → xs[i]? = some x → H' = upd H T (.tup [.int i, x]), fun i H => ∃ xs, SqT K H a xs ∧ xs.length = i⟩
theorem turn_enum {P : Program} {w : World} {K : PySem.W.Frag} {elts : List Expr} {k0 : Nat} {p0 : Pos} {e it a : Addr} (n1 : e ≠ it) (n2 : a ≠ e) (n3 : a ≠ it) :
    Turn P w K (.Tuple elts k0 p0) (Ite K a) [e, it] e (fun i h => (∃ old, IsEnum h e it i old) ∧ h.IsTupleIter it a i) where
  mem := by simp
  obj := fun i h st b hb => by
    obtain ⟨⟨old, h1⟩, ⟨o2, h2, c2, d2⟩⟩ := st
    simp only [List.mem_cons, List.not_mem_nil, or_false] at hb
    rcases hb with rfl | rfl
    · exact ⟨_, h1, fun v q => by cases q⟩
    · exact ⟨_, h2, fun v q => by rw [d2] at q; cases q⟩
  keep := fun i h h' st k => by
    obtain ⟨⟨old, h1⟩, h2⟩ := st
    exact ⟨⟨old, k e (by simp) _ h1⟩, h2.at fun o q => k it (by simp) o q⟩
  item := by
    intro X hP hw hK hc i pins s σ H E I hf st hg
    subst hP hw hK
    obtain ⟨xs, x, hx, ex⟩ := hg
    obtain ⟨us, r1, p1, z1⟩ := I.tuple hx
    obtain ⟨u, eu, ru⟩ := r1.get ex
    obtain ⟨⟨old, h1⟩, h2⟩ := st
    have W := WalksT.enumerateD (A := X.A) (Draws.tup (prog := X.prog) (w := X.w) (A := X.A.in1) (I.ok.hd hc) it a n3 us.toArray) e n1 (by simp; exact ⟨n1, n2.symm⟩) (by simp)
    have hiu : i < us.length := (List.getElem?_eq_some_iff.mp eu).1
    refine W.item i s _ _ (by rw [List.size_toArray]; exact hiu) ⟨⟨old, h1⟩, h2, show s.heap.IsTuple a us.toArray from p1⟩ fun T vals h' tk hP hsz hT hM hk => ⟨.ref T, rfl, ?_⟩
    obtain ⟨t0, x', e1, rfl⟩ := hP
    have e1' : u = x' := by
      have q : us[i]? = some x' := by simpa using e1
      rw [eu] at q; exact Option.some.inj q
    subst e1'
    refine W.go elts k0 p0 i T { s with heap := h', toks := tk } _ _ hM fun h'' st'' hk' => ?_
    obtain ⟨g1, g2, g3⟩ := st''
    have nT := W.apart i T _ hM
    have hT2 : h''.IsTuple T #[.int i t0, u] := hT.at fun o q => hk' T o nT q
    refine ⟨.ref T, upd H T (.tup [.int i, x]), ?_, rfl, ⟨T, rfl, I.hok.fresh hsz, fun xs' x'' q1 q3 => ?_⟩, ⟨g1, g2⟩, fun b hb => ?_⟩
    · refine I.turnedLay (t' := tk) (fp := [e, it]) hf (fun b o hb q => hk' b o hb (hk b o hb q)) hsz ?_
      exact ⟨by show 2 ≤ sizeLine; decide, [.int i t0, u], .cons ⟨t0, rfl⟩ (.cons ru .nil), hT2⟩
    · rw [I.tuple_inj q1 hx, ex] at q3
      cases q3; rfl
    · have q := (hf b hb).1
      have nb : b ≠ T := by
        intro z
        obtain ⟨o, eo⟩ : ∃ o, s.heap.get? b = some o := by
          simp only [List.mem_cons, List.not_mem_nil, or_false] at hb
          obtain ⟨o2, h2, _⟩ := h2
          rcases hb with rfl | rfl
          · exact ⟨_, h1⟩
          · exact ⟨_, h2⟩
        exact Nat.lt_irrefl _ (Nat.lt_of_lt_of_le (Heap.lt_size eo) (by rw [z]; exact hsz))
      rw [upd_ne nb]; exact q
  done := by
    intro X hP hw hK hc i pins s σ H E I hf st hg
    subst hP hw hK
    obtain ⟨xs, hx, hi⟩ := hg
    obtain ⟨us, r1, p1, z1⟩ := I.tuple hx
    obtain ⟨⟨old, h1⟩, h2⟩ := st
    have W := WalksT.enumerateD (A := X.A) (Draws.tup (prog := X.prog) (w := X.w) (A := X.A.in1) (I.ok.hd hc) it a n3 us.toArray) e n1 (by simp; exact ⟨n1, n2.symm⟩) (by simp)
    have l1' := r1.length
    have q : i = us.toArray.size := by rw [List.size_toArray]; omega
    subst q
    exact W.done s _ _ ⟨⟨old, h1⟩, h2, show s.heap.IsTuple a us.toArray from p1⟩ fun h' tk hk => ⟨rfl, I.turnedN (fp := [e, it]) hf fun b o hb q => hk b o hb q⟩
  self := fun A i s Q E st h => by
    obtain ⟨⟨old, h1⟩, _⟩ := st
    exact wpAny_pyIter_enum h1 h
section
variable {X : Cx}
def iEnum (K : PySem.W.Frag) (ta : TA) : TI := fun σ H R => ta σ H fun vs H1 => ∃ a xs, vs = [.ref a] ∧ SqT K H1 a xs ∧ R (Ite K a) H1
theorem pi_enum {elts : List Expr} {k0 : Nat} {p0 : Pos} {c : Expr} {ta : TA} {p pos : Pos} (hg : Gl X "enumerate") (hm : X.mg "enumerate" = none) (ha : PA X [c] ta) (hs : starEach [c] X.env = [(false, eval c X.env)] := by rfl) :
    PI X (.Tuple elts k0 p0) (.Call (.Name "enumerate" p) [c] [] pos) (iEnum X.K ta) := by
  intro pins s σ H R I h
  refine Call_ (ld_blt I hg hm PyProof.Rows.boot_enumerate (PyProof.Rows.callWith_type1 (thn (ha pos pins s σ H _ I h) fun us s1 ⟨vs, H1, I1, r1, q1⟩ => ?_) hs rfl))
  obtain ⟨a, xs, e, hx, q⟩ := q1
  subst e
  cases r1 with
  | cons r rr =>
    cases rr
    cases r
    obtain ⟨as, ra, pa, za⟩ := I1.tuple hx
    have pa' : s1.heap.IsTuple a as.toArray := pa
    refine call_enum_tup pa' fun h2 z1 z2 zk => ?_
    have la : a < s1.heap.objs.size := by obtain ⟨_, e, _⟩ := pa'; exact Heap.lt_size e
    refine wpAny_pyIter_enum z1 ?_
    refine ⟨_, [s1.heap.objs.size + 1, s1.heap.objs.size], _, _, H1, rfl, I1.kept (t' := s1.toks) zk,
      turn_enum (Nat.ne_of_gt (Nat.lt_succ_self _)) (Nat.ne_of_lt (Nat.lt_succ_of_lt la)) (Nat.ne_of_lt la), ⟨⟨_, z1⟩, z2⟩, fun b hb => ?_, q⟩
    have hb' : s1.heap.objs.size ≤ b := by
      simp only [List.mem_cons, List.not_mem_nil, or_false] at hb
      rcases hb with e | e <;> (rw [e]; first | exact Nat.le_add_right _ _ | exact Nat.le_refl _)
    exact I1.fpOk hb' (I1.hok.fresh hb')
end
end L2
namespace L2
open PySem PySem.Spec PyProof.Rows
section
variable {X : Cx} {scope : Scope} {xs ys : List Str} {ix : List Nat} {elt iter tg : Expr} {ifs : List Expr} {pos : Pos} {wi : TI} {g : CompAt → TG} {tt : CompAt → TT} {te : CompAt → TE}
/-- y = [elt for TARGET in iter if ..], y a plain local name: the store is done within -/
def tCompGS (n : Nat) (ix : List Nat) (i : Nat) (wi : TI) (g : CompAt → TG) (tt : CompAt → TT) (te : CompAt → TE) : TS := fun D σ H => tCompG n ix wi g tt te σ H fun v H1 => D.nx (σ.set i (some v)) H1
theorem ps_compG {y : Str} {i : Nat} {py spos : Pos} (O : CompOkN X scope xs ys ix) (hc : X.calm = true) (hN : X.N.Nodup) (hy : X.N[i]? = some y) (hl : X.env.scope.names.lookup y = some .local) (hit : PI X tg iter wi)
    (hg : ∀ z, PG (compCx X scope (xs ++ ys) z) tg (g z)) (hi : ∀ z, PIfs (compCx X scope (xs ++ ys) z) ifs (tt z)) (he : ∀ z, PE (compCx X scope (xs ++ ys) z) elt (te z))
    (hsw : swapsWith (.ListComp elt [⟨tg, iter, ifs, 0⟩] scope pos) (some (.Name y py)) spos.line X.env = pure true := by rfl) (hs : ∀ v, foldedSetIterable iter X.env v = pure v := by intro _; rfl) :
    PS X (.Assign [.Name y py] (.ListComp elt [⟨tg, iter, ifs, 0⟩] scope pos) spos) (tCompGS xs.length ix i wi g tt te) := by
  intro pins s σ H D I h
  rw [exec_Assign_Name_used _ _ _ _ hsw]
  refine wpAny_bind (wpAny_standAt (wpAny_bind ?_))
  show wpAny _ _ (do let _ ← comprehension (.ListComp elt [⟨tg, iter, ifs, 0⟩] scope pos) scope X.env _ (newList []) false (eval iter X.env) (some (assign (.Name y py) X.env))) _ _ s
  refine wpAny_bind (wpAny_mono (wpAny_comprehension_free (use := some (assign (.Name y py) X.env)) (Q := fun _ s' => SP X pins D .next s') rfl hs (closureFor_all fun p hp hf => I.ok.has p.1 (O.fr p hp hf)) O.kind O.names (thn (hit pins s σ H _ I h) fun v s1 h1 => thn h1 fun itv s2 h2 => ?_))
    (fun _ s' hq => wpAny_pure (wpAny_pure hq)) fun _ _ e => e)
  obtain ⟨it, fp, tn, J, H2, e, I2, T, st2, f2, hw⟩ := h2
  subst e
  refine comp_blockN (RR := fun acc C => compPost (model X.prog X.w) X.A X.xe (some (assign (.Name y py) X.env)) (fun _ s' => SP X pins D .next s') acc C) O hc hg hi he I2 T st2 f2 hw ?_
  intro E C m' H' s' I' n' fC q
  show wpAny _ _ (assign (.Name y py) X.env (.ref E)) _ _ s'
  refine wpAny_assign_Name (store_ok2 (v := .ref E) I' hN hy (.inl hl) rfl (fun s'' I'' ⟨a, sb, ha⟩ => ?_) (.inr hl))
  have hCa : C ≠ a := by
    rcases ha with rfl | ha
    · exact fC.2.1
    · exact fun z => fC.2.2.2.2.1 _ _ ha z.symm
  exact ⟨m', n'.sameBut sb hCa, fun h' hs' => ⟨_, H', comp_turned I'' fC hs', q⟩⟩
end
theorem pick_of {α : Type} {xs : List α} {f : Nat → Nat} : ∀ {c : Nat}, (∀ k, k < c → f k < xs.length) → (((List.range c).map f).filterMap (xs[·]?)).length = c ∧ ∀ k, k < c → (((List.range c).map f).filterMap (xs[·]?))[k]? = xs[f k]?
  | 0, _ => ⟨rfl, fun k h => absurd h (Nat.not_lt_zero _)⟩
  | c + 1, h => by
    obtain ⟨h1, h2⟩ := pick_of (c := c) (f := f) (xs := xs) fun k hk => h k (Nat.lt_succ_of_lt hk)
    have hc := h c (Nat.lt_succ_self c)
    have e : ((List.range (c + 1)).map f).filterMap (xs[·]?) = ((List.range c).map f).filterMap (xs[·]?) ++ [xs[f c]] := by
      rw [List.range_succ, List.map_append, List.filterMap_append]
      congr 1
      simp [hc]
    rw [e]
    refine ⟨by rw [List.length_append, h1]; rfl, fun k hk => ?_⟩
    by_cases q : k < c
    · rw [List.getElem?_append_left (by rw [h1]; exact q)]
      exact h2 k q
    · have q' : k = c := by omega
      subst q'
      rw [List.getElem?_append_right (by rw [h1]; exact Nat.le_refl _), h1, Nat.sub_self, List.getElem?_eq_getElem hc]
      rfl
theorem pick_back (xs : List V) : (pickV xs none none (some (-1))).length = xs.length ∧ ∀ k, k < xs.length → (pickV xs none none (some (-1)))[k]? = xs[xs.length - 1 - k]? := by
  have e : pickV xs none none (some (-1)) = ((List.range xs.length).map fun k => xs.length - 1 - k).filterMap (xs[·]?) := by
    unfold pickV sliceRange
    have c : (if (-1 : Int) > 0 then (if (xs.length : Int) - 1 < -1 then (-1 - ((xs.length : Int) - 1) + -1 - 1) / -1 else 0) else (if (xs.length : Int) - 1 > -1 then ((xs.length : Int) - 1 - -1 - -1 - 1) / (- -1) else 0)).toNat = xs.length := by
      rw [if_neg (by decide)]
      split
      · rw [show (- -1 : Int) = 1 from rfl, Int.ediv_one]; omega
      · omega
    show ((List.range (if (-1 : Int) > 0 then (if (xs.length : Int) - 1 < -1 then (-1 - ((xs.length : Int) - 1) + -1 - 1) / -1 else 0) else (if (xs.length : Int) - 1 > -1 then ((xs.length : Int) - 1 - -1 - -1 - 1) / (- -1) else 0)).toNat).map fun (k : Nat) => ((xs.length : Int) - 1 + -1 * (k : Int)).toNat).filterMap (xs[·]?) = _
    rw [c]
    congr 2
    funext k
    omega
  rw [e]
  exact pick_of fun k hk => by omega
end L2
namespace B
open PySem L2
inductive I where
  | non | bl (b : Bool) | int (i : Int) | str (x : Str) | ty (n : String) | tup (xs : List I) | ref (k : Nat) | fro (xs : List I) | con (xs : List I)
inductive M where
  | lst (xs : List I) | dic (kvs : List (Key × I)) | dit (kvs : List (List Key × I)) | obj (c : Str) (fs : List (Str × I))
inductive Vl where
  | im (d : I) | ow (m : M)
def FrL (K : PySem.W.Frag) (H : Hp) (a : Addr) (vs : List V) : Prop := (∃ o, H a = some (.frz o (.lst vs))) ∨ SqL K (fun _ => none) a vs
mutual
inductive RpI (K : PySem.W.Frag) (ι : List Addr) (H : Hp) : V → I → Prop
  | non : RpI K ι H .non .non
  | bl (b : Bool) : RpI K ι H (.bl b) (.bl b)
  | int (i : Int) : RpI K ι H (.int i) (.int i)
  | str (x : Str) : RpI K ι H (.str x) (.str x)
  | ty (n : String) : RpI K ι H (.ty n) (.ty n)
  | ref {a : Addr} {k : Nat} : ι[k]? = some a → RpI K ι H (.ref a) (.ref k)
  | tup {a : Addr} {vs : List V} {xs : List I} : H a = some (.tup vs) → RpIs K ι H vs xs → RpI K ι H (.ref a) (.tup xs)
  | con {a : Addr} {vs : List V} {xs : List I} : SqT K (fun _ => none) a vs → RpIs K ι H vs xs → RpI K ι H (.ref a) (.con xs)
  | fro {a : Addr} {vs : List V} {xs : List I} : FrL K H a vs → RpIs K ι H vs xs → RpI K ι H (.ref a) (.fro xs)
inductive RpIs (K : PySem.W.Frag) (ι : List Addr) (H : Hp) : List V → List I → Prop
  | nil : RpIs K ι H [] []
  | cons {v : V} {d : I} {vs : List V} {ds : List I} : RpI K ι H v d → RpIs K ι H vs ds → RpIs K ι H (v :: vs) (d :: ds)
end
def Pre (ι ι' : List Addr) : Prop := ∀ (k : Nat) (a : Addr), ι[k]? = some a → ι'[k]? = some a
structure Kp (H H' : Hp) : Prop where
  tup : ∀ a xs, H a = some (.tup xs) → H' a = some (.tup xs)
  frz : ∀ a o u, H a = some (.frz o u) → H' a = some (.frz o u)
theorem Kp.refl (H : Hp) : Kp H H := ⟨fun _ _ h => h, fun _ _ _ h => h⟩
theorem Kp.trans {H H1 H2 : Hp} (x : Kp H H1) (y : Kp H1 H2) : Kp H H2 := ⟨fun a xs h => y.tup a xs (x.tup a xs h), fun a o u h => y.frz a o u (x.frz a o u h)⟩
theorem Kp.same {H H' : Hp} (h : Same H H') : Kp H H' := ⟨fun a xs e => h _ _ e, fun a o u e => h _ _ e⟩
theorem Pre.refl (ι : List Addr) : Pre ι ι := fun _ _ h => h
theorem Pre.trans {ι ι1 ι2 : List Addr} (x : Pre ι ι1) (y : Pre ι1 ι2) : Pre ι ι2 := fun k a h => y k a (x k a h)
theorem Pre.snoc (ι : List Addr) (b : List Addr) : Pre ι (ι ++ b) := fun k a h => by
  have : k < ι.length := (List.getElem?_eq_some_iff.mp h).1
  rw [List.getElem?_append_left this]; exact h
theorem Kp.frL {K : PySem.W.Frag} {H H' : Hp} {a : Addr} {vs : List V} (k : Kp H H') (h : FrL K H a vs) : FrL K H' a vs := by
  rcases h with ⟨o, h⟩ | h
  · exact .inl ⟨o, k.frz _ _ _ h⟩
  · exact .inr h
theorem SqT.kon {K : PySem.W.Frag} {H : Hp} {a : Addr} {vs : List V} (h : SqT K (fun _ => none) a vs) : SqT K H a vs := by
  rcases h with (h | ⟨o, h⟩) | h
  · cases h
  · cases h
  · exact .inr h
theorem FrL.sq {K : PySem.W.Frag} {H : Hp} {a : Addr} {vs : List V} (h : FrL K H a vs) : SqL K H a vs := by
  rcases h with ⟨o, h⟩ | h
  · exact .inl (.inr ⟨o, h⟩)
  · rcases h with (h | ⟨o, h⟩) | h
    · cases h
    · cases h
    · exact .inr h
section
variable {K : PySem.W.Frag} {κ : Str → Addr} {ι ι' : List Addr} {H H' : Hp}
mutual
theorem RpI.mono {v : V} {d : I} (p : Pre ι ι') (k : Kp H H') : RpI K ι H v d → RpI K ι' H' v d
  | .non => .non
  | .bl b => .bl b
  | .int i => .int i
  | .str x => .str x
  | .ty n => .ty n
  | .ref h => .ref (p _ _ h)
  | .tup h r => .tup (k.tup _ _ h) (RpIs.mono p k r)
  | .con h r => .con h (RpIs.mono p k r)
  | .fro h r => .fro (k.frL h) (RpIs.mono p k r)
theorem RpIs.mono {vs : List V} {ds : List I} (p : Pre ι ι') (k : Kp H H') : RpIs K ι H vs ds → RpIs K ι' H' vs ds
  | .nil => .nil
  | .cons h r => .cons (RpI.mono p k h) (RpIs.mono p k r)
end
theorem RpIs.len : ∀ {vs : List V} {ds : List I}, RpIs K ι H vs ds → vs.length = ds.length
  | _, _, .nil => rfl
  | _, _, .cons _ r => by rw [List.length_cons, List.length_cons, r.len]
theorem RpIs.get : ∀ {vs : List V} {ds : List I} {i : Nat} {d : I}, RpIs K ι H vs ds → ds[i]? = some d → ∃ v, vs[i]? = some v ∧ RpI K ι H v d
  | _, _, _, _, .nil, e => by simp at e
  | _, _, 0, _, .cons h _, e => by simp at e; subst e; exact ⟨_, rfl, h⟩
  | _, _, i + 1, d, .cons _ r, e => by
    obtain ⟨v, h1, h2⟩ := RpIs.get (i := i) (d := d) r (by simpa using e)
    exact ⟨v, by simpa using h1, h2⟩
theorem RpIs.app : ∀ {vs ws : List V} {ds es : List I}, RpIs K ι H vs ds → RpIs K ι H ws es → RpIs K ι H (vs ++ ws) (ds ++ es)
  | _, _, _, _, .nil, s => s
  | _, _, _, _, .cons h r, s => .cons h (RpIs.app r s)
theorem RpIs.take : ∀ {vs : List V} {ds : List I} (n : Nat), RpIs K ι H vs ds → RpIs K ι H (vs.take n) (ds.take n)
  | _, _, 0, _ => .nil
  | _, _, _ + 1, .nil => .nil
  | _, _, n + 1, .cons h r => .cons h (RpIs.take n r)
theorem RpIs.drop : ∀ {vs : List V} {ds : List I} (n : Nat), RpIs K ι H vs ds → RpIs K ι H (vs.drop n) (ds.drop n)
  | _, _, 0, r => r
  | _, _, _ + 1, .nil => .nil
  | _, _, n + 1, .cons _ r => RpIs.drop n r
theorem RpIs.set : ∀ {vs : List V} {ds : List I} {v : V} {d : I} (i : Nat), RpIs K ι H vs ds → RpI K ι H v d → RpIs K ι H (vs.set i v) (ds.set i d)
  | _, _, _, _, _, .nil, _ => .nil
  | _, _, _, _, 0, .cons _ r, h => .cons h r
  | _, _, _, _, i + 1, .cons g r, h => .cons g (RpIs.set i r h)
theorem RpIs.rev : ∀ {vs : List V} {ds : List I}, RpIs K ι H vs ds → RpIs K ι H vs.reverse ds.reverse
  | _, _, .nil => .nil
  | _, _, .cons h r => by rw [List.reverse_cons, List.reverse_cons]; exact r.rev.app (.cons h .nil)
theorem RpIs.none_of {vs : List V} {ds : List I} {i : Nat} (r : RpIs K ι H vs ds) (e : ds[i]? = none) : vs[i]? = none := by
  have h1 := r.len
  have h2 : ds.length ≤ i := List.getElem?_eq_none_iff.mp e
  exact List.getElem?_eq_none_iff.mpr (by omega)
def RpM (K : PySem.W.Frag) (κ : Str → Addr) (ι : List Addr) (H : Hp) (a : Addr) : M → Prop
  | .lst xs => ∃ vs, H a = some (.lst vs) ∧ RpIs K ι H vs xs
  | .dic kvs => ∃ ws, H a = some (.dK ws) ∧ ws.map (·.1) = kvs.map (·.1) ∧ RpIs K ι H (ws.map (·.2)) (kvs.map (·.2))
  | .dit kvs => ∃ ws, H a = some (.dT ws) ∧ ws.map (·.1) = kvs.map (·.1) ∧ RpIs K ι H (ws.map (·.2)) (kvs.map (·.2))
  | .obj c fs => ∃ dx ws, H a = some (.ins (κ c) dx ws) ∧ ws.map (·.1) = fs.map (·.1) ∧ RpIs K ι H (ws.map (·.2)) (fs.map (·.2))
theorem RpM.mono {a : Addr} {m : M} (p : Pre ι ι') (k : Kp H H') (e : H' a = H a) (h : RpM K κ ι H a m) : RpM K κ ι' H' a m := by
  cases m with
  | lst xs => obtain ⟨vs, h1, h2⟩ := h; exact ⟨vs, by rw [e]; exact h1, h2.mono p k⟩
  | dic xs => obtain ⟨vs, h1, h2, h3⟩ := h; exact ⟨vs, by rw [e]; exact h1, h2, h3.mono p k⟩
  | dit xs => obtain ⟨vs, h1, h2, h3⟩ := h; exact ⟨vs, by rw [e]; exact h1, h2, h3.mono p k⟩
  | obj c xs => obtain ⟨dx, vs, h1, h2, h3⟩ := h; exact ⟨dx, vs, by rw [e]; exact h1, h2, h3.mono p k⟩
def isMu : HO → Bool
  | .lst _ | .dK _ | .dT _ | .ins _ _ _ => true
  | _ => false
theorem RpM.mu {a : Addr} {m : M} (h : RpM K κ ι H a m) : ∃ o, H a = some o ∧ isMu o = true := by
  cases m with
  | lst xs => obtain ⟨vs, h1, h2⟩ := h; exact ⟨_, h1, rfl⟩
  | dic xs => obtain ⟨vs, h1, h2, h3⟩ := h; exact ⟨_, h1, rfl⟩
  | dit xs => obtain ⟨vs, h1, h2, h3⟩ := h; exact ⟨_, h1, rfl⟩
  | obj c xs => obtain ⟨dx, vs, h1, h2, h3⟩ := h; exact ⟨_, h1, rfl⟩
inductive RpE (K : PySem.W.Frag) (κ : Str → Addr) (ι : List Addr) (H : Hp) : Option V → Option Vl → Prop
  | no (x : Option V) : RpE K κ ι H x none
  | im {v : V} {d : I} : RpI K ι H v d → RpE K κ ι H (some v) (some (.im d))
  | ow {a : Addr} {m : M} : RpM K κ ι H a m → RpE K κ ι H (some (.ref a)) (some (.ow m))
def own1 : Option V → Option Vl → List Addr
  | some (.ref a), some (.ow _) => [a]
  | _, _ => []
def own : List (Option V) → List (Option Vl) → List Addr
  | v :: σ, x :: δ => own1 v x ++ own σ δ
  | _, _ => []
theorem own_app : ∀ {σ : List (Option V)} {δ : List (Option Vl)} (τ : List (Option V)) (θ : List (Option Vl)), σ.length = δ.length → own (σ ++ τ) (δ ++ θ) = own σ δ ++ own τ θ
  | [], [], _, _, _ => rfl
  | [], _ :: _, _, _, h => by cases h
  | _ :: _, [], _, _, h => by cases h
  | v :: σ, x :: δ, τ, θ, h => by
    show own1 v x ++ own (σ ++ τ) (δ ++ θ) = own1 v x ++ own σ δ ++ own τ θ
    rw [own_app τ θ (by simpa using h), List.append_assoc]
abbrev cnt (a : Addr) (l : List Addr) : Nat := List.count a l
structure SR (K : PySem.W.Frag) (κ : Str → Addr) (ι : List Addr) (H : Hp) (σ : St) (δ : List (Option Vl)) (G : List M) : Prop where
  sl : Paired (RpE K κ ι H) σ δ
  gs : Paired (RpM K κ ι H) ι G
  nd : ∀ a, cnt a (own σ δ) + cnt a ι ≤ 1
structure Step (ι fp : List Addr) (H : Hp) (ι' fp' : List Addr) (H' : Hp) : Prop where
  pre : Pre ι ι'
  src : ∀ a, a ∈ fp' → a ∈ fp ∨ H a = none
  keep : ∀ a o, H a = some o → a ∉ fp → H' a = some o
  dom : ∀ a, H' a = none → H a = none
  kp : Kp H H'
theorem Step.refl (ι fp : List Addr) (H : Hp) : Step ι fp H ι fp H := ⟨Pre.refl _, fun _ h => .inl h, fun _ _ h _ => h, fun _ h => h, Kp.refl _⟩
theorem Step.trans {ι fp ι1 fp1 ι2 fp2 : List Addr} {H H1 H2 : Hp} (x : Step ι fp H ι1 fp1 H1) (y : Step ι1 fp1 H1 ι2 fp2 H2) : Step ι fp H ι2 fp2 H2 where
  pre := x.pre.trans y.pre
  src := fun a h => by
    rcases y.src a h with q | q
    · exact x.src a q
    · exact .inr (x.dom a q)
  keep := fun a o h n => y.keep a o (x.keep a o h n) fun q => by
    rcases x.src a q with z | z
    · exact n z
    · rw [z] at h; cases h
  dom := fun a h => x.dom a (y.dom a h)
  kp := x.kp.trans y.kp
theorem Step.sub {ι fp ι1 fp1 fp2 : List Addr} {H H1 : Hp} (x : Step ι fp H ι1 fp1 H1) (h : ∀ a, a ∈ fp2 → a ∈ fp1) : Step ι fp H ι1 fp2 H1 := ⟨x.pre, fun a q => x.src a (h a q), x.keep, x.dom, x.kp⟩
theorem Step.wide {ι fp ι1 fp1 fq : List Addr} {H H1 : Hp} (x : Step ι fp H ι1 fp1 H1) (h : ∀ a, a ∈ fp → a ∈ fq) : Step ι fq H ι1 fp1 H1 := ⟨x.pre, fun a q => (x.src a q).imp (h a) id, fun a o q n => x.keep a o q fun z => n (h a z), x.dom, x.kp⟩
/-- with what lies beside it -/
theorem Step.beside {ι fp ι1 fp1 t : List Addr} {H H1 : Hp} (x : Step ι fp H ι1 fp1 H1) : Step ι (t ++ fp) H ι1 (t ++ fp1) H1 where
  pre := x.pre
  src := fun a h => by
    rcases List.mem_append.mp h with q | q
    · exact .inl (List.mem_append_left _ q)
    · exact (x.src a q).imp (List.mem_append_right _) id
  keep := fun a o h n => x.keep a o h fun q => n (List.mem_append_right _ q)
  dom := x.dom
  kp := x.kp
theorem cnt_pos {a : Addr} {l : List Addr} : a ∈ l ↔ 0 < cnt a l := List.count_pos_iff.symm
theorem RpE.mono {v : Option V} {x : Option Vl} (p : Pre ι ι') (k : Kp H H') (e : ∀ a, a ∈ own1 v x → H' a = H a) (h : RpE K κ ι H v x) : RpE K κ ι' H' v x := by
  cases h with
  | no => exact .no _
  | im h => exact .im (h.mono p k)
  | ow h => exact .ow (h.mono p k (e _ (by unfold own1; exact List.mem_singleton.mpr rfl)))
theorem slots_mono (p : Pre ι ι') (k : Kp H H') : ∀ {σ : St} {δ : List (Option Vl)}, (∀ a, a ∈ own σ δ → H' a = H a) → Paired (RpE K κ ι H) σ δ → Paired (RpE K κ ι' H') σ δ
  | _, _, _, .nil => .nil
  | _, _, e, .cons h r => .cons (h.mono p k fun a q => e a (List.mem_append_left _ q)) (slots_mono p k (fun a q => e a (List.mem_append_right _ q)) r)
theorem objs_mono (p : Pre ι ι') (k : Kp H H') : ∀ {as : List Addr} {G : List M}, (∀ a, a ∈ as → H' a = H a) → Paired (RpM K κ ι H) as G → Paired (RpM K κ ι' H') as G
  | _, _, _, .nil => .nil
  | _, _, e, .cons h r => .cons (h.mono p k (e _ List.mem_cons_self)) (objs_mono p k (fun a q => e a (List.mem_cons_of_mem _ q)) r)
theorem own1_no (v : Option V) : own1 v none = [] := by
  cases v with
  | none => rfl
  | some v => cases v <;> rfl
theorem own1_im (v : Option V) (d : I) : own1 v (some (.im d)) = [] := by
  cases v with
  | none => rfl
  | some v => cases v <;> rfl
theorem own_mu : ∀ {σ : St} {δ : List (Option Vl)} {a : Addr}, Paired (RpE K κ ι H) σ δ → a ∈ own σ δ → ∃ o, H a = some o ∧ isMu o = true
  | _, _, _, .nil, h => by cases h
  | _, _, a, .cons h r, q => by
    rcases List.mem_append.mp q with z | z
    · cases h with
      | no => rw [own1_no] at z; cases z
      | im h => rw [own1_im] at z; cases z
      | ow h => obtain rfl := List.mem_singleton.mp z; exact h.mu
    · exact own_mu r z
theorem objs_mu : ∀ {as : List Addr} {G : List M} {a : Addr}, Paired (RpM K κ ι H) as G → a ∈ as → ∃ o, H a = some o ∧ isMu o = true
  | _, _, _, .nil, h => by cases h
  | _, _, a, .cons h r, q => by
    rcases List.mem_cons.mp q with rfl | z
    · exact h.mu
    · exact objs_mu r z
theorem SR.len {σ : St} {δ : List (Option Vl)} {G : List M} (h : SR K κ ι H σ δ G) : σ.length = δ.length := Paired.length h.sl
theorem SR.mu {σ : St} {δ : List (Option Vl)} {G : List M} {a : Addr} (h : SR K κ ι H σ δ G) (q : a ∈ own σ δ ++ ι) : ∃ o, H a = some o ∧ isMu o = true := by
  rcases List.mem_append.mp q with z | z
  · exact own_mu h.sl z
  · exact objs_mu h.gs z
theorem paired_app {α β : Type} {F : α → β → Prop} : ∀ {a : List α} {b : List β} {c : List α} {d : List β}, Paired F a b → Paired F c d → Paired F (a ++ c) (b ++ d)
  | _, _, _, _, .nil, h => h
  | _, _, _, _, .cons h r, q => .cons h (paired_app r q)
theorem paired_split {α β : Type} {F : α → β → Prop} : ∀ {a : List α} {b : List β} {c : List α} {d : List β}, a.length = b.length → Paired F (a ++ c) (b ++ d) → Paired F a b ∧ Paired F c d
  | [], [], _, _, _, h => ⟨.nil, h⟩
  | [], _ :: _, _, _, l, _ => by cases l
  | _ :: _, [], _, _, l, _ => by cases l
  | x :: a, y :: b, c, d, l, h => by
    cases h with
    | cons h r =>
      obtain ⟨p, q⟩ := paired_split (by simpa using l) r
      exact ⟨.cons h p, q⟩
/-- temporaries that lie beside the slots while something else is done -/
theorem SR.join {ι1 ι2 : List Addr} {H1 H2 : Hp} {σ0 σ τ τ2 : St} {δ1 δ2 θ θ2 : List (Option Vl)} {G1 G2 : List M} (h1 : SR K κ ι1 H1 (σ0 ++ τ) (δ1 ++ θ) G1) (l1 : σ0.length = δ1.length) (h2 : SR K κ ι2 H2 (σ ++ τ2) (δ2 ++ θ2) G2) (l2 : σ.length = δ2.length)
    (st : Step ι1 (own σ0 δ1 ++ ι1) H1 ι2 (own (σ ++ τ2) (δ2 ++ θ2) ++ ι2) H2) : SR K κ ι2 H2 (σ ++ (τ ++ τ2)) (δ2 ++ (θ ++ θ2)) G2 ∧ Step ι1 (own (σ0 ++ τ) (δ1 ++ θ) ++ ι1) H1 ι2 (own (σ ++ (τ ++ τ2)) (δ2 ++ (θ ++ θ2)) ++ ι2) H2 := by
  obtain ⟨a1, b1⟩ := paired_split l1 h1.sl
  obtain ⟨a2, b2⟩ := paired_split l2 h2.sl
  have lt := Paired.length b1
  have n1 := h1.nd
  have n2 := h2.nd
  rw [own_app _ _ l1] at n1
  rw [own_app _ _ l2] at n2
  have st' := st
  rw [own_app _ _ l2] at st'
  have apart : ∀ a, a ∈ own τ θ → a ∉ own σ0 δ1 ++ ι1 := fun a q z => by
    have := n1 a
    rw [cnt, List.count_append] at this
    have p1 : 0 < cnt a (own τ θ) := cnt_pos.mp q
    rcases List.mem_append.mp z with z | z
    · have := cnt_pos.mp z; unfold cnt at *; omega
    · have := cnt_pos.mp z; unfold cnt at *; omega
  have some1 : ∀ a, a ∈ own τ θ → ∃ o, H1 a = some o := fun a q => let ⟨o, e, _⟩ := own_mu b1 q; ⟨o, e⟩
  have e2 : own (σ ++ (τ ++ τ2)) (δ2 ++ (θ ++ θ2)) = own σ δ2 ++ (own τ θ ++ own τ2 θ2) := by rw [own_app _ _ l2, own_app _ _ lt]
  refine ⟨⟨paired_app a2 (paired_app (slots_mono st.pre st.kp (fun a q => ?_) b1) b2), h2.gs, fun a => ?_⟩, ?_⟩
  · obtain ⟨o, e⟩ := some1 a q
    rw [e, st.keep a o e (apart a q)]
  · rw [e2]
    have m2 := n2 a
    have m1 := n1 a
    simp only [cnt, List.count_append] at m1 m2 ⊢
    by_cases q : a ∈ own τ θ
    · obtain ⟨o, e⟩ := some1 a q
      have z : a ∉ own σ δ2 ++ own τ2 θ2 ++ ι2 := fun z => by
        rcases st'.src a z with y | y
        · exact apart a q y
        · rw [e] at y; cases y
      have : cnt a (own σ δ2 ++ own τ2 θ2 ++ ι2) = 0 := List.count_eq_zero.mpr z
      simp only [cnt, List.count_append] at this
      omega
    · have : cnt a (own τ θ) = 0 := List.count_eq_zero.mpr q
      unfold cnt at this
      omega
  · rw [e2, own_app _ _ l1]
    have s := (Step.beside (t := own τ θ) st')
    refine (s.sub fun a h => ?_).wide fun a h => ?_
    · simp only [List.mem_append] at h ⊢
      rcases h with (h | h | h) | h
      · exact .inr (.inl (.inl h))
      · exact .inl h
      · exact .inr (.inl (.inr h))
      · exact .inr (.inr h)
    · simp only [List.mem_append] at h ⊢
      rcases h with h | h | h
      · exact .inl (.inr h)
      · exact .inl (.inl h)
      · exact .inr h
end
end B
namespace B
open PySem L2
section
variable {K : PySem.W.Frag} {κ : Str → Addr} {ι ι' : List Addr} {H H' : Hp} {σ τ : St} {δ θ : List (Option Vl)} {G : List M}
theorem own1_ow (a : Addr) (m : M) : own1 (some (.ref a)) (some (.ow m)) = [a] := rfl
theorem cnt_own_set : ∀ {σ : St} {δ : List (Option Vl)} {i : Nat} {v w : Option V} {x y : Option Vl} (a : Addr), σ[i]? = some v → δ[i]? = some x →
    cnt a (own (σ.set i w) (δ.set i y)) + cnt a (own1 v x) = cnt a (own σ δ) + cnt a (own1 w y)
  | [], _, _, _, _, _, _, _, h, _ => by simp at h
  | _ :: _, [], _, _, _, _, _, _, _, h => by simp at h
  | v0 :: σ, x0 :: δ, 0, v, w, x, y, a, h1, h2 => by
    simp at h1 h2
    subst h1; subst h2
    show cnt a (own1 w y ++ own σ δ) + cnt a (own1 v0 x0) = cnt a (own1 v0 x0 ++ own σ δ) + cnt a (own1 w y)
    simp only [cnt, List.count_append]
    omega
  | v0 :: σ, x0 :: δ, i + 1, v, w, x, y, a, h1, h2 => by
    have := cnt_own_set (σ := σ) (δ := δ) (i := i) (v := v) (w := w) (x := x) (y := y) a (by simpa using h1) (by simpa using h2)
    show cnt a (own1 v0 x0 ++ own (σ.set i w) (δ.set i y)) + cnt a (own1 v x) = cnt a (own1 v0 x0 ++ own σ δ) + cnt a (own1 w y)
    simp only [cnt, List.count_append] at this ⊢
    omega
theorem set_self {α : Type} {l : List α} {i : Nat} {v : α} (h : l[i]? = some v) : l.set i v = l := by
  refine List.ext_getElem? fun j => ?_
  by_cases e : i = j
  · subst e
    rw [List.getElem?_set_self (List.getElem?_eq_some_iff.mp h).1, h]
  · rw [List.getElem?_set_ne e]
theorem cnt_own_setD {i : Nat} {v : Option V} {x y : Option Vl} (a : Addr) (h1 : σ[i]? = some v) (h2 : δ[i]? = some x) :
    cnt a (own σ (δ.set i y)) + cnt a (own1 v x) = cnt a (own σ δ) + cnt a (own1 v y) := by
  have := cnt_own_set (w := v) (y := y) a h1 h2
  rw [set_self h1] at this
  exact this
theorem paired_get {α β : Type} {F : α → β → Prop} : ∀ {l : List α} {r : List β} {i : Nat} {y : β}, Paired F l r → r[i]? = some y → ∃ x, l[i]? = some x ∧ F x y
  | _, _, _, _, .nil, h => by simp at h
  | _, _, 0, _, .cons h _, e => by simp at e; subst e; exact ⟨_, rfl, h⟩
  | _, _, i + 1, y, .cons _ r, e => by
    obtain ⟨x, h1, h2⟩ := paired_get (i := i) (y := y) r (by simpa using e)
    exact ⟨x, by simpa using h1, h2⟩
theorem paired_set {α β : Type} {F : α → β → Prop} {x : α} {y : β} : ∀ {l : List α} {r : List β} (i : Nat), Paired F l r → F x y → Paired F (l.set i x) (r.set i y)
  | _, _, _, .nil, _ => .nil
  | _, _, 0, .cons _ r, q => .cons q r
  | _, _, i + 1, .cons h r, q => .cons h (paired_set i r q)
theorem paired_setR {α β : Type} {F : α → β → Prop} {x : α} {y : β} {l : List α} {r : List β} {i : Nat} (h : Paired F l r) (e : l[i]? = some x) (q : F x y) : Paired F l (r.set i y) := by
  have := paired_set i h q
  rw [set_self e] at this
  exact this
theorem SR.get_im (h : SR K κ ι H σ δ G) {i : Nat} {d : I} (e : δ[i]? = some (some (.im d))) : ∃ v, σ[i]? = some (some v) ∧ RpI K ι H v d := by
  obtain ⟨x, e1, q⟩ := paired_get h.sl e
  cases q with
  | im q => exact ⟨_, e1, q⟩
theorem SR.get_ow (h : SR K κ ι H σ δ G) {i : Nat} {m : M} (e : δ[i]? = some (some (.ow m))) : ∃ a, σ[i]? = some (some (.ref a)) ∧ RpM K κ ι H a m := by
  obtain ⟨x, e1, q⟩ := paired_get h.sl e
  cases q with
  | ow q => exact ⟨_, e1, q⟩
theorem SR.get_g (h : SR K κ ι H σ δ G) {k : Nat} {m : M} (e : G[k]? = some m) : ∃ a, ι[k]? = some a ∧ RpM K κ ι H a m := paired_get h.gs e
theorem own_mem : ∀ {σ : St} {δ : List (Option Vl)} {i : Nat} {a : Addr} {m : M}, σ[i]? = some (some (.ref a)) → δ[i]? = some (some (.ow m)) → a ∈ own σ δ
  | [], _, _, _, _, h, _ => by simp at h
  | _ :: _, [], _, _, _, _, h => by simp at h
  | v0 :: σ, x0 :: δ, 0, a, m, h1, h2 => by
    simp at h1 h2
    subst h1; subst h2
    exact List.mem_append_left _ (List.mem_singleton.mpr rfl)
  | v0 :: σ, x0 :: δ, i + 1, a, m, h1, h2 => List.mem_append_right _ (own_mem (i := i) (by simpa using h1) (by simpa using h2))
theorem SR.same (h : SR K κ ι H σ δ G) (s : Same H H') : SR K κ ι H' σ δ G where
  sl := slots_mono (Pre.refl _) (Kp.same s) (fun a q => by obtain ⟨o, e, _⟩ := own_mu h.sl q; rw [e, s _ _ e]) h.sl
  gs := objs_mono (Pre.refl _) (Kp.same s) (fun a q => by obtain ⟨o, e, _⟩ := objs_mu h.gs q; rw [e, s _ _ e]) h.gs
  nd := h.nd
theorem Step.same {fp : List Addr} (s : Same H H') : Step ι fp H ι fp H' := ⟨Pre.refl _, fun _ h => .inl h, fun a o e _ => s _ _ e, fun a e => s.free e, Kp.same s⟩
theorem Same.lay {H : Hp} {p : Addr} {o : HO} (hp : H p = none) : Same H (upd H p o) := fun b u e => by rw [upd_ne (ne_of_none e hp)]; exact e
theorem SR.pop (h : SR K κ ι H (σ ++ τ) (δ ++ θ) G) (l : σ.length = δ.length) : SR K κ ι H σ δ G := by
  obtain ⟨a, b⟩ := paired_split l h.sl
  refine ⟨a, h.gs, fun x => ?_⟩
  have := h.nd x
  rw [own_app _ _ l] at this
  simp only [cnt, List.count_append] at this ⊢
  omega
theorem own_sub {a : Addr} (l : σ.length = δ.length) (h : a ∈ own σ δ ++ ι) : a ∈ own (σ ++ τ) (δ ++ θ) ++ ι := by
  rw [own_app _ _ l]
  simp only [List.mem_append] at h ⊢
  rcases h with h | h
  · exact .inl (.inl h)
  · exact .inr h
theorem SR.push_im {v : V} {d : I} (h : SR K κ ι H σ δ G) (r : RpI K ι H v d) : SR K κ ι H (σ ++ [some v]) (δ ++ [some (.im d)]) G := by
  refine ⟨paired_app h.sl (.cons (.im r) .nil), h.gs, fun x => ?_⟩
  have e : own [some v] [some (.im d)] = [] := by show own1 _ _ ++ [] = []; rw [own1_im]; rfl
  rw [own_app _ _ h.len, e, List.append_nil]
  exact h.nd x
theorem own_im {v : V} {d : I} (l : σ.length = δ.length) : own (σ ++ [some v]) (δ ++ [some (.im d)]) = own σ δ := by
  rw [own_app _ _ l]
  show own σ δ ++ (own1 _ _ ++ []) = _
  rw [own1_im]; simp
theorem own_ow {a : Addr} {m : M} (l : σ.length = δ.length) : own (σ ++ [some (.ref a)]) (δ ++ [some (.ow m)]) = own σ δ ++ [a] := by
  rw [own_app _ _ l]; rfl
theorem SR.push_ow {p : Addr} {o : HO} {m : M} (h : SR K κ ι H σ δ G) (hp : H p = none) (r : RpM K κ ι (upd H p o) p m) : SR K κ ι (upd H p o) (σ ++ [some (.ref p)]) (δ ++ [some (.ow m)]) G := by
  have h' := h.same (Same.lay (o := o) hp)
  refine ⟨paired_app h'.sl (.cons (.ow r) .nil), h'.gs, fun x => ?_⟩
  rw [own_ow h.len]
  have := h.nd x
  simp only [cnt, List.count_append] at this ⊢
  by_cases e : p = x
  · subst e
    have n : p ∉ own σ δ ++ ι := fun q => by obtain ⟨o, e, _⟩ := h.mu q; rw [hp] at e; cases e
    have : cnt p (own σ δ ++ ι) = 0 := List.count_eq_zero.mpr n
    simp only [cnt, List.count_append] at this
    simp
    omega
  · have : List.count x [p] = 0 := List.count_eq_zero.mpr (by simp; exact fun z => e z.symm)
    omega
theorem Step.lay_ow {p : Addr} {o : HO} {m : M} (l : σ.length = δ.length) (hp : H p = none) : Step ι (own σ δ ++ ι) H ι (own (σ ++ [some (.ref p)]) (δ ++ [some (.ow m)]) ++ ι) (upd H p o) where
  pre := Pre.refl _
  src := fun a h => by
    rw [own_ow l] at h
    simp only [List.mem_append, List.mem_singleton] at h ⊢
    rcases h with (h | h) | h
    · exact .inl (.inl h)
    · subst h; exact .inr hp
    · exact .inl (.inr h)
  keep := fun a u e _ => Same.lay hp _ _ e
  dom := fun a e => (Same.lay hp).free e
  kp := Kp.same (Same.lay hp)
/-- the last temporary goes into slot i -/
theorem SR.store {i : Nat} {v : V} {x : Vl} (h : SR K κ ι H (σ ++ [some v]) (δ ++ [some x]) G) (l : σ.length = δ.length) : SR K κ ι H (σ.set i (some v)) (δ.set i (some x)) G := by
  obtain ⟨a, b⟩ := paired_split l h.sl
  cases b with
  | cons b _ =>
    refine ⟨paired_set i a b, h.gs, fun y => ?_⟩
    have n := h.nd y
    rw [own_app _ _ l] at n
    have e1 : own [some v] [some x] = own1 (some v) (some x) := List.append_nil _
    rw [e1] at n
    by_cases hi : i < σ.length
    · have := cnt_own_set (σ := σ) (δ := δ) (i := i) (w := some v) (y := some x) y (List.getElem?_eq_getElem hi) (List.getElem?_eq_getElem (by omega))
      simp only [cnt, List.count_append] at this n ⊢
      omega
    · rw [List.set_eq_of_length_le (by omega), List.set_eq_of_length_le (by omega)]
      simp only [cnt, List.count_append] at n ⊢
      omega
theorem own_store {i : Nat} {v : V} {x : Vl} {a : Addr} (l : σ.length = δ.length) (h : a ∈ own (σ.set i (some v)) (δ.set i (some x)) ++ ι) : a ∈ own (σ ++ [some v]) (δ ++ [some x]) ++ ι := by
  rw [own_app _ _ l]
  have e1 : own [some v] [some x] = own1 (some v) (some x) := List.append_nil _
  rw [e1]
  rw [cnt_pos] at h ⊢
  by_cases hi : i < σ.length
  · have := cnt_own_set (σ := σ) (δ := δ) (i := i) (w := some v) (y := some x) a (List.getElem?_eq_getElem hi) (List.getElem?_eq_getElem (by omega))
    simp only [cnt, List.count_append] at this h ⊢
    omega
  · rw [List.set_eq_of_length_le (by omega), List.set_eq_of_length_le (by omega)] at h
    simp only [cnt, List.count_append] at h ⊢
    omega
/-- slot i becomes a temporary -/
theorem SR.take {i : Nat} {a : Addr} {m : M} (h : SR K κ ι H σ δ G) (e1 : σ[i]? = some (some (.ref a))) (e2 : δ[i]? = some (some (.ow m))) :
    SR K κ ι H (σ ++ [some (.ref a)]) (δ.set i none ++ [some (.ow m)]) G ∧ Step ι (own σ δ ++ ι) H ι (own (σ ++ [some (.ref a)]) (δ.set i none ++ [some (.ow m)]) ++ ι) H := by
  have l : σ.length = (δ.set i none).length := by rw [List.length_set]; exact h.len
  obtain ⟨a', e1', r⟩ := h.get_ow e2
  rw [e1] at e1'; cases e1'
  have q : ∀ x, cnt x (own σ (δ.set i none)) + cnt x [a] = cnt x (own σ δ) := fun x => by
    have := cnt_own_setD (y := none) x e1 e2
    rw [own1_ow, own1_no] at this
    exact this
  refine ⟨⟨paired_app (paired_setR h.sl e1 (.no _)) (.cons (.ow r) .nil), h.gs, fun x => ?_⟩, (Step.refl _ _ _).sub fun x hx => ?_⟩
  · rw [own_ow l]
    have := h.nd x
    have := q x
    simp only [cnt, List.count_append] at *
    omega
  · rw [own_ow l, cnt_pos] at hx
    rw [cnt_pos]
    have := q x
    simp only [cnt, List.count_append] at *
    omega
theorem SR.gl (h : SR K κ ι H σ δ G) : ι.length = G.length := Paired.length h.gs
theorem SR.box {a : Addr} {m : M} (h : SR K κ ι H (σ ++ [some (.ref a)]) (δ ++ [some (.ow m)]) G) (l : σ.length = δ.length) :
    SR K κ (ι ++ [a]) H σ δ (G ++ [m]) ∧ RpI K (ι ++ [a]) H (.ref a) (.ref G.length) ∧ Step ι (own (σ ++ [some (.ref a)]) (δ ++ [some (.ow m)]) ++ ι) H (ι ++ [a]) (own σ δ ++ (ι ++ [a])) H := by
  obtain ⟨p, q⟩ := paired_split l h.sl
  have pr := Pre.snoc ι [a]
  cases q with
  | cons q _ =>
    cases q with
    | ow q =>
      refine ⟨⟨slots_mono pr (Kp.refl _) (fun _ _ => rfl) p, paired_app (objs_mono pr (Kp.refl _) (fun _ _ => rfl) h.gs) (.cons (q.mono pr (Kp.refl _) rfl) .nil), fun x => ?_⟩, ?_, ⟨pr, fun x hx => .inl ?_, fun _ _ e _ => e, fun _ e => e, Kp.refl _⟩⟩
      · have := h.nd x
        rw [own_ow l] at this
        simp only [cnt, List.count_append] at this ⊢
        omega
      · refine .ref ?_
        have e := h.gl
        rw [← e, List.getElem?_append_right (Nat.le_refl _), Nat.sub_self]; rfl
      · rw [own_ow l]
        simp only [List.mem_append] at hx ⊢
        rcases hx with hx | hx | hx
        · exact .inl (.inl hx)
        · exact .inr hx
        · exact .inl (.inr hx)
/-- the content of slot i is changed -/
theorem SR.poke {i : Nat} {a : Addr} {m m' : M} {o : HO} (h : SR K κ ι H σ δ G) (e1 : σ[i]? = some (some (.ref a))) (e2 : δ[i]? = some (some (.ow m))) (r : ∀ (ρ : RpM K κ ι H a m), Kp H (upd H a o) → RpM K κ ι (upd H a o) a m') :
    SR K κ ι (upd H a o) σ (δ.set i (some (.ow m'))) G ∧ Step ι (own σ δ ++ ι) H ι (own σ (δ.set i (some (.ow m'))) ++ ι) (upd H a o) := by
  obtain ⟨a', e1', rm⟩ := h.get_ow e2
  rw [e1] at e1'; cases e1'
  obtain ⟨u, hu, mu⟩ := rm.mu
  have kp : Kp H (upd H a o) := ⟨fun b xs e => by rw [upd_ne (ne_of e hu (by rintro rfl; cases mu))]; exact e, fun b o' u' e => by rw [upd_ne (ne_of e hu (by rintro rfl; cases mu))]; exact e⟩
  have q : ∀ x, cnt x (own σ (δ.set i (some (.ow m')))) = cnt x (own σ δ) := fun x => by
    have := cnt_own_setD (y := some (.ow m')) x e1 e2
    rw [own1_ow, own1_ow] at this
    omega
  have mem := own_mem e1 e2
  have na : ∀ x, x ∈ own σ (δ.set i none) → x ≠ a := fun x hx z => by
    subst z
    have := cnt_own_setD (y := none) x e1 e2
    rw [own1_ow, own1_no] at this
    have n := h.nd x
    have := cnt_pos.mp hx
    have z1 : cnt x [x] = 1 := by simp [cnt]
    have z0 : cnt x [] = 0 := rfl
    omega
  have ni : ∀ x, x ∈ ι → x ≠ a := fun x hx z => by
    subst z
    have n := h.nd x
    have := cnt_pos.mp hx
    have := cnt_pos.mp mem
    omega
  have p1 := slots_mono (Pre.refl ι) kp (fun x hx => upd_ne (na x hx)) (paired_setR (y := none) h.sl e1 (.no _))
  refine ⟨⟨?_, objs_mono (Pre.refl ι) kp (fun x hx => upd_ne (ni x hx)) h.gs, fun x => by rw [q]; exact h.nd x⟩, ⟨Pre.refl _, fun x hx => .inl ?_, fun x u e n => ?_, fun x e => ?_, kp⟩⟩
  · have := paired_setR (y := some (.ow m')) p1 e1 (.ow (r rm kp))
    rw [List.set_set] at this
    exact this
  · rw [cnt_pos] at hx ⊢
    have := q x
    simp only [cnt, List.count_append] at *
    omega
  · rw [upd_ne (fun z => n (by rw [z]; exact List.mem_append_left _ mem))]; exact e
  · by_cases z : x = a
    · subst z; rw [upd_same] at e; cases e
    · rw [upd_ne z] at e; exact e
/-- the content of the thing k is changed -/
theorem SR.pokeG {k : Nat} {a : Addr} {m m' : M} {o : HO} (h : SR K κ ι H σ δ G) (e1 : ι[k]? = some a) (e2 : G[k]? = some m) (r : ∀ (ρ : RpM K κ ι H a m), Kp H (upd H a o) → RpM K κ ι (upd H a o) a m') :
    SR K κ ι (upd H a o) σ δ (G.set k m') ∧ Step ι (own σ δ ++ ι) H ι (own σ δ ++ ι) (upd H a o) := by
  obtain ⟨a', e1', rm⟩ := h.get_g e2
  rw [e1] at e1'; cases e1'
  obtain ⟨u, hu, mu⟩ := rm.mu
  have kp : Kp H (upd H a o) := ⟨fun b xs e => by rw [upd_ne (ne_of e hu (by rintro rfl; cases mu))]; exact e, fun b o' u' e => by rw [upd_ne (ne_of e hu (by rintro rfl; cases mu))]; exact e⟩
  have mem : a ∈ ι := List.mem_of_getElem? e1
  have na : ∀ x, x ∈ own σ δ → x ≠ a := fun x hx z => by
    subst z
    have n := h.nd x
    have := cnt_pos.mp hx
    have := cnt_pos.mp mem
    omega
  have inj : ∀ j, ι[j]? = some a → j = k := fun j ej => by
    have n := h.nd a
    have c1 : cnt a ι ≤ 1 := by omega
    by_cases z : j = k
    · exact z
    · exfalso
      have : 2 ≤ cnt a ι := by
        have hj := (List.getElem?_eq_some_iff.mp ej)
        have hk := (List.getElem?_eq_some_iff.mp e1)
        obtain ⟨hj, vj⟩ := hj
        obtain ⟨hk, vk⟩ := hk
        have two : ∀ (l : List Addr) (i j : Nat) (hi : i < l.length) (hj : j < l.length), i < j → l[i] = a → l[j] = a → 2 ≤ List.count a l := by
          intro l i j hi hj hij e1 e2
          have e : l = l.take j ++ l.drop j := (List.take_append_drop j l).symm
          rw [e, List.count_append]
          have p1 : 0 < List.count a (l.take j) := List.count_pos_iff.mpr (by rw [List.mem_take_iff_getElem]; exact ⟨i, by omega, e1⟩)
          have p2 : 0 < List.count a (l.drop j) := List.count_pos_iff.mpr (by rw [List.mem_drop_iff_getElem]; exact ⟨0, by omega, by simpa using e2⟩)
          omega
        rcases Nat.lt_or_gt_of_ne z with z | z
        · exact two ι j k hj hk z vj vk
        · exact two ι k j hk hj z vk vj
      omega
  have objs : ∀ (as : List Addr) (Gs : List M) (b : Nat), (∀ j x, as[j]? = some x → x = a → b + j = k) → Paired (RpM K κ ι H) as Gs → (∀ j, b + j = k → j < as.length → as[j]? = some a) → Paired (RpM K κ ι (upd H a o)) as (if b ≤ k then Gs.set (k - b) m' else Gs) := by
    intro as Gs b hj p hk
    induction p generalizing b with
    | nil => by_cases z : b ≤ k <;> simp [z] <;> exact .nil
    | @cons x y l r hx hr ih =>
      have ih' := ih (b + 1) (fun j x e z => by have := hj (j + 1) x (by simpa using e) z; omega) (fun j e l => by have := hk (j + 1) (by omega) (by simp; omega); simpa using this)
      by_cases z : b = k
      · subst z
        have xa : x = a := by have := hk 0 rfl (by simp); simpa using this
        subst xa
        rw [if_neg (by omega)] at ih'
        rw [if_pos (Nat.le_refl _), Nat.sub_self]
        exact .cons (r rm kp) ih'
      · have xa : x ≠ a := fun e => z (by have := hj 0 x rfl e; omega)
        by_cases w : b ≤ k
        · rw [if_pos (by omega)] at ih'
          rw [if_pos w]
          obtain ⟨n, hn⟩ : ∃ n, k - b = n + 1 := ⟨k - b - 1, by omega⟩
          have hn' : k - (b + 1) = n := by omega
          rw [hn]; rw [hn'] at ih'
          exact .cons (hx.mono (Pre.refl _) kp (upd_ne xa)) ih'
        · rw [if_neg (by omega)] at ih'
          rw [if_neg w]
          exact .cons (hx.mono (Pre.refl _) kp (upd_ne xa)) ih'
  have p2 := objs ι G 0 (fun j x e z => by subst z; have := inj j e; omega) h.gs (fun j e _ => (show j = k by omega) ▸ e1)
  rw [if_pos (Nat.zero_le _), Nat.sub_zero] at p2
  refine ⟨⟨slots_mono (Pre.refl ι) kp (fun x hx => upd_ne (na x hx)) h.sl, p2, h.nd⟩, ⟨Pre.refl _, fun x hx => .inl hx, fun x u e n => ?_, fun x e => ?_, kp⟩⟩
  · rw [upd_ne (fun z => n (by rw [z]; exact List.mem_append_right _ mem))]; exact e
  · by_cases z : x = a
    · subst z; rw [upd_same] at e; cases e
    · rw [upd_ne z] at e; exact e
end
end B
namespace B
open PySem L2
inductive Ev where
  | v (x : Vl) | s (i : Nat)
abbrev De := List (Option Vl)
abbrev Mo (α : Type) := De → List M → Option (α × De × List M)
def bd {α β : Type} (m : Mo α) (f : α → Mo β) : Mo β := fun δ G => match m δ G with
  | some (a, δ1, G1) => f a δ1 G1
  | none => none
def rt {α : Type} (a : α) : Mo α := fun δ G => some (a, δ, G)
theorem bd_inv {α β : Type} {m : Mo α} {f : α → Mo β} {δ : De} {G : List M} {r : β × De × List M} (h : bd m f δ G = some r) : ∃ a δ1 G1, m δ G = some (a, δ1, G1) ∧ f a δ1 G1 = some r := by
  unfold bd at h
  split at h
  · exact ⟨_, _, _, by assumption, h⟩
  · cases h
theorem bd_of {α β : Type} {m : Mo α} {f : α → Mo β} {δ δ1 : De} {G G1 : List M} {a : α} (h : m δ G = some (a, δ1, G1)) : bd m f δ G = f a δ1 G1 := by
  unfold bd; rw [h]
def tS : List Ev → List V → St
  | .v _ :: es, v :: vs => some v :: tS es vs
  | .s _ :: es, _ :: vs => tS es vs
  | _, _ => []
def tD : List Ev → De
  | .v x :: es => some x :: tD es
  | .s _ :: es => tD es
  | [] => []
theorem tS_app : ∀ {es : List Ev} {vs : List V} (fs : List Ev) (ws : List V), es.length = vs.length → tS (es ++ fs) (vs ++ ws) = tS es vs ++ tS fs ws
  | [], [], _, _, _ => rfl
  | [], _ :: _, _, _, h => by cases h
  | _ :: _, [], _, _, h => by cases h
  | .v x :: es, v :: vs, fs, ws, h => by
    show some v :: tS (es ++ fs) (vs ++ ws) = some v :: (tS es vs ++ tS fs ws)
    rw [tS_app fs ws (by simpa using h)]
  | .s i :: es, v :: vs, fs, ws, h => by
    show tS (es ++ fs) (vs ++ ws) = tS es vs ++ tS fs ws
    rw [tS_app fs ws (by simpa using h)]
theorem tD_app : ∀ (es fs : List Ev), tD (es ++ fs) = tD es ++ tD fs
  | [], _ => rfl
  | .v x :: es, fs => by
    show some x :: tD (es ++ fs) = some x :: (tD es ++ tD fs)
    rw [tD_app]
  | .s i :: es, fs => by
    show tD (es ++ fs) = tD es ++ tD fs
    rw [tD_app]
structure Args (K : PySem.W.Frag) (κ : Str → Addr) (ι : List Addr) (H : Hp) (σ : St) (δ : De) (G : List M) (es : List Ev) (vs : List V) : Prop where
  l : σ.length = δ.length
  sr : SR K κ ι H (σ ++ tS es vs) (δ ++ tD es) G
  al : Paired (fun (e : Ev) (v : V) => ∀ i, e = .s i → σ[i]? = some (some v)) es vs
structure After (K : PySem.W.Frag) (κ : Str → Addr) (σ : St) (ι fp : List Addr) (H : Hp) (es : List Ev) (δ' : De) (G' : List M) (vs : List V) (ι' : List Addr) (H' : Hp) : Prop where
  ar : Args K κ ι' H' σ δ' G' es vs
  st : Step ι fp H ι' (own (σ ++ tS es vs) (δ' ++ tD es) ++ ι') H'
def UpE (K : PySem.W.Frag) (κ : Str → Addr) (f : Mo Ev) : TE := fun σ H Q => ∃ ι δ G e δ' G', SR K κ ι H σ δ G ∧ f δ G = some (e, δ', G') ∧ ∀ v ι' H', After K κ σ ι (own σ δ ++ ι) H [e] δ' G' [v] ι' H' → Q v H'
def UpA (K : PySem.W.Frag) (κ : Str → Addr) (f : Mo (List Ev)) : TA := fun σ H Q => ∃ ι δ G es δ' G', SR K κ ι H σ δ G ∧ f δ G = some (es, δ', G') ∧ ∀ vs ι' H', After K κ σ ι (own σ δ ++ ι) H es δ' G' vs ι' H' → Q vs H'
section
variable {K : PySem.W.Frag} {κ : Str → Addr} {ι ι1 ι2 fp : List Addr} {H H1 H2 : Hp} {σ : St} {δ δ1 δ2 : De} {G G1 G2 : List M} {es fs : List Ev} {vs ws : List V}
theorem Args.base (h : Args K κ ι H σ δ G es vs) : SR K κ ι H σ δ G := h.sr.pop h.l
theorem len0 {vs : List V} {n : Nat} (h : n = vs.length) (e : n = 0 := by rfl) : vs = [] := by subst e; cases vs with | nil => rfl | cons _ _ => cases h
theorem len1 {vs : List V} {n : Nat} (h : n = vs.length) (e : n = 1 := by rfl) : ∃ a, vs = [a] := by
  subst e
  cases vs with
  | nil => cases h
  | cons a r => exact ⟨a, by rw [len0 (Nat.succ.inj h)]⟩
theorem len2 {vs : List V} {n : Nat} (h : n = vs.length) (e : n = 2 := by rfl) : ∃ a b, vs = [a, b] := by
  subst e
  cases vs with
  | nil => cases h
  | cons a r => obtain ⟨b, e⟩ := len1 (Nat.succ.inj h); exact ⟨a, b, by rw [e]⟩
theorem len3 {vs : List V} {n : Nat} (h : n = vs.length) (e : n = 3 := by rfl) : ∃ a b c, vs = [a, b, c] := by
  subst e
  cases vs with
  | nil => cases h
  | cons a r => obtain ⟨b, c, e⟩ := len2 (Nat.succ.inj h); exact ⟨a, b, c, by rw [e]⟩
theorem Args.len (h : Args K κ ι H σ δ G es vs) : es.length = vs.length := Paired.length h.al
theorem After.app (a : After K κ σ ι fp H es δ1 G1 vs ι1 H1) (b : After K κ σ ι1 (own σ δ1 ++ ι1) H1 fs δ2 G2 ws ι2 H2) : After K κ σ ι fp H (es ++ fs) δ2 G2 (vs ++ ws) ι2 H2 := by
  obtain ⟨s, t⟩ := SR.join a.ar.sr a.ar.l b.ar.sr b.ar.l b.st
  have e1 := tS_app fs ws a.ar.len
  have e2 := tD_app es fs
  refine ⟨⟨b.ar.l, by rw [e1, e2]; exact s, paired_app a.ar.al b.ar.al⟩, ?_⟩
  rw [e1, e2]
  exact a.st.trans t
theorem After.nil (h : SR K κ ι H σ δ G) : After K κ σ ι (own σ δ ++ ι) H [] δ G [] ι H := by
  refine ⟨⟨h.len, ?_, .nil⟩, ?_⟩
  · show SR K κ ι H (σ ++ []) (δ ++ []) G
    rw [List.append_nil, List.append_nil]; exact h
  · show Step ι _ H ι (own (σ ++ []) (δ ++ []) ++ ι) H
    rw [List.append_nil, List.append_nil]; exact Step.refl _ _ _
def nilF : Mo (List Ev) := rt []
def consF (fa : Mo Ev) (fr : Mo (List Ev)) : Mo (List Ev) := bd fa fun e => bd fr fun es => rt (e :: es)
theorem upA_nil {Q : List V → Hp → Prop} (h : UpA K κ nilF σ H Q) : tNil σ H Q := by
  obtain ⟨ι, δ, G, es, δ', G', s, e, k⟩ := h
  cases e
  exact k _ _ _ (After.nil s)
theorem upA_cons {fa : Mo Ev} {fr : Mo (List Ev)} {Q : List V → Hp → Prop} (h : UpA K κ (consF fa fr) σ H Q) : tCons (UpE K κ fa) (UpA K κ fr) σ H Q := by
  obtain ⟨ι, δ, G, es, δ', G', s, e, k⟩ := h
  obtain ⟨x, δ1, G1, e1, e⟩ := bd_inv e
  obtain ⟨xs, δ2, G2, e2, e⟩ := bd_inv e
  cases e
  refine ⟨ι, δ, G, x, δ1, G1, s, e1, fun v ι1 H1 a => ?_⟩
  refine ⟨ι1, δ1, G1, xs, _, _, a.ar.base, e2, fun vs ι2 H2 b => ?_⟩
  exact k _ _ _ (a.app b)
/-- a primitive: what it wants of its arguments, and what it does -/
def Prim (K : PySem.W.Frag) (κ : Str → Addr) (r : List V → Hp → VK → Prop) (p : List Ev → Mo Ev) : Prop :=
  ∀ (ι : List Addr) (H : Hp) (σ : St) (δ : De) (G : List M) (es : List Ev) (vs : List V) (e : Ev) (δ' : De) (G' : List M) (Q : VK), Args K κ ι H σ δ G es vs → p es δ G = some (e, δ', G') →
    (∀ v ι' H', After K κ σ ι (own (σ ++ tS es vs) (δ ++ tD es) ++ ι) H [e] δ' G' [v] ι' H' → Q v H') → r vs H Q
theorem After.then {es' : List Ev} {vs' : List V} (a : After K κ σ ι fp H es δ1 G1 vs ι1 H1) (b : After K κ σ ι1 (own (σ ++ tS es vs) (δ1 ++ tD es) ++ ι1) H1 es' δ2 G2 vs' ι2 H2) : After K κ σ ι fp H es' δ2 G2 vs' ι2 H2 := ⟨b.ar, a.st.trans b.st⟩
theorem up_args {r : List V → Hp → VK → Prop} {p : List Ev → Mo Ev} {fa : Mo (List Ev)} {Q : VK} (hp : Prim K κ r p) (h : UpE K κ (bd fa p) σ H Q) : UpA K κ fa σ H fun vs H1 => r vs H1 Q := by
  obtain ⟨ι, δ, G, e, δ', G', s, eq, k⟩ := h
  obtain ⟨xs, δ1, G1, e1, e2⟩ := bd_inv eq
  refine ⟨ι, δ, G, xs, δ1, G1, s, e1, fun vs ι1 H1 a => ?_⟩
  exact hp _ _ _ _ _ _ _ _ _ _ _ a.ar e2 fun v ι2 H2 b => k _ _ _ (a.then b)
def r2 (r : R2) : List V → Hp → VK → Prop := fun vs H Q => ∃ x y, vs = [x, y] ∧ r x y H Q
def r1 (r : V → Hp → VK → Prop) : List V → Hp → VK → Prop := fun vs H Q => ∃ x, vs = [x] ∧ r x H Q
def opF (p : List Ev → Mo Ev) (fa fb : Mo Ev) : Mo Ev := bd fa fun x => bd fb fun y => p [x, y]
def unF (p : List Ev → Mo Ev) (fa : Mo Ev) : Mo Ev := bd fa fun x => p [x]
theorem up_op {r : R2} {p : List Ev → Mo Ev} {fa fb : Mo Ev} {Q : VK} (hp : Prim K κ (r2 r) p) (h : UpE K κ (opF p fa fb) σ H Q) : tOp r (UpE K κ fa) (UpE K κ fb) σ H Q := by
  obtain ⟨ι, δ, G, e, δ', G', s, eq, k⟩ := h
  obtain ⟨x, δ1, G1, e1, eq⟩ := bd_inv eq
  obtain ⟨y, δ2, G2, e2, eq⟩ := bd_inv eq
  refine ⟨ι, δ, G, x, δ1, G1, s, e1, fun v ι1 H1 a => ?_⟩
  refine ⟨ι1, δ1, G1, y, δ2, G2, a.ar.base, e2, fun w ι2 H2 b => ?_⟩
  have c := a.app b
  obtain ⟨x', y', e', q⟩ := hp _ _ _ _ _ _ _ _ _ _ Q c.ar eq fun v ι3 H3 d => k _ _ _ (c.then d)
  cases e'
  exact q
theorem up_un {r : V → Hp → VK → Prop} {p : List Ev → Mo Ev} {fa : Mo Ev} {Q : VK} (hp : Prim K κ (r1 r) p) (h : UpE K κ (unF p fa) σ H Q) : tUn r (UpE K κ fa) σ H Q := by
  obtain ⟨ι, δ, G, e, δ', G', s, eq, k⟩ := h
  obtain ⟨x, δ1, G1, e1, eq⟩ := bd_inv eq
  refine ⟨ι, δ, G, x, δ1, G1, s, e1, fun v ι1 H1 a => ?_⟩
  obtain ⟨x', e', q⟩ := hp _ _ _ _ _ _ _ _ _ _ Q a.ar eq fun v ι3 H3 d => k _ _ _ (a.then d)
  cases e'
  exact q
theorem tsd : ∀ {es : List Ev} {vs : List V} {j : Nat} {x : Vl} {v : V}, Paired (RpE K κ ι H) (tS es vs) (tD es) → es[j]? = some (.v x) → vs[j]? = some v → RpE K κ ι H (some v) (some x)
  | [], _, _, _, _, _, h, _ => by simp at h
  | _ :: _, [], _, _, _, _, _, h => by simp at h
  | .v y :: es, w :: vs, 0, x, v, p, h1, h2 => by
    simp at h1 h2
    subst h1; subst h2
    cases p with
    | cons q _ => exact q
  | .s i :: es, w :: vs, 0, x, v, p, h1, h2 => by simp at h1
  | .v y :: es, w :: vs, j + 1, x, v, p, h1, h2 => by
    cases p with
    | cons _ p => exact tsd (j := j) p (by simpa using h1) (by simpa using h2)
  | .s i :: es, w :: vs, j + 1, x, v, p, h1, h2 => tsd (j := j) (es := es) (vs := vs) p (by simpa using h1) (by simpa using h2)
theorem Args.im {j : Nat} {d : I} {v : V} (a : Args K κ ι H σ δ G es vs) (h1 : es[j]? = some (.v (.im d))) (h2 : vs[j]? = some v) : RpI K ι H v d := by
  have := tsd (paired_split a.l a.sr.sl).2 h1 h2
  cases this with
  | im r => exact r
/-- what an argument is, where it is a thing that may change -/
def pk (δ : De) (G : List M) : Ev → Option M
  | .v (.ow m) => some m
  | .v (.im (.ref k)) => G[k]?
  | .v (.im _) => none
  | .s i => match δ[i]? with
    | some (some (.ow m)) => some m
    | _ => none
theorem Args.pk {j : Nat} {e : Ev} {m : M} {v : V} (a : Args K κ ι H σ δ G es vs) (h1 : es[j]? = some e) (h2 : vs[j]? = some v) (h : B.pk δ G e = some m) : ∃ b, v = .ref b ∧ RpM K κ ι H b m := by
  cases e with
  | v x =>
    have q := tsd (paired_split a.l a.sr.sl).2 h1 h2
    cases x with
    | ow m' => cases h; cases q with
      | ow r => exact ⟨_, rfl, r⟩
    | im d =>
      cases q with
      | im r =>
        cases r with
        | ref e =>
          obtain ⟨b, e', r⟩ := a.base.get_g h
          rw [e] at e'; cases e'
          exact ⟨_, rfl, r⟩
        | _ => cases h
  | s i =>
    have h : (match δ[i]? with | some (some (.ow m)) => some m | _ => none) = some m := h
    obtain ⟨v', e1, al⟩ : ∃ v', vs[j]? = some v' ∧ σ[i]? = some (some v') := by
      have : ∀ {es : List Ev} {vs : List V} {j : Nat}, Paired (fun (e : Ev) (v : V) => ∀ i, e = .s i → σ[i]? = some (some v)) es vs → es[j]? = some (.s i) → ∃ v', vs[j]? = some v' ∧ σ[i]? = some (some v') := by
        intro es vs j p
        induction p generalizing j with
        | nil => intro h; simp at h
        | cons q _ ih =>
          intro h
          cases j with
          | zero => simp at h; exact ⟨_, rfl, q i h⟩
          | succ j => obtain ⟨v', e, z⟩ := ih (j := j) (by simpa using h); exact ⟨v', by simpa using e, z⟩
      exact this a.al h1
    rw [h2] at e1; cases e1
    split at h
    · rename_i m' e
      cases h
      obtain ⟨b, e', r⟩ := a.base.get_ow e
      rw [al] at e'; cases e'
      exact ⟨_, rfl, r⟩
    · cases h
def sq (δ : De) (G : List M) : Ev → Option (List I)
  | .v (.im (.tup xs)) => some xs
  | .v (.im (.fro xs)) => some xs
  | .v (.im (.con xs)) => some xs
  | e => match pk δ G e with
    | some (.lst xs) => some xs
    | _ => none
theorem Args.sq {j : Nat} {e : Ev} {xs : List I} {v : V} (a : Args K κ ι H σ δ G es vs) (h1 : es[j]? = some e) (h2 : vs[j]? = some v) (h : B.sq δ G e = some xs) : ∃ b ys, v = .ref b ∧ (SqL K H b ys ∨ SqT K H b ys) ∧ RpIs K ι H ys xs := by
  have fromPk : (match B.pk δ G e with | some (.lst xs) => some xs | _ => none) = some xs → ∃ b ys, v = .ref b ∧ (SqL K H b ys ∨ SqT K H b ys) ∧ RpIs K ι H ys xs := fun q => by
    split at q
    · rename_i xs' e'
      cases q
      obtain ⟨b, e1, ys, h3, r⟩ := a.pk h1 h2 e'
      exact ⟨b, ys, e1, .inl (SqL.of h3), r⟩
    · cases q
  cases e with
  | s i => exact fromPk h
  | v x =>
    cases x with
    | ow m => exact fromPk h
    | im d =>
      have r := a.im h1 h2
      cases r with
      | tup q r => cases h; exact ⟨_, _, rfl, .inr (SqT.of q), r⟩
      | con q r => cases h; exact ⟨_, _, rfl, .inr (SqT.kon q), r⟩
      | fro q r => cases h; exact ⟨_, _, rfl, .inl q.sq, r⟩
      | ref q => exact fromPk h
      | non => exact fromPk h
      | bl => exact fromPk h
      | int => exact fromPk h
      | str => exact fromPk h
      | ty => exact fromPk h
theorem fin_im {v : V} {d : I} (a : Args K κ ι H σ δ G es vs) (r : RpI K ι H v d) : After K κ σ ι (own (σ ++ tS es vs) (δ ++ tD es) ++ ι) H [.v (.im d)] δ G [v] ι H := by
  refine ⟨⟨a.l, a.base.push_im r, .cons (fun _ h => by cases h) .nil⟩, (Step.refl _ _ _).sub fun x h => ?_⟩
  have h : x ∈ own (σ ++ [some v]) (δ ++ [some (.im d)]) ++ ι := h
  rw [own_im a.l] at h
  exact own_sub a.l h
theorem fin_same {v : V} {d : I} {H' : Hp} (a : Args K κ ι H σ δ G es vs) (s : Same H H') (r : RpI K ι H' v d) : After K κ σ ι (own (σ ++ tS es vs) (δ ++ tD es) ++ ι) H [.v (.im d)] δ G [v] ι H' := by
  refine ⟨⟨a.l, (a.base.same s).push_im r, .cons (fun _ h => by cases h) .nil⟩, (Step.same s).sub fun x h => ?_⟩
  have h : x ∈ own (σ ++ [some v]) (δ ++ [some (.im d)]) ++ ι := h
  rw [own_im a.l] at h
  exact own_sub a.l h
theorem fin_tup {p : Addr} {ys : List V} {xs : List I} (a : Args K κ ι H σ δ G es vs) (hp : H p = none) (r : RpIs K ι H ys xs) : After K κ σ ι (own (σ ++ tS es vs) (δ ++ tD es) ++ ι) H [.v (.im (.tup xs))] δ G [.ref p] ι (upd H p (.tup ys)) :=
  fin_same a (Same.lay hp) (.tup upd_same (r.mono (Pre.refl _) (Kp.same (Same.lay hp))))
theorem fin_ow {p : Addr} {o : HO} {m : M} (a : Args K κ ι H σ δ G es vs) (hp : H p = none) (r : RpM K κ ι (upd H p o) p m) : After K κ σ ι (own (σ ++ tS es vs) (δ ++ tD es) ++ ι) H [.v (.ow m)] δ G [.ref p] ι (upd H p o) :=
  ⟨⟨a.l, a.base.push_ow hp r, .cons (fun _ h => by cases h) .nil⟩, (Step.lay_ow a.l hp).wide fun x h => own_sub a.l h⟩
theorem fin_lst {p : Addr} {ys : List V} {xs : List I} (a : Args K κ ι H σ δ G es vs) (hp : H p = none) (r : RpIs K ι H ys xs) : After K κ σ ι (own (σ ++ tS es vs) (δ ++ tD es) ++ ι) H [.v (.ow (.lst xs))] δ G [.ref p] ι (upd H p (.lst ys)) :=
  fin_ow a hp ⟨ys, upd_same, r.mono (Pre.refl _) (Kp.same (Same.lay hp))⟩
/-- the thing that an argument is, changed -/
def pkS (δ : De) (G : List M) (m' : M) : Ev → De × List M
  | .v (.im (.ref k)) => (δ, G.set k m')
  | .v _ => (δ, G)
  | .s i => (δ.set i (some (.ow m')), G)
theorem tmp_at : ∀ {es : List Ev} {vs : List V} {j : Nat} {x : Vl} {v : V}, es[j]? = some (.v x) → vs[j]? = some v → es.length = vs.length → ∃ n : Nat, (tS es vs)[n]? = some (some v) ∧ (tD es)[n]? = some (some x)
  | [], _, _, _, _, h, _, _ => by simp at h
  | _ :: _, [], _, _, _, _, h, _ => by simp at h
  | .v y :: es, w :: vs, 0, x, v, h1, h2, _ => by
    simp at h1 h2
    subst h1; subst h2
    exact ⟨0, rfl, rfl⟩
  | .s i :: es, w :: vs, 0, x, v, h1, h2, _ => by simp at h1
  | .v y :: es, w :: vs, j + 1, x, v, h1, h2, l => by
    obtain ⟨n, p, q⟩ := tmp_at (j := j) (es := es) (vs := vs) (by simpa using h1) (by simpa using h2) (by simpa using l)
    exact ⟨n + 1, by simpa [tS] using p, by simpa [tD] using q⟩
  | .s i :: es, w :: vs, j + 1, x, v, h1, h2, l => by
    obtain ⟨n, p, q⟩ := tmp_at (j := j) (es := es) (vs := vs) (by simpa using h1) (by simpa using h2) (by simpa using l)
    exact ⟨n, p, q⟩
theorem al_at {i : Nat} : ∀ {es : List Ev} {vs : List V} {j : Nat} {v : V}, Paired (fun (e : Ev) (v : V) => ∀ i, e = .s i → σ[i]? = some (some v)) es vs → es[j]? = some (.s i) → vs[j]? = some v → σ[i]? = some (some v) := by
  intro es vs j v p
  induction p generalizing j with
  | nil => intro h; simp at h
  | cons q _ ih =>
    intro h h2
    cases j with
    | zero => simp at h h2; subst h2; exact q i h
    | succ j => exact ih (j := j) (by simpa using h) (by simpa using h2)
theorem fin_mut {j : Nat} {e : Ev} {m m' : M} {b : Addr} {o : HO} {v : V} {d : I} (a : Args K κ ι H σ δ G es vs) (h1 : es[j]? = some e) (h2 : vs[j]? = some (.ref b)) (h : pk δ G e = some m)
    (r : RpM K κ ι H b m → Kp H (upd H b o) → RpM K κ ι (upd H b o) b m') (rv : RpI K ι H v d) :
    After K κ σ ι (own (σ ++ tS es vs) (δ ++ tD es) ++ ι) H [.v (.im d)] (pkS δ G m' e).1 (pkS δ G m' e).2 [v] ι (upd H b o) := by
  have fin : ∀ {δ' : De} {G' : List M}, SR K κ ι (upd H b o) σ δ' G' → Step ι (own (σ ++ tS es vs) (δ ++ tD es) ++ ι) H ι (own σ δ' ++ ι) (upd H b o) → After K κ σ ι (own (σ ++ tS es vs) (δ ++ tD es) ++ ι) H [.v (.im d)] δ' G' [v] ι (upd H b o) := fun s st => by
    refine ⟨⟨s.len, s.push_im (rv.mono (Pre.refl _) st.kp), .cons (fun _ h => by cases h) .nil⟩, st.sub fun x h => ?_⟩
    have h : x ∈ own (σ ++ [some v]) (_ ++ [some (.im d)]) ++ ι := h
    rw [own_im s.len] at h
    exact h
  cases e with
  | s i =>
    have al := al_at a.al h1 h2
    have h : (match δ[i]? with | some (some (.ow m)) => some m | _ => none) = some m := h
    split at h
    · rename_i m0 e
      cases h
      obtain ⟨p, q⟩ := a.base.poke al e (m' := m') (o := o) r
      exact fin p (q.wide fun x h => own_sub a.l h)
    · cases h
  | v x =>
    cases x with
    | im d =>
      cases d with
      | ref k =>
        have rr := a.im h1 h2
        cases rr with
        | ref e =>
          obtain ⟨p, q⟩ := a.base.pokeG e h (m' := m') (o := o) r
          exact fin p (q.wide fun x h => own_sub a.l h)
      | _ => cases h
    | ow m0 =>
      cases h
      obtain ⟨n, p1, p2⟩ := tmp_at h1 h2 a.len
      have e1 : (σ ++ tS es vs)[σ.length + n]? = some (some (.ref b)) := by rw [List.getElem?_append_right (by omega)]; simpa using p1
      have e2 : (δ ++ tD es)[σ.length + n]? = some (some (.ow m)) := by rw [a.l, List.getElem?_append_right (by omega)]; simpa using p2
      obtain ⟨p, q⟩ := a.sr.poke e1 e2 (m' := m') (o := o) r
      have e3 : (δ ++ tD es).set (σ.length + n) (some (.ow m')) = δ ++ (tD es).set n (some (.ow m')) := by rw [a.l, List.set_append_right _ _ (by omega)]; simp
      rw [e3] at p q
      exact fin (p.pop a.l) (q.sub fun x h => own_sub a.l h)
end
end B
namespace B
open PySem L2
section
variable {K : PySem.W.Frag} {κ : Str → Addr} {ι ι1 ι2 fp : List Addr} {H H1 H2 : Hp} {σ : St} {δ δ1 δ2 : De} {G G1 G2 : List M} {es fs : List Ev} {vs ws : List V}
def varF (i : Nat) : Mo Ev := fun δ G => match δ[i]? with
  | some (some (.im d)) => some (.v (.im d), δ, G)
  | some (some (.ow _)) => some (.s i, δ, G)
  | _ => none
theorem up_var {i : Nat} {Q : VK} (h : UpE K κ (varF i) σ H Q) : tVar i σ H Q := by
  obtain ⟨ι, δ, G, e, δ', G', s, eq, k⟩ := h
  unfold varF at eq
  split at eq
  · rename_i d hd
    cases eq
    obtain ⟨v, e1, r⟩ := s.get_im hd
    refine ⟨v, e1, k v ι H ⟨⟨s.len, s.push_im r, .cons (fun _ h => by cases h) .nil⟩, (Step.refl _ _ _).sub fun x h => ?_⟩⟩
    have h : x ∈ own (σ ++ [some v]) (δ ++ [some (.im d)]) ++ ι := h
    rw [own_im s.len] at h
    exact h
  · rename_i m hd
    cases eq
    obtain ⟨a, e1, r⟩ := s.get_ow hd
    have n := After.nil s
    exact ⟨_, e1, k _ ι H ⟨⟨s.len, n.ar.sr, .cons (fun j h => by cases h; exact e1) .nil⟩, n.st⟩⟩
  · cases eq
def conF (d : I) : Mo Ev := rt (.v (.im d))
theorem up_con {v : V} {d : I} {Q : VK} (r : ∀ ι H, RpI K ι H v d) (h : UpE K κ (conF d) σ H Q) : tC v σ H Q := by
  obtain ⟨ι, δ, G, e, δ', G', s, eq, k⟩ := h
  cases eq
  have a := fin_im (After.nil s).ar (r ι H)
  exact k _ _ _ ⟨a.ar, (After.nil s).st.trans a.st⟩
def bxE : Ev → Mo Ev
  | .v (.im d) => rt (.v (.im d))
  | .v (.ow m) => fun δ G => some (.v (.im (.ref G.length)), δ, G ++ [m])
  | .s i => fun δ G => match δ[i]? with
    | some (some (.ow m)) => some (.v (.im (.ref G.length)), δ.set i (some (.im (.ref G.length))), G ++ [m])
    | _ => none
def mvE : Ev → Mo Ev
  | .v x => rt (.v x)
  | .s i => fun δ G => match δ[i]? with
    | some (some (.ow m)) => some (.v (.ow m), δ.set i none, G)
    | _ => none
def boxF (f : Mo Ev) : Mo Ev := bd f bxE
def movF (f : Mo Ev) : Mo Ev := bd f mvE
theorem after_mv {e e' : Ev} {δ' : De} {G' : List M} {v : V} (a : After K κ σ ι fp H [e] δ1 G1 [v] ι1 H1) (h : mvE e δ1 G1 = some (e', δ', G')) : After K κ σ ι fp H [e'] δ' G' [v] ι1 H1 ∧ ∃ x, e' = .v x := by
  cases e with
  | v x => cases h; exact ⟨a, _, rfl⟩
  | s i =>
    unfold mvE at h
    dsimp only at h
    split at h
    · rename_i m hm
      cases h
      have al := al_at (j := 0) a.ar.al rfl rfl
      obtain ⟨b, e1, r⟩ := a.ar.base.get_ow hm
      rw [al] at e1; cases e1
      obtain ⟨p, q⟩ := a.ar.base.take al hm
      refine ⟨⟨⟨by rw [List.length_set]; exact a.ar.l, p, .cons (fun _ h => by cases h) .nil⟩, ?_⟩, _, rfl⟩
      have st := a.st
      have e0 : own (σ ++ tS [.s i] [.ref b]) (δ1 ++ tD [.s i]) = own σ δ1 := by
        show own (σ ++ []) (δ1 ++ []) = _
        rw [List.append_nil, List.append_nil]
      rw [e0] at st
      exact st.trans q
    · cases h
theorem after_bx {e e' : Ev} {δ' : De} {G' : List M} {v : V} (a : After K κ σ ι fp H [e] δ1 G1 [v] ι1 H1) (h : bxE e δ1 G1 = some (e', δ', G')) : ∃ ι2, After K κ σ ι fp H [e'] δ' G' [v] ι2 H1 := by
  have go : ∀ {δ3 : De} {b : Addr} {m : M}, σ.length = δ3.length → After K κ σ ι fp H [.v (.ow m)] δ3 G1 [.ref b] ι1 H1 → After K κ σ ι fp H [.v (.im (.ref G1.length))] δ3 (G1 ++ [m]) [.ref b] (ι1 ++ [b]) H1 := fun {δ3 b m} l a => by
    obtain ⟨p, r, q⟩ := SR.box a.ar.sr l
    refine ⟨⟨l, p.push_im r, .cons (fun _ h => by cases h) .nil⟩, a.st.trans (q.sub fun x h => ?_)⟩
    have h : x ∈ own (σ ++ [some (.ref b)]) (δ3 ++ [some (.im (.ref G1.length))]) ++ (ι1 ++ [b]) := h
    rw [own_im l] at h
    exact h
  cases e with
  | v x =>
    cases x with
    | im d => cases h; exact ⟨_, a⟩
    | ow m =>
      cases h
      have r := tsd (paired_split a.ar.l a.ar.sr.sl).2 (j := 0) rfl rfl
      cases r
      exact ⟨_, go a.ar.l a⟩
  | s i =>
    unfold bxE at h
    dsimp only at h
    split at h
    · rename_i m hm
      cases h
      have al := al_at (j := 0) a.ar.al rfl rfl
      have hm' : mvE (.s i) δ1 G1 = some (.v (.ow m), δ1.set i none, G1) := by unfold mvE; dsimp only; rw [hm]
      obtain ⟨a', _⟩ := after_mv a hm'
      obtain ⟨b, e1, r⟩ := a.ar.base.get_ow hm
      rw [al] at e1; cases e1
      have c := go (by rw [List.length_set]; exact a.ar.l) a'
      -- the slot becomes the thing's number
      have hr : RpI K (ι1 ++ [b]) H1 (.ref b) (.ref G1.length) := c.ar.im (j := 0) rfl rfl
      have s0 := c.ar.base
      have l : σ.length = (δ1.set i (some (.im (.ref G1.length)))).length := by rw [List.length_set]; exact a.ar.l
      have eo : ∀ x, cnt x (own σ (δ1.set i (some (.im (.ref G1.length))))) = cnt x (own σ (δ1.set i none)) := fun x => by
        have h1 := cnt_own_setD (y := some (.im (.ref G1.length))) x al hm
        have h2 := cnt_own_setD (y := none) x al hm
        rw [own1_im] at h1; rw [own1_no] at h2
        omega
      have sr : SR K κ (ι1 ++ [b]) H1 σ (δ1.set i (some (.im (.ref G1.length)))) (G1 ++ [m]) := by
        refine ⟨?_, s0.gs, fun x => by rw [eo]; exact s0.nd x⟩
        have := paired_setR (y := some (.im (.ref G1.length))) s0.sl al (.im hr)
        rw [List.set_set] at this
        exact this
      refine ⟨_, ⟨l, sr.push_im hr, .cons (fun _ h => by cases h) .nil⟩, c.st.sub fun x h => ?_⟩
      have h : x ∈ own (σ ++ [some (.ref b)]) (δ1.set i (some (.im (.ref G1.length))) ++ [some (.im (.ref G1.length))]) ++ (ι1 ++ [b]) := h
      rw [own_im l] at h
      show x ∈ own (σ ++ [some (.ref b)]) (δ1.set i none ++ [some (.im (.ref G1.length))]) ++ (ι1 ++ [b])
      rw [own_im (by rw [List.length_set]; exact a.ar.l)]
      simp only [List.mem_append] at h ⊢
      rcases h with h | h
      · left; rw [cnt_pos] at h ⊢; rw [← eo]; exact h
      · exact .inr h
    · cases h
theorem up_box {f : Mo Ev} {Q : VK} (h : UpE K κ (boxF f) σ H Q) : UpE K κ f σ H Q := by
  obtain ⟨ι, δ, G, e, δ', G', s, eq, k⟩ := h
  obtain ⟨x, δ1, G1, e1, eq⟩ := bd_inv eq
  refine ⟨ι, δ, G, x, δ1, G1, s, e1, fun v ι1 H1 a => ?_⟩
  obtain ⟨ι2, b⟩ := after_bx a eq
  exact k _ _ _ b
theorem up_mov {f : Mo Ev} {Q : VK} (h : UpE K κ (movF f) σ H Q) : UpE K κ f σ H Q := by
  obtain ⟨ι, δ, G, e, δ', G', s, eq, k⟩ := h
  obtain ⟨x, δ1, G1, e1, eq⟩ := bd_inv eq
  refine ⟨ι, δ, G, x, δ1, G1, s, e1, fun v ι1 H1 a => ?_⟩
  obtain ⟨b, _⟩ := after_mv a eq
  exact k _ _ _ b
def imE : Ev → Option I
  | .v (.im d) => some d
  | _ => none
def imA : List Ev → Option (List I)
  | [] => some []
  | e :: es => match imE e, imA es with
    | some d, some ds => some (d :: ds)
    | _, _ => none
theorem args_im : ∀ {es : List Ev} {vs : List V} {ds : List I}, Paired (RpE K κ ι H) (tS es vs) (tD es) → es.length = vs.length → imA es = some ds → RpIs K ι H vs ds
  | [], [], _, _, _, h => by cases h; exact .nil
  | [], _ :: _, _, _, l, _ => by cases l
  | _ :: _, [], _, _, l, _ => by cases l
  | e :: es, v :: vs, ds, p, l, h => by
    unfold imA at h
    split at h
    · rename_i d ds' h1 h2
      cases h
      cases e with
      | s i => cases h1
      | v x =>
        cases x with
        | ow m => cases h1
        | im d' =>
          cases h1
          cases p with
          | cons q p =>
            cases q with
            | im r => exact .cons r (args_im p (by simpa using l) h2)
    · cases h
theorem Args.ims {ds : List I} (a : Args K κ ι H σ δ G es vs) (h : imA es = some ds) : RpIs K ι H vs ds := args_im (paired_split a.l a.sr.sl).2 a.len h
def tupP : List Ev → Mo Ev := fun es δ G => match imA es with
  | some ds => if ds.length ≤ 1000 then some (.v (.im (.tup ds)), δ, G) else none
  | none => none
def lstP : List Ev → Mo Ev := fun es δ G => match imA es with
  | some ds => if ds.length ≤ 1000 then some (.v (.ow (.lst ds)), δ, G) else none
  | none => none
theorem sl1000 : 1000 ≤ sizeLine := by decide
theorem prim_tup : Prim K κ (fun vs H Q => vs.length ≤ sizeLine ∧ ∀ p, H p = none → Q (.ref p) (upd H p (.tup vs))) tupP := by
  intro ι H σ δ G es vs e δ' G' Q a h k
  unfold tupP at h
  split at h
  · rename_i ds hd
    split at h
    · cases h
      have r := a.ims hd
      exact ⟨by rw [r.len]; exact Nat.le_trans (by assumption) sl1000, fun p hp => k _ _ _ (fin_tup a hp r)⟩
    · cases h
  · cases h
theorem prim_lst : Prim K κ (fun vs H Q => vs.length ≤ sizeLine ∧ ∀ p, H p = none → Q (.ref p) (upd H p (.lst vs))) lstP := by
  intro ι H σ δ G es vs e δ' G' Q a h k
  unfold lstP at h
  split at h
  · rename_i ds hd
    split at h
    · cases h
      have r := a.ims hd
      exact ⟨by rw [r.len]; exact Nat.le_trans (by assumption) sl1000, fun p hp => k _ _ _ (fin_lst a hp r)⟩
    · cases h
  · cases h
def UpT (K : PySem.W.Frag) (κ : Str → Addr) (f : Mo Bool) : TT := fun σ H Q => ∃ ι δ G b δ' G', SR K κ ι H σ δ G ∧ f δ G = some (b, δ', G') ∧ ∀ ι' H', SR K κ ι' H' σ δ' G' → Step ι (own σ δ ++ ι) H ι' (own σ δ' ++ ι') H' → Q b H'
def blE : Ev → Mo Bool
  | .v (.im (.bl b)) => rt b
  | _ => fun _ _ => none
def tstF (f : Mo Ev) : Mo Bool := bd f blE
theorem After.drop {e : Ev} {v : V} (a : After K κ σ ι fp H [e] δ1 G1 [v] ι1 H1) : SR K κ ι1 H1 σ δ1 G1 ∧ Step ι fp H ι1 (own σ δ1 ++ ι1) H1 := ⟨a.ar.base, a.st.sub fun x h => own_sub a.ar.l h⟩
theorem up_test {f : Mo Ev} {Q : Bool → Hp → Prop} (h : UpT K κ (tstF f) σ H Q) : tTest (UpE K κ f) σ H Q := by
  obtain ⟨ι, δ, G, b, δ', G', s, eq, k⟩ := h
  obtain ⟨x, δ1, G1, e1, eq⟩ := bd_inv eq
  refine ⟨ι, δ, G, x, δ1, G1, s, e1, fun v ι1 H1 a => ?_⟩
  unfold blE at eq
  split at eq
  · rename_i b'
    cases eq
    have r := a.ar.im (j := 0) rfl rfl
    cases r
    obtain ⟨p, q⟩ := a.drop
    exact ⟨_, rfl, k _ _ p q⟩
  · cases eq
def andF (c d : Mo Bool) : Mo Bool := bd c fun b => if b then d else rt false
def orF (c d : Mo Bool) : Mo Bool := bd c fun b => if b then rt true else d
def notF (c : Mo Bool) : Mo Bool := bd c fun b => rt (!b)
theorem UpT.go {f : Mo Bool} {Q Q' : Bool → Hp → Prop} {ι : List Addr} {fp : List Addr} (s : SR K κ ι1 H1 σ δ1 G1) (st : Step ι fp H ι1 (own σ δ1 ++ ι1) H1) {b : Bool} (e : f δ1 G1 = some (b, δ2, G2))
    (k : ∀ ι' H', SR K κ ι' H' σ δ2 G2 → Step ι fp H ι' (own σ δ2 ++ ι') H' → Q b H') : UpT K κ f σ H1 Q := ⟨ι1, δ1, G1, b, δ2, G2, s, e, fun ι' H' s' st' => k ι' H' s' (st.trans st')⟩
theorem up_and {c d : Mo Bool} {Q : Bool → Hp → Prop} (h : UpT K κ (andF c d) σ H Q) : tAnd (UpT K κ c) (UpT K κ d) σ H Q := by
  obtain ⟨ι, δ, G, b, δ', G', s, eq, k⟩ := h
  obtain ⟨x, δ1, G1, e1, eq⟩ := bd_inv eq
  refine ⟨ι, δ, G, x, δ1, G1, s, e1, fun ι1 H1 s1 st => ?_⟩
  cases x with
  | true => rw [if_pos rfl] at eq ⊢; exact UpT.go (Q' := Q) s1 st eq k
  | false => rw [if_neg Bool.false_ne_true] at eq ⊢; cases eq; exact k _ _ s1 st
theorem up_or {c d : Mo Bool} {Q : Bool → Hp → Prop} (h : UpT K κ (orF c d) σ H Q) : tOr (UpT K κ c) (UpT K κ d) σ H Q := by
  obtain ⟨ι, δ, G, b, δ', G', s, eq, k⟩ := h
  obtain ⟨x, δ1, G1, e1, eq⟩ := bd_inv eq
  refine ⟨ι, δ, G, x, δ1, G1, s, e1, fun ι1 H1 s1 st => ?_⟩
  cases x with
  | true => rw [if_pos rfl] at eq ⊢; cases eq; exact k _ _ s1 st
  | false => rw [if_neg Bool.false_ne_true] at eq ⊢; exact UpT.go (Q' := Q) s1 st eq k
theorem up_not {c : Mo Bool} {Q : Bool → Hp → Prop} (h : UpT K κ (notF c) σ H Q) : tNot (UpT K κ c) σ H Q := by
  obtain ⟨ι, δ, G, b, δ', G', s, eq, k⟩ := h
  obtain ⟨x, δ1, G1, e1, eq⟩ := bd_inv eq
  cases eq
  exact ⟨ι, δ, G, x, _, _, s, e1, fun ι1 H1 s1 st => k _ _ s1 st⟩
def ifE (c : Mo Bool) (fa fb : Mo Ev) : Mo Ev := bd c fun b => if b then fa else fb
theorem UpE.go {f : Mo Ev} {Q : VK} {ι : List Addr} {fp : List Addr} {e : Ev} (s : SR K κ ι1 H1 σ δ1 G1) (st : Step ι fp H ι1 (own σ δ1 ++ ι1) H1) (eq : f δ1 G1 = some (e, δ2, G2))
    (k : ∀ v ι' H', After K κ σ ι fp H [e] δ2 G2 [v] ι' H' → Q v H') : UpE K κ f σ H1 Q := ⟨ι1, δ1, G1, e, δ2, G2, s, eq, fun v ι' H' a => k v ι' H' ⟨a.ar, st.trans a.st⟩⟩
theorem up_ifE {c : Mo Bool} {fa fb : Mo Ev} {Q : VK} (h : UpE K κ (ifE c fa fb) σ H Q) : tIf (UpT K κ c) (UpE K κ fa) (UpE K κ fb) σ H Q := by
  obtain ⟨ι, δ, G, b, δ', G', s, eq, k⟩ := h
  obtain ⟨x, δ1, G1, e1, eq⟩ := bd_inv eq
  refine ⟨ι, δ, G, x, δ1, G1, s, e1, fun ι1 H1 s1 st => ?_⟩
  cases x with
  | true => rw [if_pos rfl] at eq ⊢; exact UpE.go s1 st eq k
  | false => rw [if_neg Bool.false_ne_true] at eq ⊢; exact UpE.go s1 st eq k
inductive Fl where
  | nx (δ : De) (G : List M) | rt (x : Vl) (G : List M) | bk (δ : De) (G : List M) | ct (δ : De) (G : List M)
abbrev SF := De → List M → Option Fl
def EndOk (K : PySem.W.Frag) (κ : Str → Addr) (ι fp : List Addr) (H : Hp) (D : Ends) : Fl → Prop
  | .nx δ' G' => ∀ σ' ι' H', SR K κ ι' H' σ' δ' G' → Step ι fp H ι' (own σ' δ' ++ ι') H' → D.nx σ' H'
  | .bk δ' G' => ∀ σ' ι' H', SR K κ ι' H' σ' δ' G' → Step ι fp H ι' (own σ' δ' ++ ι') H' → D.bk σ' H'
  | .ct δ' G' => ∀ σ' ι' H', SR K κ ι' H' σ' δ' G' → Step ι fp H ι' (own σ' δ' ++ ι') H' → D.ct σ' H'
  | .rt x G' => ∀ v ι' H', SR K κ ι' H' [some v] [some x] G' → Step ι fp H ι' (own [some v] [some x] ++ ι') H' → D.rt v H'
def UpS (K : PySem.W.Frag) (κ : Str → Addr) (f : SF) : TS := fun D σ H => ∃ ι δ G fl, SR K κ ι H σ δ G ∧ f δ G = some fl ∧ EndOk K κ ι (own σ δ ++ ι) H D fl
theorem EndOk.step {D : Ends} {fl : Fl} {fq : List Addr} (st : Step ι fp H ι1 fq H1) (h : EndOk K κ ι fp H D fl) : EndOk K κ ι1 fq H1 D fl := by
  cases fl with
  | nx δ' G' => exact fun σ' ι' H' s t => h σ' ι' H' s (st.trans t)
  | bk δ' G' => exact fun σ' ι' H' s t => h σ' ι' H' s (st.trans t)
  | ct δ' G' => exact fun σ' ι' H' s t => h σ' ι' H' s (st.trans t)
  | rt x G' => exact fun v ι' H' s t => h v ι' H' s (st.trans t)
theorem UpS.of {f : SF} {D : Ends} {fl : Fl} (s : SR K κ ι1 H1 σ δ1 G1) (st : Step ι fp H ι1 (own σ δ1 ++ ι1) H1) (eq : f δ1 G1 = some fl) (k : EndOk K κ ι fp H D fl) : UpS K κ f D σ H1 := ⟨ι1, δ1, G1, fl, s, eq, k.step st⟩
def skipF : SF := fun δ G => some (.nx δ G)
def seqF (a b : SF) : SF := fun δ G => match a δ G with
  | some (.nx δ1 G1) => b δ1 G1
  | r => r
theorem up_skip {D : Ends} (h : UpS K κ skipF D σ H) : tNext D σ H := by
  obtain ⟨ι, δ, G, fl, s, eq, k⟩ := h
  cases eq
  exact k _ _ _ s (Step.refl _ _ _)
theorem up_seq {a b : SF} {D : Ends} (h : UpS K κ (seqF a b) D σ H) : tSeq (UpS K κ a) (UpS K κ b) D σ H := by
  obtain ⟨ι, δ, G, fl, s, eq, k⟩ := h
  unfold seqF at eq
  split at eq
  · rename_i δ1 G1 e1
    exact ⟨ι, δ, G, _, s, e1, fun σ' ι' H' s' t => UpS.of s' t eq k⟩
  · rename_i r hn
    cases fl with
    | nx δ' G' => exact absurd eq (hn δ' G')
    | bk δ' G' => exact ⟨ι, δ, G, _, s, eq, k⟩
    | ct δ' G' => exact ⟨ι, δ, G, _, s, eq, k⟩
    | rt x G' => exact ⟨ι, δ, G, _, s, eq, k⟩
def iteF' (c : Mo Bool) (a b : SF) : SF := fun δ G => match c δ G with
  | some (true, δ1, G1) => a δ1 G1
  | some (false, δ1, G1) => b δ1 G1
  | none => none
theorem up_if {c : Mo Bool} {a b : SF} {D : Ends} (h : UpS K κ (iteF' c a b) D σ H) : tIfS (UpT K κ c) (UpS K κ a) (UpS K κ b) D σ H := by
  obtain ⟨ι, δ, G, fl, s, eq, k⟩ := h
  unfold iteF' at eq
  split at eq
  · rename_i δ1 G1 e1
    exact ⟨ι, δ, G, true, δ1, G1, s, e1, fun ι' H' s' t => by dsimp only; rw [if_pos rfl]; exact UpS.of s' t eq k⟩
  · rename_i δ1 G1 e1
    exact ⟨ι, δ, G, false, δ1, G1, s, e1, fun ι' H' s' t => by dsimp only; rw [if_neg Bool.false_ne_true]; exact UpS.of s' t eq k⟩
  · cases eq
def dropF (f : Mo Ev) : SF := fun δ G => match f δ G with
  | some (_, δ1, G1) => some (.nx δ1 G1)
  | none => none
theorem up_drop {f : Mo Ev} {D : Ends} (h : UpS K κ (dropF f) D σ H) : tDrop (UpE K κ f) D σ H := by
  obtain ⟨ι, δ, G, fl, s, eq, k⟩ := h
  unfold dropF at eq
  split at eq
  · rename_i e δ1 G1 e1
    cases eq
    refine ⟨ι, δ, G, e, δ1, G1, s, e1, fun v ι' H' a => ?_⟩
    obtain ⟨p, q⟩ := a.drop
    exact k _ _ _ p q
  · cases eq
/-- the last temporary alone -/
theorem SR.last {v : V} {x : Vl} (h : SR K κ ι H (σ ++ [some v]) (δ ++ [some x]) G) (l : σ.length = δ.length) : SR K κ ι H [some v] [some x] G ∧ ∀ a, a ∈ own [some v] [some x] ++ ι → a ∈ own (σ ++ [some v]) (δ ++ [some x]) ++ ι := by
  obtain ⟨p, q⟩ := paired_split l h.sl
  refine ⟨⟨q, h.gs, fun a => ?_⟩, fun a ha => ?_⟩
  · have := h.nd a
    rw [own_app _ _ l] at this
    simp only [cnt, List.count_append] at this ⊢
    omega
  · rw [own_app _ _ l]
    simp only [List.mem_append] at ha ⊢
    rcases ha with ha | ha
    · exact .inl (.inr ha)
    · exact .inr ha
def retF (f : Mo Ev) : SF := fun δ G => match movF f δ G with
  | some (.v x, _, G1) => some (.rt x G1)
  | _ => none
theorem up_ret {f : Mo Ev} {D : Ends} (h : UpS K κ (retF f) D σ H) : tRet (UpE K κ f) D σ H := by
  obtain ⟨ι, δ, G, fl, s, eq, k⟩ := h
  unfold retF at eq
  split at eq
  · rename_i x δ1 G1 e1
    cases eq
    refine up_mov ⟨ι, δ, G, _, δ1, G1, s, e1, fun v ι' H' a => ?_⟩
    obtain ⟨p, q⟩ := SR.last a.ar.sr a.ar.l
    exact k _ _ _ p (a.st.sub q)
  · cases eq
def retN : SF := fun _ G => some (.rt (.im .non) G)
/-- a value goes into names -/
abbrev GF := Vl → De → List M → Option (De × List M)
def UpG (K : PySem.W.Frag) (κ : Str → Addr) (g : GF) : TG := fun v σ H Q => ∃ ι δ G x δ' G', σ.length = δ.length ∧ SR K κ ι H (σ ++ [some v]) (δ ++ [some x]) G ∧ g x δ G = some (δ', G') ∧
  ∀ σ' ι' H', SR K κ ι' H' σ' δ' G' → Step ι (own (σ ++ [some v]) (δ ++ [some x]) ++ ι) H ι' (own σ' δ' ++ ι') H' → Q σ' H'
def gNm (i : Nat) : GF := fun x δ G => some (δ.set i (some x), G)
theorem up_gnm {i : Nat} {v : V} {Q : St → Hp → Prop} (h : UpG K κ (gNm i) v σ H Q) : gName i v σ H Q := by
  obtain ⟨ι, δ, G, x, δ', G', l, s, eq, k⟩ := h
  cases eq
  exact k _ _ _ (s.store l) ((Step.refl _ _ _).sub fun a ha => own_store l ha)
def setIs : List Nat → List I → De → Option De
  | [], [], δ => some δ
  | i :: is, d :: ds, δ => setIs is ds (δ.set i (some (.im d)))
  | _, _, _ => none
def gNms (is : List Nat) : GF := fun x δ G => match x with
  | .im (.tup ds) => (setIs is ds δ).map fun δ' => (δ', G)
  | _ => none
/-- names, in a row -/
def gRow (is : List Nat) : TGs := is.foldr (fun i t => gCons (gName i) t) gNil
theorem row_ok : ∀ {is : List Nat} {ds : List I} {vs : List V} {σ : St} {δ δ' : De} {Q : St → Hp → Prop}, RpIs K ι H vs ds → setIs is ds δ = some δ' → SR K κ ι H σ δ G →
    (∀ σ', SR K κ ι H σ' δ' G → (∀ a, a ∈ own σ' δ' → a ∈ own σ δ) → Q σ' H) → gRow is vs σ H Q
  | [], [], _, _, _, _, _, r, e, s, k => by
    cases r; cases e
    exact ⟨rfl, k _ s fun _ h => h⟩
  | i :: is, d :: ds, _, σ, δ, δ', Q, .cons r rs, e, s, k => by
    refine ⟨_, _, rfl, ?_⟩
    have s1 := (s.push_im r).store (i := i) s.len
    refine row_ok (is := is) rs e s1 fun σ' s' sub => k σ' s' fun a ha => ?_
    have h1 := sub a ha
    have : a ∈ own (σ ++ [some _]) (δ ++ [some (.im d)]) ++ [] := own_store (i := i) s.len (List.mem_append_left _ h1)
    rw [own_im s.len, List.append_nil] at this
    exact this
  | [], _ :: _, _, _, _, _, _, _, e, _, _ => by cases e
  | _ :: _, [], _, _, _, _, _, _, e, _, _ => by cases e
theorem setIs_len : ∀ {is : List Nat} {ds : List I} {δ δ' : De}, setIs is ds δ = some δ' → ds.length = is.length
  | [], [], _, _, _ => rfl
  | i :: is, d :: ds, δ, _, e => by rw [List.length_cons, List.length_cons, setIs_len (is := is) (ds := ds) e]
  | [], _ :: _, _, _, e => by cases e
  | _ :: _, [], _, _, e => by cases e
theorem up_gnms {is : List Nat} {v : V} {Q : St → Hp → Prop} (h : UpG K κ (gNms is) v σ H Q) : gTup K is.length (gRow is) v σ H Q := by
  obtain ⟨ι, δ, G, x, δ', G', l, s, eq, k⟩ := h
  unfold gNms at eq
  split at eq
  · rename_i ds
    cases q : setIs is ds δ with
    | none => rw [q] at eq; cases eq
    | some δ2 =>
      rw [q] at eq
      cases eq
      have r := tsd (es := [.v (.im (.tup ds))]) (vs := [v]) (paired_split l s.sl).2 (j := 0) rfl rfl
      cases r with
      | im r =>
        cases r with
        | tup h1 h2 =>
          refine ⟨_, _, rfl, SqT.of h1, by rw [h2.len]; exact setIs_len q, row_ok h2 q (s.pop l) fun σ' s' sub => k _ _ _ s' ((Step.refl _ _ _).sub fun a ha => ?_)⟩
          rw [own_im l]
          simp only [List.mem_append] at ha ⊢
          rcases ha with ha | ha
          · exact .inl (sub a ha)
          · exact .inr ha
  · cases eq
def asgF (f : Mo Ev) (g : GF) : SF := fun δ G => match movF f δ G with
  | some (.v x, δ1, G1) => match g x δ1 G1 with
    | some (δ2, G2) => some (.nx δ2 G2)
    | none => none
  | _ => none
theorem up_asg {f : Mo Ev} {g : GF} {D : Ends} (h : UpS K κ (asgF f g) D σ H) : tAsg (UpE K κ f) (UpG K κ g) D σ H := by
  obtain ⟨ι, δ, G, fl, s, eq, k⟩ := h
  unfold asgF at eq
  split at eq
  · rename_i x δ1 G1 e1
    split at eq
    · rename_i δ2 G2 e2
      cases eq
      refine up_mov ⟨ι, δ, G, _, δ1, G1, s, e1, fun v ι' H' a => ?_⟩
      exact ⟨ι', δ1, G1, x, δ2, G2, a.ar.l, a.ar.sr, e2, fun σ' ι2 H2 s2 st => k _ _ _ s2 (a.st.trans st)⟩
    · cases eq
  · cases eq
end
end B
namespace B
open PySem L2
section
variable {K : PySem.W.Frag} {κ : Str → Addr} {ι ι1 ι2 fp : List Addr} {H H1 H2 : Hp} {σ : St} {δ δ1 δ2 : De} {G G1 G2 : List M} {es fs : List Ev} {vs ws : List V}
/-- at most n turns -/
def whN (c : Mo Bool) (b : SF) : Nat → SF
  | 0, _, _ => none
  | n + 1, δ, G => match c δ G with
    | some (true, δ1, G1) => match b δ1 G1 with
      | some (.nx δ2 G2) => whN c b n δ2 G2
      | some (.ct δ2 G2) => whN c b n δ2 G2
      | some (.bk δ2 G2) => some (.nx δ2 G2)
      | some (.rt x G2) => some (.rt x G2)
      | none => none
    | some (false, δ1, G1) => some (.nx δ1 G1)
    | none => none
theorem whN_mono {c : Mo Bool} {b : SF} : ∀ {n : Nat} {δ : De} {G : List M} {fl : Fl}, whN c b n δ G = some fl → whN c b (n + 1) δ G = some fl
  | 0, _, _, _, h => by cases h
  | n + 1, δ, G, fl, h => by
    unfold whN at h ⊢
    cases e : c δ G with
    | none => rw [e] at h; cases h
    | some r =>
      obtain ⟨t, δ1, G1⟩ := r
      rw [e] at h
      cases t with
      | false => exact h
      | true =>
        cases e2 : b δ1 G1 with
        | none => dsimp only at h; rw [e2] at h; cases h
        | some fl2 =>
          dsimp only at h
          rw [e2] at h
          dsimp only
          rw [e2]
          cases fl2 with
          | nx δ2 G2 => exact whN_mono h
          | ct δ2 G2 => exact whN_mono h
          | bk δ2 G2 => exact h
          | rt x G2 => exact h
theorem whN_le {c : Mo Bool} {b : SF} {δ : De} {G : List M} {fl : Fl} {n m : Nat} (h : whN c b n δ G = some fl) (l : n ≤ m) : whN c b m δ G = some fl := by
  induction l with
  | refl => exact h
  | step _ ih => exact whN_mono ih
open Classical in
noncomputable def whF (c : Mo Bool) (b : SF) : SF := fun δ G => if h : ∃ n fl, whN c b n δ G = some fl then some (choose (choose_spec h)) else none
theorem whF_of {c : Mo Bool} {b : SF} {δ : De} {G : List M} {fl : Fl} {n : Nat} (h : whN c b n δ G = some fl) : whF c b δ G = some fl := by
  have ex : ∃ n fl, whN c b n δ G = some fl := ⟨n, fl, h⟩
  unfold whF
  rw [dif_pos ex]
  have q := Classical.choose_spec (Classical.choose_spec ex)
  have h1 := whN_le h (Nat.le_max_left n (Classical.choose ex))
  have h2 := whN_le q (Nat.le_max_right n (Classical.choose ex))
  rw [h1] at h2
  exact h2.symm
theorem whF_inv {c : Mo Bool} {b : SF} {δ : De} {G : List M} {fl : Fl} (h : whF c b δ G = some fl) : ∃ n, whN c b n δ G = some fl := by
  unfold whF at h
  split at h
  · rename_i ex
    have q := Classical.choose_spec (Classical.choose_spec ex)
    cases h
    exact ⟨_, q⟩
  · cases h
/-- a turn that goes on -/
theorem whF_next {c : Mo Bool} {b : SF} {δ δ1 δ2 : De} {G G1 G2 : List M} (h1 : c δ G = some (true, δ1, G1)) (h2 : b δ1 G1 = some (.nx δ2 G2)) : whF c b δ G = whF c b δ2 G2 := by
  cases e : whF c b δ2 G2 with
  | some fl =>
    obtain ⟨n, hn⟩ := whF_inv e
    refine whF_of (n := n + 1) ?_
    unfold whN
    rw [h1]; dsimp only; rw [h2]; exact hn
  | none =>
    cases e' : whF c b δ G with
    | none => rfl
    | some fl =>
      obtain ⟨n, hn⟩ := whF_inv e'
      cases n with
      | zero => cases hn
      | succ n =>
        unfold whN at hn
        rw [h1] at hn; dsimp only at hn; rw [h2] at hn
        have := whF_of hn
        rw [e] at this; cases this
theorem whF_done {c : Mo Bool} {b : SF} {δ δ1 : De} {G G1 : List M} (h1 : c δ G = some (false, δ1, G1)) : whF c b δ G = some (.nx δ1 G1) := by
  refine whF_of (n := 1) ?_
  unfold whN
  rw [h1]
theorem up_while {c : Mo Bool} {b : SF} {D : Ends} (h : UpS K κ (whF c b) D σ H) : tWhile (UpT K κ c) (UpS K κ b) D σ H := by
  obtain ⟨ι, δ, G, fl, s, eq, k⟩ := h
  obtain ⟨n, hn⟩ := whF_inv eq
  refine ⟨fun m σ' H' => ∃ ι' δ' G', SR K κ ι' H' σ' δ' G' ∧ Step ι (own σ δ ++ ι) H ι' (own σ' δ' ++ ι') H' ∧ whN c b m δ' G' = some fl, ⟨n, ι, δ, G, s, Step.refl _ _ _, hn⟩, ?_⟩
  rintro m σ' H' ⟨ι', δ', G', s', st, e⟩
  cases m with
  | zero => cases e
  | succ m =>
    unfold whN at e
    split at e
    · rename_i δ1 G1 e1
      refine ⟨ι', δ', G', true, δ1, G1, s', e1, fun ι1 H1 s1 st1 => ?_⟩
      dsimp only
      rw [if_pos rfl]
      refine ⟨fun σ2 H2 => ∃ ι2 δ2 G2, SR K κ ι2 H2 σ2 δ2 G2 ∧ Step ι (own σ δ ++ ι) H ι2 (own σ2 δ2 ++ ι2) H2 ∧ whN c b m δ2 G2 = some fl, fun σ2 H2 q => ⟨m, Nat.lt_succ_self _, q⟩, ?_⟩
      split at e
      · rename_i δ2 G2 e2
        exact ⟨ι1, δ1, G1, _, s1, e2, fun σ2 ι2 H2 s2 st2 => ⟨ι2, δ2, G2, s2, (st.trans st1).trans st2, e⟩⟩
      · rename_i δ2 G2 e2
        exact ⟨ι1, δ1, G1, _, s1, e2, fun σ2 ι2 H2 s2 st2 => ⟨ι2, δ2, G2, s2, (st.trans st1).trans st2, e⟩⟩
      · rename_i δ2 G2 e2
        cases e
        exact ⟨ι1, δ1, G1, _, s1, e2, fun σ2 ι2 H2 s2 st2 => k _ _ _ s2 ((st.trans st1).trans st2)⟩
      · rename_i x G2 e2
        cases e
        exact ⟨ι1, δ1, G1, _, s1, e2, fun v ι2 H2 s2 st2 => k _ _ _ s2 ((st.trans st1).trans st2)⟩
      · cases e
    · rename_i δ1 G1 e1
      cases e
      refine ⟨ι', δ', G', false, δ1, G1, s', e1, fun ι1 H1 s1 st1 => ?_⟩
      dsimp only
      rw [if_neg Bool.false_ne_true]
      exact k _ _ _ s1 (st.trans st1)
    · cases e
/-- what is walked: its items by their places in the state; how many; what is laid for a turn stays pure -/
structure Wk where
  n : Nat
  at_ : Nat → De → List M → Option I
  fin : De → List M → Bool
/-- an iterator is told by w: at turn i of n its next item is w.at_ i; the temporaries of what is walked lie beside the slots -/
structure Walks (K : PySem.W.Frag) (κ : Str → Addr) (J : It) (τ : St) (θ : De) (w : Wk) : Prop where
  go : ∀ {i : Nat} {d : I} {ι : List Addr} {H : Hp} {σ : St} {δ : De} {G : List M}, i < w.n → w.at_ i δ G = some d → σ.length = δ.length → SR K κ ι H (σ ++ τ) (δ ++ θ) G → J.go i H ∧ ∀ x H', J.yld i H x H' → Same H H' ∧ RpI K ι H' x d
  stop : ∀ {ι : List Addr} {H : Hp} {σ : St} {δ : De} {G : List M}, w.fin δ G = true → σ.length = δ.length → SR K κ ι H (σ ++ τ) (δ ++ θ) G → J.stop w.n H
/-- the turns from i on, r of them -/
def fTurns (w : Wk) (g : GF) (b : SF) : Nat → Nat → SF
  | i, 0, δ, G => if w.fin δ G then some (.nx δ G) else none
  | i, r + 1, δ, G => match w.at_ i δ G with
    | some d => match g (.im d) δ G with
      | some (δ1, G1) => match b δ1 G1 with
        | some (.nx δ2 G2) => fTurns w g b (i + 1) r δ2 G2
        | some (.ct δ2 G2) => fTurns w g b (i + 1) r δ2 G2
        | some (.bk δ2 G2) => some (.nx δ2 G2)
        | some (.rt x G2) => some (.rt x G2)
        | none => none
      | none => none
    | none => none
/-- an iterable: how it comes to be walked -/
abbrev IF := De → List M → Option (Wk × List Ev × De × List M)
def UpI (K : PySem.W.Frag) (κ : Str → Addr) (f : IF) : TI := fun σ H R => ∃ ι δ G w es δ' G', SR K κ ι H σ δ G ∧ f δ G = some (w, es, δ', G') ∧
  ∀ J vs ι' H', After K κ σ ι (own σ δ ++ ι) H es δ' G' vs ι' H' → Walks K κ J (tS es vs) (tD es) w → R J H'
def forF (f : IF) (g : GF) (b : SF) : SF := fun δ G => match f δ G with
  | some (w, _, δ1, G1) => fTurns w g b 0 w.n δ1 G1
  | none => none
theorem up_for {f : IF} {g : GF} {b : SF} {D : Ends} (h : UpS K κ (forF f g b) D σ H) : tFor (UpI K κ f) (UpG K κ g) (UpS K κ b) D σ H := by
  obtain ⟨ι, δ, G, fl, s, eq, k⟩ := h
  unfold forF at eq
  split at eq
  · rename_i w es δ1 G1 e1
    refine ⟨ι, δ, G, w, es, δ1, G1, s, e1, fun J vs ι1 H1 a wk => ?_⟩
    refine ⟨fun i m σ' H' => i + m = w.n ∧ ∃ ι' δ' G', σ'.length = δ'.length ∧ SR K κ ι' H' (σ' ++ tS es vs) (δ' ++ tD es) G' ∧ Step ι (own σ δ ++ ι) H ι' (own (σ' ++ tS es vs) (δ' ++ tD es) ++ ι') H' ∧ fTurns w g b i m δ' G' = some fl,
      ⟨w.n, by omega, ι1, δ1, G1, a.ar.l, a.ar.sr, a.st, eq⟩, ?_⟩
    rintro i m σ' H' ⟨him, ι', δ', G', l, s', st, e⟩
    have sub : ∀ a, a ∈ own σ' δ' ++ ι' → a ∈ own (σ' ++ tS es vs) (δ' ++ tD es) ++ ι' := fun a ha => own_sub l ha
    cases m with
    | zero =>
      have hi : i = w.n := by omega
      subst hi
      unfold fTurns at e
      split at e
      · rename_i hf
        cases e
        exact .inl ⟨wk.stop hf l s', k _ _ _ (s'.pop l) (st.sub sub)⟩
      · cases e
    | succ m =>
      unfold fTurns at e
      split at e
      · rename_i d hd
        obtain ⟨go, yl⟩ := wk.go (by omega) hd l s'
        refine .inr ⟨go, fun σ2 H2 => ∃ ι2 δ2 G2, σ2.length = δ2.length ∧ SR K κ ι2 H2 (σ2 ++ tS es vs) (δ2 ++ tD es) G2 ∧ Step ι (own σ δ ++ ι) H ι2 (own (σ2 ++ tS es vs) (δ2 ++ tD es) ++ ι2) H2 ∧ fTurns w g b (i + 1) m δ2 G2 = some fl,
          fun σ2 H2 q => ⟨m, Nat.lt_succ_self _, by omega, q⟩, fun x H3 hy => ?_⟩
        obtain ⟨sm, rx⟩ := yl x H3 hy
        have s3 := s'.same sm
        have st3 := st.trans (Step.same (ι := ι') (fp := own (σ' ++ tS es vs) (δ' ++ tD es) ++ ι') sm)
        split at e
        · rename_i δ4 G4 e4
          have p := (s3.pop l).push_im rx
          -- behind the target
          refine ⟨ι', δ', G', .im d, δ4, G4, l, p, e4, fun σ4 ι4 H4 s4 st4 => ?_⟩
          rw [own_im l] at st4
          -- the temporaries lie beside it
          have jn : ∀ {σ5 : St} {δ5 : De} {G5 : List M} {ι5 : List Addr} {H5 : Hp}, SR K κ ι5 H5 σ5 δ5 G5 → Step ι4 (own σ4 δ4 ++ ι4) H4 ι5 (own σ5 δ5 ++ ι5) H5 →
              SR K κ ι5 H5 (σ5 ++ tS es vs) (δ5 ++ tD es) G5 ∧ Step ι (own σ δ ++ ι) H ι5 (own (σ5 ++ tS es vs) (δ5 ++ tD es) ++ ι5) H5 := fun {σ5 δ5 G5 ι5 H5} s5 st5 => by
            have j := SR.join (τ2 := []) (θ2 := []) (σ := σ5) (δ2 := δ5) (ι2 := ι5) (H2 := H5) (G2 := G5) s3 l (by rw [List.append_nil, List.append_nil]; exact s5) s5.len (by rw [List.append_nil, List.append_nil]; exact st4.trans st5)
            rw [List.append_nil, List.append_nil] at j
            exact ⟨j.1, st3.trans j.2⟩
          split at e
          · rename_i δ5 G5 e5
            exact ⟨ι4, δ4, G4, _, s4, e5, fun σ5 ι5 H5 s5 st5 => ⟨ι5, δ5, G5, s5.len, (jn s5 st5).1, (jn s5 st5).2, e⟩⟩
          · rename_i δ5 G5 e5
            exact ⟨ι4, δ4, G4, _, s4, e5, fun σ5 ι5 H5 s5 st5 => ⟨ι5, δ5, G5, s5.len, (jn s5 st5).1, (jn s5 st5).2, e⟩⟩
          · rename_i δ5 G5 e5
            cases e
            exact ⟨ι4, δ4, G4, _, s4, e5, fun σ5 ι5 H5 s5 st5 => k _ _ _ s5 ((jn s5 st5).2.sub fun a ha => own_sub s5.len ha)⟩
          · rename_i x5 G5 e5
            cases e
            refine ⟨ι4, δ4, G4, _, s4, e5, fun v ι5 H5 s5 st5 => k _ _ _ s5 ((jn s5 st5).2.sub fun a ha => own_sub s5.len ha)⟩
          · cases e
        · cases e
      · cases e
  · cases eq
end
end B
namespace B
open PySem L2
section
variable {K : PySem.W.Frag} {κ : Str → Addr} {ι ι1 ι2 fp : List Addr} {H H1 H2 : Hp} {σ τ : St} {δ δ1 δ2 θ : De} {G G1 G2 : List M} {es fs : List Ev} {vs ws : List V}
theorem own_swap {a : Addr} (l : σ.length = δ.length) (l2 : τ.length = θ.length) : cnt a (own (τ ++ σ) (θ ++ δ)) = cnt a (own (σ ++ τ) (δ ++ θ)) := by
  rw [own_app _ _ l, own_app _ _ l2]
  simp only [cnt, List.count_append]
  omega
theorem SR.swap (h : SR K κ ι H (σ ++ τ) (δ ++ θ) G) (l : σ.length = δ.length) : SR K κ ι H (τ ++ σ) (θ ++ δ) G := by
  obtain ⟨p, q⟩ := paired_split l h.sl
  exact ⟨paired_app q p, h.gs, fun a => by rw [own_swap l (Paired.length q)]; exact h.nd a⟩
theorem mem_swap {a : Addr} {l1 : List Addr} (l : σ.length = δ.length) (l2 : τ.length = θ.length) (h : a ∈ own (τ ++ σ) (θ ++ δ) ++ l1) : a ∈ own (σ ++ τ) (δ ++ θ) ++ l1 := by
  simp only [List.mem_append] at h ⊢
  rcases h with h | h
  · left; rw [cnt_pos] at h ⊢; rw [← own_swap l l2]; exact h
  · exact .inr h
abbrev FF := List Vl → List M → Option (Vl × List M)
def UpF (K : PySem.W.Frag) (κ : Str → Addr) (n : Nat) (fn : FF) : Sp := fun vs H Q _ => ∃ ι xs G x G', xs.length = n ∧ SR K κ ι H (vs.map some) (xs.map some) G ∧ fn xs G = some (x, G') ∧
  ∀ v ι' H', SR K κ ι' H' [some v] [some x] G' → Step ι (own (vs.map some) (xs.map some) ++ ι) H ι' (own [some v] [some x] ++ ι') H' → Q v H'
def vlA : List Ev → Option (List Vl)
  | [] => some []
  | .v x :: es => (vlA es).map (x :: ·)
  | .s _ :: _ => none
def callP (n : Nat) (fn : FF) : List Ev → Mo Ev := fun es δ G => match vlA es with
  | some xs => if xs.length = n then match fn xs G with
    | some (x, G') => some (.v x, δ, G')
    | none => none
    else none
  | none => none
theorem vlA_ts : ∀ {es : List Ev} {vs : List V} {xs : List Vl}, vlA es = some xs → es.length = vs.length → tS es vs = vs.map some ∧ tD es = xs.map some
  | [], [], _, h, _ => by cases h; exact ⟨rfl, rfl⟩
  | [], _ :: _, _, _, l => by cases l
  | _ :: _, [], _, _, l => by cases l
  | .s i :: _, _ :: _, _, h, _ => by cases h
  | .v x :: es, v :: vs, xs, h, l => by
    have h : (vlA es).map (x :: ·) = some xs := h
    cases e : vlA es with
    | none => rw [e] at h; cases h
    | some ys =>
      rw [e] at h; cases h
      obtain ⟨p, q⟩ := vlA_ts e (by simpa using l)
      exact ⟨by show some v :: tS es vs = _; rw [p]; rfl, by show some x :: tD es = _; rw [q]; rfl⟩
theorem prim_call {n : Nat} {fn : FF} {E : XK} : Prim K κ (fun vs H Q => UpF K κ n fn vs H Q E) (callP n fn) := by
  intro ι H σ δ G es vs e δ' G' Q a h k
  unfold callP at h
  split at h
  · rename_i xs hx
    split at h
    · rename_i hl
      split at h
      · rename_i x G1 e1
        cases h
        obtain ⟨t1, t2⟩ := vlA_ts hx a.len
        have sr := a.sr
        rw [t1, t2] at sr k
        have sw := sr.swap a.l
        have lt : (vs.map some).length = (xs.map some).length := Paired.length (paired_split a.l sr.sl).2
        refine ⟨ι, xs, G, x, _, hl, sw.pop lt, e1, fun v ι' H' s st => ?_⟩
        have s' : SR K κ ι' H' ([some v] ++ []) ([some x] ++ []) _ := s
        obtain ⟨j1, j2⟩ := SR.join (σ0 := vs.map some) (δ1 := xs.map some) (σ := [some v]) (δ2 := [some x]) (τ2 := []) (θ2 := []) sw lt s' rfl st
        rw [List.append_nil, List.append_nil] at j1 j2
        refine k v ι' H' ⟨⟨a.l, j1.swap rfl, .cons (fun _ h => by cases h) .nil⟩, (j2.wide fun y hy => mem_swap a.l lt hy).sub fun y hy => ?_⟩
        exact mem_swap (σ := [some v]) (δ := [some x]) (τ := σ) (θ := δ) rfl a.l hy
      · cases h
    · cases h
  · cases h
/-- a def's body, from its arguments; N names in all -/
def runF (n r : Nat) (body : SF) : FF := fun xs G => if xs.length = n then match body (xs.map some ++ List.replicate r none) G with
  | some (.rt x G') => some (x, G')
  | some (.nx _ G') => some (.im .non, G')
  | _ => none
  else none
theorem paired_no : ∀ (r : Nat), Paired (RpE K κ ι H) (List.replicate r none) (List.replicate r none)
  | 0 => .nil
  | r + 1 => .cons (.no _) (paired_no r)
theorem own_no : ∀ (r : Nat), own (List.replicate r none) (List.replicate r none) = []
  | 0 => rfl
  | r + 1 => own_no r
theorem SR.nones (h : SR K κ ι H σ δ G) (r : Nat) : SR K κ ι H (σ ++ List.replicate r none) (δ ++ List.replicate r none) G ∧ own (σ ++ List.replicate r none) (δ ++ List.replicate r none) = own σ δ := by
  have e : own (σ ++ List.replicate r none) (δ ++ List.replicate r none) = own σ δ := by rw [own_app _ _ h.len, own_no, List.append_nil]
  exact ⟨⟨paired_app h.sl (paired_no r), h.gs, fun a => by rw [e]; exact h.nd a⟩, e⟩
theorem up_run {n r : Nat} {body : SF} {E : XK} {Q : VK} (h : UpF K κ n (runF n r body) vs H Q E) : vs.length = n ∧ UpS K κ body { nx := fun _ H' => Q .non H', rt := Q } (vs.map some ++ List.replicate r none) H := by
  obtain ⟨ι, xs, G, x, G', hl, s, eq, k⟩ := h
  have lv : vs.length = n := by have := s.len; rw [List.length_map, List.length_map] at this; omega
  refine ⟨lv, ?_⟩
  unfold runF at eq
  rw [if_pos hl] at eq
  obtain ⟨s0, e0⟩ := s.nones r
  split at eq
  · rename_i x' G1 e1
    cases eq
    refine ⟨ι, _, G, _, s0, e1, ?_⟩
    rw [e0]
    exact fun v ι' H' s' st => k v ι' H' s' st
  · rename_i δ1 G1 e1
    cases eq
    refine ⟨ι, _, G, _, s0, e1, ?_⟩
    rw [e0]
    intro σ' ι' H' s' st
    obtain ⟨p, q⟩ := SR.last (s'.push_im .non) s'.len
    refine k _ _ _ p (st.sub fun a ha => ?_)
    have := q a ha
    rw [own_im s'.len] at this
    exact this
  · cases eq
def PrimI (K : PySem.W.Frag) (κ : Str → Addr) (r : List V → Hp → (It → Hp → Prop) → Prop) (p : List Ev → De → List M → Option Wk) : Prop :=
  ∀ (ι : List Addr) (H : Hp) (σ : St) (δ : De) (G : List M) (es : List Ev) (vs : List V) (w : Wk) (R : It → Hp → Prop), Args K κ ι H σ δ G es vs → p es δ G = some w →
    (∀ J, Walks K κ J (tS es vs) (tD es) w → R J H) → r vs H R
def itF (fa : Mo (List Ev)) (p : List Ev → De → List M → Option Wk) : IF := fun δ G => match fa δ G with
  | some (es, δ1, G1) => (p es δ1 G1).map fun w => (w, es, δ1, G1)
  | none => none
theorem up_it {r : List V → Hp → (It → Hp → Prop) → Prop} {p : List Ev → De → List M → Option Wk} {fa : Mo (List Ev)} {R : It → Hp → Prop} (hp : PrimI K κ r p) (h : UpI K κ (itF fa p) σ H R) : UpA K κ fa σ H fun vs H1 => r vs H1 R := by
  obtain ⟨ι, δ, G, w, es, δ', G', s, eq, k⟩ := h
  unfold itF at eq
  split at eq
  · rename_i es1 δ1 G1 e1
    cases q : p es1 δ1 G1 with
    | none => rw [q] at eq; cases eq
    | some w' =>
      rw [q] at eq
      cases eq
      exact ⟨ι, δ, G, _, _, _, s, e1, fun vs ι1 H1 a => hp _ _ _ _ _ _ _ _ _ a.ar q fun J wk => k J vs ι1 H1 a wk⟩
  · cases eq
def one (f : Mo Ev) : Mo (List Ev) := bd f fun e => rt [e]
theorem up_one {f : Mo Ev} {Q : VK} (h : UpA K κ (one f) σ H fun vs H1 => ∃ v, vs = [v] ∧ Q v H1) : UpE K κ f σ H Q := by
  obtain ⟨ι, δ, G, es, δ', G', s, eq, k⟩ := h
  obtain ⟨x, δ1, G1, e1, eq⟩ := bd_inv eq
  cases eq
  refine ⟨ι, δ, G, x, _, _, s, e1, fun v ι1 H1 a => ?_⟩
  obtain ⟨v', e', q⟩ := k _ _ _ a
  cases e'
  exact q
/-- range(n) -/
def rng1P : List Ev → De → List M → Option Wk := fun es _ _ => match es with
  | [.v (.im (.int j))] => if j < 2 ^ 62 ∧ -(2 ^ 62) ≤ j then some ⟨j.toNat, fun i _ _ => some (.int i), fun _ _ => true⟩ else none
  | _ => none
theorem walks_range {lo : Int} {n : Nat} {τ : St} {θ : De} : Walks K κ (Itr lo n) τ θ ⟨n, fun i _ _ => some (.int (lo + i)), fun _ _ => true⟩ where
  go := fun hi hd _ _ => by
    cases hd
    refine ⟨hi, fun x H' y => ?_⟩
    obtain ⟨e1, e2⟩ := y
    subst e1; subst e2
    exact ⟨(fun _ _ h => h), .int _⟩
  stop := fun _ _ _ => Nat.le_refl _
theorem prim_rng1 : PrimI K κ (fun vs H R => ∃ j : Int, vs = [.int j] ∧ -(2 ^ 62) ≤ j ∧ j < 2 ^ 62 ∧ R (Itr 0 j.toNat) H) rng1P := by
  intro ι H σ δ G es vs w R a h k
  unfold rng1P at h
  split at h
  · rename_i j
    split at h
    · rename_i hj
      cases h
      obtain ⟨v, rfl⟩ := len1 a.len
      have r := a.im (j := 0) rfl rfl
      cases r
      refine ⟨j, rfl, hj.2, hj.1, k _ ?_⟩
      have := walks_range (K := K) (κ := κ) (lo := 0) (n := j.toNat) (τ := tS [.v (.im (.int j))] [.int j]) (θ := tD [.v (.im (.int j))])
      simpa using this
    · cases h
  · cases h
/-- the items of a list, of a tuple -/
def lsW (e : Ev) (n : Nat) : Wk := ⟨n, fun i δ G => (sq δ G e).bind (·[i]?), fun δ G => match sq δ G e with | some xs => decide (xs.length ≤ n) | none => false⟩
def isL (δ : De) (G : List M) : Ev → Bool
  | .v (.im (.fro _)) => true
  | .v (.im (.ref _)) => true
  | .v (.ow (.lst _)) => true
  | _ => false
def lsP : List Ev → De → List M → Option Wk := fun es δ G => match es with
  | [e] => if isL δ G e then (sq δ G e).map fun xs => lsW e xs.length else none
  | _ => none
def tpP : List Ev → De → List M → Option Wk := fun es δ G => match es with
  | [.v (.im (.tup xs))] => some (lsW (.v (.im (.tup xs))) xs.length)
  | [.v (.im (.con xs))] => some (lsW (.v (.im (.con xs))) xs.length)
  | _ => none
theorem args_one {e : Ev} {v : V} {x : Vl} (he : e = .v x) (l : σ.length = δ.length) (h : SR K κ ι H (σ ++ tS [e] [v]) (δ ++ tD [e]) G) : Args K κ ι H σ δ G [e] [v] := ⟨l, h, .cons (fun i q => by rw [he] at q; cases q) .nil⟩
theorem sqL_of {e : Ev} {v : V} {xs : List I} (a : Args K κ ι H σ δ G [e] [v]) (hl : isL δ G e = true) (h : sq δ G e = some xs) : ∃ b ys, v = .ref b ∧ SqL K H b ys ∧ RpIs K ι H ys xs := by
  cases e with
  | s i => cases hl
  | v x =>
    cases x with
    | ow m =>
      cases m with
      | lst ys =>
        cases h
        obtain ⟨b, e1, zs, h3, r⟩ := a.pk (j := 0) rfl rfl (m := .lst xs) rfl
        exact ⟨b, zs, e1, SqL.of h3, r⟩
      | _ => cases hl
    | im d =>
      cases d with
      | fro ys =>
        cases h
        have r := a.im (j := 0) rfl rfl
        cases r with
        | fro q r => exact ⟨_, _, rfl, q.sq, r⟩
      | ref k =>
        have h : (match pk δ G (.v (.im (.ref k))) with | some (.lst xs) => some xs | _ => none) = some xs := h
        split at h
        · rename_i ys e1
          cases h
          obtain ⟨b, e1, zs, h3, r⟩ := a.pk (j := 0) rfl rfl e1
          exact ⟨b, zs, e1, SqL.of h3, r⟩
        · cases h
      | _ => cases hl
theorem isL_v {e : Ev} (h : isL δ G e = true) : ∃ x, e = .v x := by
  cases e with
  | v x => exact ⟨x, rfl⟩
  | s i => cases h
theorem isL_any {e : Ev} (h : isL δ G e = true) : isL δ1 G1 e = true := by
  cases e with
  | s i => cases h
  | v x =>
    cases x with
    | ow m => cases m <;> first | rfl | cases h
    | im d => cases d <;> first | rfl | cases h
theorem walks_ls {e : Ev} {n : Nat} {b : Addr} (hl : isL δ G e = true) : Walks K κ (Itl K b) (tS [e] [.ref b]) (tD [e]) (lsW e n) where
  go := fun {i d ι H σ δ' G'} hi hd l s => by
    obtain ⟨x, hx⟩ := isL_v hl
    have hd : (sq δ' G' e).bind (·[i]?) = some d := hd
    cases q : sq δ' G' e with
    | none => rw [q] at hd; cases hd
    | some xs =>
      rw [q] at hd
      obtain ⟨b', ys, e1, h1, r⟩ := sqL_of (args_one hx l s) (isL_any hl) q
      cases e1
      obtain ⟨v, hv, rv⟩ := r.get hd
      refine ⟨⟨ys, v, h1, hv⟩, fun x H' y => ?_⟩
      obtain ⟨e2, e3⟩ := y
      subst e2
      have := e3 ys h1
      rw [hv] at this; cases this
      exact ⟨(fun _ _ h => h), rv⟩
  stop := fun {ι H σ δ' G'} hf l s => by
    obtain ⟨x, hx⟩ := isL_v hl
    have hf : (match sq δ' G' e with | some xs => decide (xs.length ≤ n) | none => false) = true := hf
    cases q : sq δ' G' e with
    | none => rw [q] at hf; cases hf
    | some xs =>
      rw [q] at hf
      obtain ⟨b', ys, e1, h1, r⟩ := sqL_of (args_one hx l s) (isL_any hl) q
      cases e1
      exact ⟨ys, h1, by rw [r.len]; exact of_decide_eq_true hf⟩
theorem prim_ls : PrimI K κ (fun vs H R => ∃ v, vs = [v] ∧ ∃ a, v = .ref a ∧ (∃ xs, SqL K H a xs) ∧ R (Itl K a) H) lsP := by
  intro ι H σ δ G es vs w R a h k
  unfold lsP at h
  split at h
  · rename_i e
    split at h
    · rename_i hl
      cases q : sq δ G e with
      | none => rw [q] at h; cases h
      | some xs =>
        rw [q] at h
        cases h
        obtain ⟨v, rfl⟩ := len1 a.len
        obtain ⟨b, ys, e1, h1, r⟩ := sqL_of a hl q
        subst e1
        exact ⟨_, rfl, b, rfl, ⟨ys, h1⟩, k _ (walks_ls hl)⟩
    · cases h
  · cases h
theorem prim_tp : PrimI K κ (fun vs H R => ∃ v, vs = [v] ∧ ∃ a, v = .ref a ∧ (∃ xs, SqT K H a xs) ∧ R (Itt K a) H) tpP := by
  intro ι H σ δ G es vs w R a h k
  unfold tpP at h
  have go : ∀ {x : I} {xs : List I}, (x = .tup xs ∨ x = .con xs) → Args K κ ι H σ δ G [.v (.im x)] vs → sq δ G (.v (.im x)) = some xs → (∀ J, Walks K κ J (tS [.v (.im x)] vs) (tD [.v (.im x)]) (lsW (.v (.im x)) xs.length) → R J H) →
      ∃ v, vs = [v] ∧ ∃ a, v = .ref a ∧ (∃ xs, SqT K H a xs) ∧ R (Itt K a) H := fun {x xs} hx a hq k => by
    have tv : ∀ {ι : List Addr} {H : Hp} {v : V}, RpI K ι H v x → ∃ b ys, v = .ref b ∧ SqT K H b ys ∧ RpIs K ι H ys xs := fun r => by
      rcases hx with rfl | rfl
      · cases r with
        | tup h r => exact ⟨_, _, rfl, SqT.of h, r⟩
      · cases r with
        | con h r => exact ⟨_, _, rfl, SqT.kon h, r⟩
    have sx : ∀ (δ : De) (G : List M), sq δ G (.v (.im x)) = some xs := fun δ G => by rcases hx with rfl | rfl <;> rfl
    obtain ⟨v, rfl⟩ := len1 a.len
    obtain ⟨b, ys, e1, h1, r⟩ := tv (a.im (j := 0) rfl rfl)
    subst e1
    refine ⟨_, rfl, b, rfl, ⟨ys, h1⟩, k _ ⟨fun {i d ι' H' σ' δ' G'} hi hd l s => ?_, fun {ι' H' σ' δ' G'} hf l s => ?_⟩⟩
    · obtain ⟨b', zs, e2, h2, r2⟩ := tv ((args_one (x := .im x) rfl l s).im (j := 0) rfl rfl)
      cases e2
      have hd : (sq δ' G' (.v (.im x))).bind (·[i]?) = some d := hd
      rw [sx] at hd
      have hd : xs[i]? = some d := hd
      obtain ⟨v, hv, rv⟩ := r2.get hd
      refine ⟨⟨zs, v, h2, hv⟩, fun x H' y => ?_⟩
      obtain ⟨e2, e3⟩ := y
      subst e2
      have := e3 zs h2
      rw [hv] at this; cases this
      exact ⟨(fun _ _ h => h), rv⟩
    · obtain ⟨b', zs, e2, h2, r2⟩ := tv ((args_one (x := .im x) rfl l s).im (j := 0) rfl rfl)
      cases e2
      exact ⟨zs, h2, by rw [r2.len]; exact Nat.le_refl _⟩
  split at h
  · cases h
    exact go (.inl rfl) a rfl k
  · cases h
    exact go (.inr rfl) a rfl k
  · cases h
end
end B
namespace B
open PySem L2
section
variable {K : PySem.W.Frag} {κ : Str → Addr} {ι ι1 ι2 fp : List Addr} {H H1 H2 : Hp} {σ τ : St} {δ δ1 δ2 θ : De} {G G1 G2 : List M} {es fs : List Ev} {vs ws : List V}
/-- the slots that are looked at from within become things -/
def boxS : List Nat → Mo Unit
  | [] => rt ()
  | i :: is => fun δ G => match δ[i]? with
    | some (some (.ow m)) => boxS is (δ.set i (some (.im (.ref G.length)))) (G ++ [m])
    | _ => boxS is δ G
theorem boxS_ok : ∀ {ix : List Nat} {δ δ' : De} {G G' : List M} {ι : List Addr} {u : Unit}, boxS ix δ G = some (u, δ', G') → SR K κ ι H σ δ G → ∃ ι', SR K κ ι' H σ δ' G' ∧ Step ι (own σ δ ++ ι) H ι' (own σ δ' ++ ι') H
  | [], _, _, _, _, ι, _, h, s => by cases h; exact ⟨ι, s, Step.refl _ _ _⟩
  | i :: is, δ, δ', G, G', ι, u, h, s => by
    unfold boxS at h
    split at h
    · rename_i m hm
      obtain ⟨a, e1, r⟩ := s.get_ow hm
      have n := After.nil s
      have a1 : After K κ σ ι (own σ δ ++ ι) H [.s i] δ G [.ref a] ι H := ⟨⟨s.len, n.ar.sr, .cons (fun j h => by cases h; exact e1) .nil⟩, n.st⟩
      have hb : bxE (.s i) δ G = some (.v (.im (.ref G.length)), δ.set i (some (.im (.ref G.length))), G ++ [m]) := by unfold bxE; dsimp only; rw [hm]
      obtain ⟨ι2, a2⟩ := after_bx a1 hb
      obtain ⟨s2, st2⟩ := a2.drop
      obtain ⟨ι3, s3, st3⟩ := boxS_ok h s2
      exact ⟨ι3, s3, st2.trans st3⟩
    · exact boxS_ok h s
def inD1 (δ : De) (i : Nat) : Option Vl := match δ[i]? with
  | some (some (.im d)) => some (.im d)
  | _ => none
def inD (ix : List Nat) (δ : De) : De := ix.map (inD1 δ)
def inV (ix : List Nat) (σ : St) : St := ix.map fun i => (σ[i]?).getD none
theorem inner (h : SR K κ ι H σ δ G) : ∀ (ix : List Nat), Paired (RpE K κ ι H) (inV ix σ) (inD ix δ) ∧ own (inV ix σ) (inD ix δ) = []
  | [] => ⟨.nil, rfl⟩
  | i :: ix => by
    obtain ⟨p, q⟩ := inner h ix
    have one : RpE K κ ι H ((σ[i]?).getD none) (inD1 δ i) ∧ own1 ((σ[i]?).getD none) (inD1 δ i) = [] := by
      unfold inD1
      split
      · rename_i d hd
        obtain ⟨v, e, r⟩ := h.get_im hd
        rw [e]
        exact ⟨.im r, own1_im _ _⟩
      · exact ⟨.no _, own1_no _⟩
    refine ⟨.cons one.1 p, ?_⟩
    show own1 _ _ ++ own (inV ix σ) (inD ix δ) = []
    rw [one.2, q]; rfl
theorem ims_slots : ∀ {xs : List V} {ds : List I}, RpIs K ι H xs ds → Paired (RpE K κ ι H) (xs.map some) (ds.map fun d => some (Vl.im d)) ∧ own (xs.map some) (ds.map fun d => some (Vl.im d)) = []
  | _, _, .nil => ⟨.nil, rfl⟩
  | _, _, .cons r rs => by
    obtain ⟨p, q⟩ := ims_slots rs
    refine ⟨.cons (.im r) p, ?_⟩
    show own1 _ _ ++ own _ _ = []
    rw [own1_im, q]; rfl
/-- the turns of a comprehension -/
def cTurns (w : Wk) (c : I → Option (List I)) (tt : Mo Bool) (te : Mo Ev) (di : De) : Nat → Nat → List I → De → List M → Option (List I × List M)
  | i, 0, acc, δ, G => if w.fin δ G then some (acc, G) else none
  | i, r + 1, acc, δ, G => match w.at_ i δ G with
    | some d => match c d with
      | some ds => match tt ((ds.map fun d => some (Vl.im d)) ++ di) G with
        | some (true, δa, Ga) => match te δa Ga with
          | some (.v (.im y), _, Gb) => cTurns w c tt te di (i + 1) r (acc ++ [y]) δ Gb
          | _ => none
        | some (false, _, Ga) => cTurns w c tt te di (i + 1) r acc δ Ga
        | none => none
      | none => none
    | none => none
/-- a target of n names -/
def Tgt (K : PySem.W.Frag) (g : TG) (n : Nat) (c : I → Option (List I)) : Prop := ∀ (ι : List Addr) (H : Hp) (x : V) (d : I) (ds : List I) (σ' : St) (Q : St → Hp → Prop), RpI K ι H x d → c d = some ds →
  ds.length = n ∧ ((∀ xs, RpIs K ι H xs ds → Q (xs.map some ++ σ') H) → g x (List.replicate n none ++ σ') H Q)
def c1 : I → Option (List I) := fun d => some [d]
def cN (n : Nat) : I → Option (List I) := fun d => match d with
  | .tup ds => if ds.length = n then some ds else none
  | _ => none
theorem tgt_1 : Tgt K (gName 0) 1 c1 := by
  intro ι H x d ds σ' Q r h
  cases h
  exact ⟨rfl, fun k => k [x] (.cons r .nil)⟩
theorem rows_set : ∀ (vs : List V) (pre : St) (σ' : St) (Q : St → Hp → Prop), Q (pre ++ (vs.map some ++ σ')) H → gRow ((List.range vs.length).map (pre.length + ·)) vs (pre ++ (List.replicate vs.length none ++ σ')) H Q
  | [], pre, σ', Q, h => ⟨rfl, h⟩
  | v :: vs, pre, σ', Q, h => by
    have e : (List.range (v :: vs).length).map (pre.length + ·) = pre.length :: (List.range vs.length).map ((pre ++ [some v]).length + ·) := by
      rw [List.length_cons, List.range_succ_eq_map, List.map_cons, List.map_map]
      congr 1
      refine List.map_congr_left fun j _ => ?_
      simp
      omega
    rw [e]
    refine ⟨v, vs, rfl, ?_⟩
    show gRow _ vs ((pre ++ (List.replicate (vs.length + 1) none ++ σ')).set pre.length (some v)) H Q
    have e2 : (pre ++ (List.replicate (vs.length + 1) none ++ σ')).set pre.length (some v) = (pre ++ [some v]) ++ (List.replicate vs.length none ++ σ') := by
      rw [List.set_append_right _ _ (Nat.le_refl _), Nat.sub_self, List.replicate_succ]
      simp
    rw [e2]
    refine rows_set vs (pre ++ [some v]) σ' Q ?_
    have e3 : pre ++ [some v] ++ (vs.map some ++ σ') = pre ++ ((v :: vs).map some ++ σ') := by simp
    rw [e3]
    exact h
theorem tgt_n (n : Nat) : Tgt K (gTup K n (gRow (List.range n))) n (cN n) := by
  intro ι H x d ds σ' Q r h
  unfold cN at h
  split at h
  · rename_i xs
    split at h
    · rename_i hl
      cases h
      refine ⟨hl, fun k => ?_⟩
      cases r with
      | @tup a ys _ h1 r =>
        have e := r.len
        refine ⟨a, ys, rfl, SqT.of h1, by omega, ?_⟩
        have q := rows_set (H := H) ys [] σ' Q (k ys r)
        have e1 : (List.range ys.length).map (([] : St).length + ·) = List.range n := by
          rw [e, hl]; simp
        rw [e1] at q
        have e2 : n = ys.length := by omega
        rw [e2]
        rw [← e2] at q ⊢
        exact q
    · cases h
  · cases h
def compF (fi : IF) (ix : List Nat) (c : I → Option (List I)) (tt : Mo Bool) (te : Mo Ev) : Mo Ev := fun δ G => match boxS ix δ G with
  | some (_, δ0, G0) => match fi δ0 G0 with
    | some (w, _, δ1, G1) => if w.n ≤ 100000 then match cTurns w c tt te (inD ix δ1) 0 w.n [] δ1 G1 with
      | some (ds, G2) => some (.v (.ow (.lst ds)), δ1, G2)
      | none => none
      else none
    | none => none
  | none => none
theorem line100 : 100000 < sizeLine := by decide
theorem up_comp {fi : IF} {ix : List Nat} {c : I → Option (List I)} {tt : Mo Bool} {te : Mo Ev} {g : CompAt → TG} {n : Nat} {Q : VK} (hg : ∀ z, Tgt K (g z) n c) (h : UpE K κ (compF fi ix c tt te) σ H Q) :
    tCompG n ix (UpI K κ fi) g (fun _ => UpT K κ tt) (fun _ => UpE K κ te) σ H Q := by
  obtain ⟨ι, δ, G, e, δ', G', s, eq, k⟩ := h
  unfold compF at eq
  split at eq
  · rename_i u δ0 G0 e0
    split at eq
    · rename_i w es δ1 G1 e1
      split at eq
      · rename_i hn
        split at eq
        · rename_i ds G2 e2
          simp only [Option.some.injEq, Prod.mk.injEq] at eq
          obtain ⟨rfl, rfl, rfl⟩ := eq
          obtain ⟨ι0, s0, st0⟩ := boxS_ok e0 s
          refine ⟨ι0, δ0, G0, w, es, δ1, G1, s0, e1, fun J vs ι1 H1 a wk => ?_⟩
          intro D hD
          have lo : (σ ++ tS es vs).length = (δ1 ++ tD es).length := by
            have := a.ar.sr.len; exact this
          refine ⟨fun i m ys H' => i + m = w.n ∧ H' D = some (.lst ys) ∧ ∃ ι' G' acc, SR K κ ι' H' ((σ ++ tS es vs) ++ [some (.ref D)]) ((δ1 ++ tD es) ++ [some (.ow (.lst acc))]) G' ∧
            Step ι (own σ δ ++ ι) H ι' (own ((σ ++ tS es vs) ++ [some (.ref D)]) ((δ1 ++ tD es) ++ [some (.ow (.lst acc))]) ++ ι') H' ∧ acc.length ≤ i ∧ acc.length = ys.length ∧ cTurns w c tt te (inD ix δ1) i m acc δ1 G' = some (ds, G2), ⟨w.n, by omega, upd_same, ι1, G1, [], ?_, ?_, Nat.le_refl _, rfl, e2⟩, ?_⟩
          · exact a.ar.sr.push_ow hD ⟨[], upd_same, .nil⟩
          · exact (st0.trans a.st).trans (Step.lay_ow lo hD)
          · rintro i m ys H' ⟨him, hys, ι', G', acc, s', st, hac, hay, et⟩
            refine ⟨hys, ?_⟩
            have sb := s'.pop lo
            cases m with
            | zero =>
              unfold cTurns at et
              split at et
              · rename_i hf
                cases et
                have hi : i = w.n := by omega
                subst hi
                refine .inl ⟨wk.stop hf a.ar.l sb, ?_⟩
                -- the list alone beside the slots
                have l1 := a.ar.l
                obtain ⟨pa, pc⟩ := paired_split lo s'.sl
                obtain ⟨pa, pb⟩ := paired_split l1 pa
                have lt := Paired.length pb
                have e3 : own ((σ ++ tS es vs) ++ [some (.ref D)]) ((δ1 ++ tD es) ++ [some (.ow (.lst ds))]) = own σ δ1 ++ own (tS es vs) (tD es) ++ [D] := by rw [own_ow lo, own_app _ _ l1]
                have e4 : own (σ ++ [some (.ref D)]) (δ1 ++ [some (.ow (.lst ds))]) = own σ δ1 ++ [D] := own_ow l1
                refine k _ ι' H' ⟨⟨l1, ⟨paired_app pa pc, s'.gs, fun x => ?_⟩, .cons (fun _ h => by cases h) .nil⟩, st.sub fun x hx => ?_⟩
                · have n' := s'.nd x
                  rw [e3] at n'
                  show cnt x (own (σ ++ [some (.ref D)]) (δ1 ++ [some (.ow (.lst ds))])) + cnt x ι' ≤ 1
                  rw [e4]
                  simp only [cnt, List.count_append] at n' ⊢
                  omega
                · have hx : x ∈ own (σ ++ [some (.ref D)]) (δ1 ++ [some (.ow (.lst ds))]) ++ ι' := hx
                  rw [e4] at hx
                  rw [e3]
                  simp only [List.mem_append] at hx ⊢
                  rcases hx with (hx | hx) | hx
                  · exact .inl (.inl (.inl hx))
                  · exact .inl (.inr hx)
                  · exact .inr hx
              · cases et
            | succ m =>
              unfold cTurns at et
              split at et
              · rename_i d hd
                obtain ⟨go, yl⟩ := wk.go (by omega) hd a.ar.l sb
                refine .inr ⟨go, by have := line100; omega, fun ys' H5 => i + 1 + m = w.n ∧ H5 D = some (.lst ys') ∧ ∃ ι5 G5 acc5, SR K κ ι5 H5 ((σ ++ tS es vs) ++ [some (.ref D)]) ((δ1 ++ tD es) ++ [some (.ow (.lst acc5))]) G5 ∧
                  Step ι (own σ δ ++ ι) H ι5 (own ((σ ++ tS es vs) ++ [some (.ref D)]) ((δ1 ++ tD es) ++ [some (.ow (.lst acc5))]) ++ ι5) H5 ∧ acc5.length ≤ i + 1 ∧ acc5.length = ys'.length ∧ cTurns w c tt te (inD ix δ1) (i + 1) m acc5 δ1 G5 = some (ds, G2), fun ys' H5 q => ⟨m, Nat.lt_succ_self _, q⟩, fun x H3 hy z => ?_⟩
                obtain ⟨sm, rx⟩ := yl x H3 hy
                split at et
                · rename_i dd hc
                  obtain ⟨hl, tg⟩ := hg z ι' H3 x d dd (inV ix σ) _ rx hc
                  refine tg fun xs rs => ?_
                  -- the block's own slots
                  have s3 := s'.same sm
                  have st3 := st.trans (Step.same (ι := ι') (fp := own ((σ ++ tS es vs) ++ [some (.ref D)]) ((δ1 ++ tD es) ++ [some (.ow (.lst acc))]) ++ ι') sm)
                  obtain ⟨p1, o1⟩ := ims_slots (κ := κ) rs
                  obtain ⟨p2, o2⟩ := inner ((s3.pop lo).pop a.ar.l) ix
                  have lx := Paired.length p1
                  have oin : own (xs.map some ++ inV ix σ) (dd.map (fun d => some (Vl.im d)) ++ inD ix δ1) = [] := by rw [own_app _ _ lx, o1, o2]; rfl
                  have sin : SR K κ ι' H3 (xs.map some ++ inV ix σ) (dd.map (fun d => some (Vl.im d)) ++ inD ix δ1) G' := ⟨paired_app p1 p2, s3.gs, fun y => by
                    rw [oin]; have := s3.nd y; simp only [cnt, List.count_nil] at *; omega⟩
                  have lin := sin.len
                  have both : SR K κ ι' H3 ((xs.map some ++ inV ix σ) ++ ((σ ++ tS es vs) ++ [some (.ref D)])) ((dd.map (fun d => some (Vl.im d)) ++ inD ix δ1) ++ ((δ1 ++ tD es) ++ [some (.ow (.lst acc))])) G' := ⟨paired_app sin.sl s3.sl, s3.gs, fun y => by
                    rw [own_app _ _ lin, oin]; have := s3.nd y; simpa using this⟩
                  have kn : KeepN n ix σ (xs.map some ++ inV ix σ) := by
                    have lxs : xs.length = n := by rw [List.length_map, List.length_map] at lx; omega
                    refine ⟨by rw [List.length_append, List.length_map]; unfold inV; rw [List.length_map, lxs], fun j v hj => ?_⟩
                    unfold inStN at hj
                    by_cases hjn : j < n
                    · rw [List.getElem?_append_left (by simpa using hjn), List.getElem?_replicate, if_pos hjn] at hj
                      cases hj
                    · rw [List.getElem?_append_right (by simp; omega)] at hj
                      rw [List.getElem?_append_right (by simp; omega)]
                      simp only [List.length_replicate, List.length_map, lxs] at hj ⊢
                      exact hj
                  refine ⟨kn, ?_⟩
                  -- the outer ones behind a step of the block
                  have jn : ∀ {σ5 : St} {δ5 : De} {θ5 : De} {τ5 : St} {G5 : List M} {ι5 : List Addr} {H5 : Hp}, σ5.length = δ5.length → SR K κ ι5 H5 (σ5 ++ τ5) (δ5 ++ θ5) G5 → Step ι' (own (xs.map some ++ inV ix σ) (dd.map (fun d => some (Vl.im d)) ++ inD ix δ1) ++ ι') H3 ι5 (own (σ5 ++ τ5) (δ5 ++ θ5) ++ ι5) H5 →
                      SR K κ ι5 H5 (((σ ++ tS es vs) ++ [some (.ref D)]) ++ τ5) (((δ1 ++ tD es) ++ [some (.ow (.lst acc))]) ++ θ5) G5 ∧ Step ι (own σ δ ++ ι) H ι5 (own (((σ ++ tS es vs) ++ [some (.ref D)]) ++ τ5) (((δ1 ++ tD es) ++ [some (.ow (.lst acc))]) ++ θ5) ++ ι5) H5 ∧ H5 D = some (.lst ys) := fun {σ5 δ5 θ5 τ5 G5 ι5 H5} l5 s5 st5 => by
                    obtain ⟨j1, j2⟩ := SR.join both lin s5 l5 st5
                    have lT : ((σ ++ tS es vs) ++ [some (V.ref D)]).length = ((δ1 ++ tD es) ++ [some (Vl.ow (.lst acc))]).length := s3.len
                    have lj : (((σ ++ tS es vs) ++ [some (V.ref D)]) ++ τ5).length = (((δ1 ++ tD es) ++ [some (Vl.ow (.lst acc))]) ++ θ5).length := by
                      have := j1.len; rw [List.length_append, List.length_append (as := δ5)] at this; omega
                    refine ⟨(j1.swap l5).pop lj, ?_, ?_⟩
                    · refine (st3.trans (j2.wide fun y hy => ?_)).sub fun y hy => ?_
                      · rw [own_app _ _ lin, oin] at hy; exact hy
                      · exact mem_swap (σ := σ5) (δ := δ5) l5 lj (own_sub lj hy)
                    · have q := sm _ _ hys
                      refine st5.keep D _ q fun hm => ?_
                      rw [oin] at hm
                      have n' := s3.nd D
                      rw [own_ow lo] at n'
                      have := cnt_pos.mp (show D ∈ ι' from hm)
                      have c1 : List.count D [D] = 1 := by simp
                      simp only [cnt, List.count_append] at *
                      omega
                  split at et
                  · rename_i δa Ga ea
                    refine ⟨ι', _, G', true, δa, Ga, sin, ea, fun ι4 H4 s4 st4 => ?_⟩
                    dsimp only
                    rw [if_pos rfl]
                    split at et
                    · rename_i y δb Gb eb
                      refine ⟨ι4, δa, Ga, _, δb, Gb, s4, eb, fun yv ι5 H5 a5 => ?_⟩
                      obtain ⟨j1, j2, j3⟩ := jn a5.ar.l a5.ar.sr (st4.trans a5.st)
                      refine ⟨j3, by omega, upd_same, ι5, Gb, acc ++ [y], ?_⟩
                      have ry : RpI K ι5 H5 yv y := a5.ar.im (j := 0) rfl rfl
                      have lT : ((σ ++ tS es vs) ++ [some (V.ref D)]).length = ((δ1 ++ tD es) ++ [some (Vl.ow (.lst acc))]).length := s3.len
                      have s6 := j1.pop lT
                      have i1 : ((σ ++ tS es vs) ++ [some (V.ref D)])[(σ ++ tS es vs).length]? = some (some (.ref D)) := by rw [List.getElem?_append_right (Nat.le_refl _), Nat.sub_self]; rfl
                      have i2 : ((δ1 ++ tD es) ++ [some (Vl.ow (.lst acc))])[(σ ++ tS es vs).length]? = some (some (.ow (.lst acc))) := by rw [lo, List.getElem?_append_right (Nat.le_refl _), Nat.sub_self]; rfl
                      obtain ⟨q1, q2⟩ := s6.poke i1 i2 (m' := .lst (acc ++ [y])) (o := .lst (ys ++ [yv])) (fun ρ kp => by
                        obtain ⟨zs, h1, h2⟩ := ρ
                        rw [j3] at h1; cases h1
                        exact ⟨_, upd_same, (h2.app (.cons ry .nil)).mono (Pre.refl _) kp⟩)
                      have e5 : ((δ1 ++ tD es) ++ [some (Vl.ow (.lst acc))]).set (σ ++ tS es vs).length (some (.ow (.lst (acc ++ [y])))) = (δ1 ++ tD es) ++ [some (.ow (.lst (acc ++ [y])))] := by rw [lo, List.set_append_right _ _ (Nat.le_refl _), Nat.sub_self]; rfl
                      rw [e5] at q1 q2
                      refine ⟨q1, (j2.sub fun w hw => own_sub lT hw).trans q2, by rw [List.length_append]; simp; omega, by rw [List.length_append, List.length_append]; simp; omega, et⟩
                    · cases et
                  · rename_i δa Ga ea
                    refine ⟨ι', _, G', false, δa, Ga, sin, ea, fun ι4 H4 s4 st4 => ?_⟩
                    dsimp only
                    rw [if_neg Bool.false_ne_true]
                    have s4' : SR K κ ι4 H4 ((xs.map some ++ inV ix σ) ++ []) (δa ++ []) Ga := by rw [List.append_nil, List.append_nil]; exact s4
                    obtain ⟨j1, j2, j3⟩ := jn (τ5 := []) (θ5 := []) s4.len s4' (by rw [List.append_nil, List.append_nil]; exact st4)
                    rw [List.append_nil, List.append_nil] at j1 j2
                    exact ⟨by omega, j3, ι4, Ga, acc, j1, j2, by omega, hay, et⟩
                  · cases et
                · cases et
              · cases et
        · cases eq
      · cases eq
    · cases eq
  · cases eq
end
end B
namespace B
open PySem L2
section
variable {K : PySem.W.Frag} {κ : Str → Addr} {ι ι1 ι2 fp : List Addr} {H H1 H2 : Hp} {σ τ : St} {δ δ1 δ2 θ : De} {G G1 G2 : List M} {es fs : List Ev} {vs ws : List V}
theorem lookup_rel {κ' : Type} [BEq κ'] {f : κ'} : ∀ {ws : List (κ' × V)} {fs : List (κ' × I)} {d : I}, ws.map (·.1) = fs.map (·.1) → RpIs K ι H (ws.map (·.2)) (fs.map (·.2)) → fs.lookup f = some d → ∃ v, ws.lookup f = some v ∧ RpI K ι H v d
  | [], [], _, _, _, h => by cases h
  | [], _ :: _, _, e, _, _ => by cases e
  | _ :: _, [], _, e, _, _ => by cases e
  | (g, v) :: ws, (g', d0) :: fs, d, e, r, h => by
    simp only [List.map_cons, List.cons.injEq] at e
    obtain ⟨e1, e2⟩ := e
    subst e1
    cases r with
    | cons r rs =>
      rw [List.lookup_cons] at h ⊢
      cases q : (f == g) with
      | true => rw [q] at h; cases h; exact ⟨v, rfl, r⟩
      | false => rw [q] at h; exact lookup_rel e2 rs h
theorem lookup_no {κ' : Type} [BEq κ'] {f : κ'} : ∀ {ws : List (κ' × V)} {fs : List (κ' × I)}, ws.map (·.1) = fs.map (·.1) → fs.lookup f = none → ws.lookup f = none
  | [], [], _, _ => rfl
  | [], _ :: _, e, _ => by cases e
  | _ :: _, [], e, _ => by cases e
  | (g, v) :: ws, (g', d0) :: fs, e, h => by
    simp only [List.map_cons, List.cons.injEq] at e
    obtain ⟨e1, e2⟩ := e
    subst e1
    rw [List.lookup_cons] at h ⊢
    cases q : (f == g) with
    | true => rw [q] at h; cases h
    | false => rw [q] at h; exact lookup_no e2 h
def putI (f : Str) (d : I) : List (Str × I) → List (Str × I)
  | [] => [(f, d)]
  | (g, x) :: r => if g = f then (g, d) :: r else (g, x) :: putI f d r
theorem putI_rel {f : Str} {v : V} {d : I} (rv : RpI K ι H v d) : ∀ {ws : List (Str × V)} {fs : List (Str × I)}, ws.map (·.1) = fs.map (·.1) → RpIs K ι H (ws.map (·.2)) (fs.map (·.2)) →
    (putF f v ws).map (·.1) = (putI f d fs).map (·.1) ∧ RpIs K ι H ((putF f v ws).map (·.2)) ((putI f d fs).map (·.2))
  | [], [], _, _ => ⟨rfl, .cons rv .nil⟩
  | [], _ :: _, e, _ => by cases e
  | _ :: _, [], e, _ => by cases e
  | (g, u) :: ws, (g', d0) :: fs, e, r => by
    simp only [List.map_cons, List.cons.injEq] at e
    obtain ⟨e1, e2⟩ := e
    subst e1
    cases r with
    | cons r rs =>
      unfold putF putI
      by_cases q : g = f
      · rw [if_pos q, if_pos q]
        exact ⟨by simp [e2], .cons rv rs⟩
      · rw [if_neg q, if_neg q]
        obtain ⟨p1, p2⟩ := putI_rel rv e2 rs
        exact ⟨by simp [p1], .cons r p2⟩
def fldP (c f : Str) : List Ev → Mo Ev := fun es δ G => match es with
  | [.v (.im (.ref k))] => match G[k]? with
    | some (.obj c' fs) => if c' = c then match fs.lookup f with
      | some d => some (.v (.im d), δ, G)
      | none => none
      else none
    | _ => none
  | _ => none
theorem prim_fld {c f : Str} (hc : Cls K (κ c)) (hn : NoAttr K (κ c) f) : Prim K κ (r1 fun x H1 Q => ∃ a C dx fs v, x = .ref a ∧ H1 a = some (.ins C dx fs) ∧ Cls K C ∧ NoAttr K C f ∧ fs.lookup f = some v ∧ Q v H1) (fldP c f) := by
  intro ι H σ δ G es vs e δ' G' Q a h k
  unfold fldP at h
  split at h
  · rename_i n
    split at h
    · rename_i c' fs hg
      split at h
      · rename_i ec
        subst ec
        split at h
        · rename_i d hd
          cases h
          obtain ⟨v, rfl⟩ := len1 a.len
          have r := a.im (j := 0) rfl rfl
          cases r with
          | @ref b _ e1 =>
            obtain ⟨b', e2, dx, ws, h1, h2, h3⟩ := a.base.get_g hg
            rw [e1] at e2; cases e2
            obtain ⟨v, hv, rv⟩ := lookup_rel h2 h3 hd
            exact ⟨_, rfl, b, _, dx, ws, v, rfl, h1, hc, hn, hv, k _ _ _ (fin_im a rv)⟩
        · cases h
      · cases h
    · cases h
  · cases h
theorem up_fld {c f : Str} {fo : Mo Ev} {Q : VK} (hc : Cls K (κ c)) (hn : NoAttr K (κ c) f) (h : UpE K κ (unF (fldP c f) fo) σ H Q) : tFld K (UpE K κ fo) f σ H Q := up_un (prim_fld hc hn) h
/-- o.f = value -/
def fldS (c f : Str) (fo fv : Mo Ev) : SF := fun δ G => match fv δ G with
  | some (.v (.im d), δ1, G1) => match fo δ1 G1 with
    | some (.v (.im (.ref k)), δ2, G2) => match G2[k]? with
      | some (.obj c' fs) => if c' = c ∧ fs.length < 1000 then some (.nx δ2 (G2.set k (.obj c (putI f d fs)))) else none
      | _ => none
    | _ => none
  | _ => none
theorem up_fldS {c f : Str} {fo fv : Mo Ev} {D : Ends} (hc : Cls K (κ c)) (hn : NoAttr K (κ c) f) (h : UpS K κ (fldS c f fo fv) D σ H) : sFld K (UpE K κ fo) (UpE K κ fv) f D σ H := by
  obtain ⟨ι, δ, G, fl, s, eq, k⟩ := h
  unfold fldS at eq
  split at eq
  · rename_i d δ1 G1 e1
    split at eq
    · rename_i n δ2 G2 e2
      split at eq
      · rename_i c' fs hg
        split at eq
        · rename_i hcl
          obtain ⟨ec, hl⟩ := hcl
          subst ec
          cases eq
          refine ⟨ι, δ, G, _, δ1, G1, s, e1, fun v ι1 H1 a1 => ?_⟩
          refine ⟨ι1, δ1, G1, _, δ2, G2, a1.ar.base, e2, fun x ι2 H2 a2 => ?_⟩
          have a := a1.app a2
          have rv := a.ar.im (j := 0) rfl rfl
          have rx := a.ar.im (j := 1) rfl rfl
          cases rx with
          | @ref b _ eb =>
            obtain ⟨b', e3, dx, ws, h1, h2, h3⟩ := a.ar.base.get_g hg
            rw [eb] at e3; cases e3
            have hlw : ws.length < 1000 := by have := congrArg List.length h2; simp at this; omega
            refine ⟨b, _, dx, ws, rfl, h1, hc, hn, hlw, ?_⟩
            obtain ⟨p, q⟩ := a.ar.base.pokeG eb hg (m' := .obj c' (putI f d fs)) (o := .ins (κ c') dx (putF f v ws)) (fun _ kp => by
              obtain ⟨p1, p2⟩ := putI_rel (f := f) rv h2 h3
              exact ⟨dx, _, upd_same, p1, p2.mono (Pre.refl _) kp⟩)
            exact k _ _ _ p ((a.st.sub fun y hy => own_sub a.ar.l hy).trans q)
        · cases eq
      · cases eq
    · cases eq
  · cases eq
def methF (c m : Str) (n : Nat) (fn : FF) (fo : Mo Ev) (fa : Mo (List Ev)) : Mo Ev := bd fo fun e => fun δ G => match e with
  | .v (.im (.ref k)) => match G[k]? with
    | some (.obj c' fs) => if c' = c ∧ (fs.lookup m).isNone then bd fa (fun es => callP n fn (.v (.im (.ref k)) :: es)) δ G else none
    | _ => none
  | _ => none
theorem up_meth {c m : Str} {n : Nat} {fn : FF} {fo : Mo Ev} {fa : Mo (List Ev)} {E : XK} {Q : VK} (h : UpE K κ (methF c m n fn fo fa) σ H Q) : tMeth (κ c) m (UpF K κ n fn) [] E (UpE K κ fo) (UpA K κ fa) σ H Q := by
  obtain ⟨ι, δ, G, e, δ', G', s, eq, k⟩ := h
  obtain ⟨x, δ1, G1, e1, eq2⟩ := bd_inv eq
  clear eq
  split at eq2
  · rename_i kk
    split at eq2
    · rename_i c' fs hg
      split at eq2
      · rename_i hcl
        obtain ⟨ec, hl⟩ := hcl
        subst ec
        obtain ⟨ys, δ2, G2, e2, eq3⟩ := bd_inv (m := fa) eq2
        refine ⟨ι, δ, G, _, δ1, G1, s, e1, fun v ι1 H1 a1 => ?_⟩
        have rx := a1.ar.im (j := 0) rfl rfl
        cases rx with
        | @ref b _ eb =>
          obtain ⟨b', e3, dx, ws, h1, h2, h3⟩ := a1.ar.base.get_g hg
          rw [eb] at e3; cases e3
          refine ⟨b, dx, ws, rfl, h1, lookup_no h2 (Option.isNone_iff_eq_none.mp hl), ?_⟩
          refine ⟨ι1, δ1, G1, ys, δ2, G2, a1.ar.base, e2, fun vs ι2 H2 a2 => ?_⟩
          have a := a1.app a2
          dsimp only
          rw [List.append_nil]
          exact prim_call (E := E) _ _ _ _ _ _ _ _ _ _ Q a.ar eq3 fun v ι3 H3 d => k _ _ _ (a.then d)
      · cases eq2
    · cases eq2
  · cases eq2
def makeP (c : Str) (n : Nat) (fn : FF) : List Ev → Mo Ev := fun es δ G => match vlA es with
  | some xs => if xs.length + 1 = n then match fn (.im (.ref G.length) :: xs) (G ++ [.obj c []]) with
    | some (.im .non, G') => some (.v (.im (.ref G.length)), δ, G')
    | _ => none
    else none
  | none => none
theorem prim_make {c : Str} {n : Nat} {fn : FF} {E : XK} : Prim K κ (fun vs H1 Q => ∀ x dx, H1 x = none → H1 dx = none → dx ≠ x →
    UpF K κ n fn (.ref x :: (vs ++ [])) (upd (upd H1 dx (.own x)) x (.ins (κ c) dx [])) (fun v H2 => v = .non ∧ Q (.ref x) H2) E) (makeP c n fn) := by
  intro ι H σ δ G es vs e δ' G' Q a h k x dx hx hdx ndx
  unfold makeP at h
  split at h
  · rename_i xs hxs
    split at h
    · rename_i hl
      split at h
      · rename_i G1 e1
        cases h
        rw [List.append_nil]
        obtain ⟨t1, t2⟩ := vlA_ts hxs a.len
        have sr := a.sr
        rw [t1, t2] at sr k
        have lt : (vs.map some).length = (xs.map some).length := Paired.length (paired_split a.l sr.sl).2
        have hx1 : (upd H dx (.own x)) x = none := by rw [upd_ne (Ne.symm ndx)]; exact hx
        have sm1 : Same H (upd H dx (.own x)) := Same.lay hdx
        have sm2 : Same (upd H dx (.own x)) (upd (upd H dx (.own x)) x (.ins (κ c) dx [])) := Same.lay hx1
        have s1 := sr.same sm1
        have s2 := s1.push_ow (o := .ins (κ c) dx []) (m := .obj c []) hx1 ⟨dx, [], upd_same, rfl, .nil⟩
        obtain ⟨s3, r3, q3⟩ := s2.box s1.len
        -- the new thing first
        have s4 : SR K κ (ι ++ [x]) (upd (upd H dx (.own x)) x (.ins (κ c) dx [])) (((V.ref x :: vs).map some) ++ σ) (((Vl.im (.ref G.length) :: xs).map some) ++ δ) (G ++ [.obj c []]) := by
          have q := (s3.swap a.l)
          refine ⟨.cons (.im r3) q.sl, q.gs, fun y => ?_⟩
          have := q.nd y
          show cnt y (own1 _ _ ++ own (vs.map some ++ σ) (xs.map some ++ δ)) + _ ≤ 1
          rw [own1_im]
          exact this
        have l4 : ((V.ref x :: vs).map some).length = ((Vl.im (.ref G.length) :: xs).map some).length := by simpa using lt
        refine ⟨ι ++ [x], .im (.ref G.length) :: xs, G ++ [.obj c []], .im .non, _, by simpa using hl, s4.pop l4, e1, fun v ι' H' s st => ?_⟩
        have rv : RpI K ι' H' v .non := by
          have := s.sl
          cases this with
          | cons q _ => cases q with
            | im q => exact q
        cases rv
        refine ⟨rfl, ?_⟩
        have s' : SR K κ ι' H' ([some V.non] ++ []) ([some (Vl.im .non)] ++ []) _ := s
        obtain ⟨j1, j2⟩ := SR.join (σ0 := (V.ref x :: vs).map some) (δ1 := (Vl.im (.ref G.length) :: xs).map some) (σ := [some V.non]) (δ2 := [some (Vl.im .non)]) (τ2 := []) (θ2 := []) s4 l4 s' rfl st
        rw [List.append_nil, List.append_nil] at j1 j2
        have jb := (j1.swap rfl).pop a.l
        have rx : RpI K ι' H' (.ref x) (.ref G.length) := r3.mono st.pre st.kp
        have stt : Step ι (own (σ ++ vs.map some) (δ ++ xs.map some) ++ ι) H ι' (own σ δ ++ ι') H' := by
          have b1 : Step ι (own (σ ++ vs.map some) (δ ++ xs.map some) ++ ι) H ι (own (σ ++ vs.map some) (δ ++ xs.map some) ++ ι) (upd H dx (.own x)) := Step.same sm1
          have b2 := Step.lay_ow (ι := ι) (o := .ins (κ c) dx []) (m := .obj c []) s1.len hx1
          have b3 := q3
          refine ((b1.trans (b2.trans b3)).trans (j2.wide fun y hy => ?_)).sub fun y hy => ?_
          · have hy : y ∈ (own1 _ _ ++ own (vs.map some ++ σ) (xs.map some ++ δ)) ++ (ι ++ [x]) := hy
            rw [own1_im] at hy
            exact mem_swap a.l lt hy
          · exact mem_swap (σ := [some V.non]) (δ := [some (Vl.im .non)]) (τ := σ) (θ := δ) rfl a.l (own_sub a.l hy) |> fun z => by
              have z := mem_swap (σ := σ) (δ := δ) (τ := [some V.non]) (θ := [some (Vl.im .non)]) a.l rfl (mem_swap (σ := [some V.non]) (δ := [some (Vl.im .non)]) (τ := σ) (θ := δ) rfl a.l (own_sub a.l hy))
              exact mem_swap (σ := [some V.non]) (δ := [some (Vl.im .non)]) (τ := σ) (θ := δ) rfl a.l z
        refine k _ ι' H' ⟨⟨a.l, jb.push_im rx, .cons (fun _ h => by cases h) .nil⟩, stt.sub fun y hy => ?_⟩
        have hy : y ∈ own (σ ++ [some (V.ref x)]) (δ ++ [some (Vl.im (.ref G.length))]) ++ ι' := hy
        rw [own_im a.l] at hy
        exact hy
      · cases h
    · cases h
  · cases h
end
end B
namespace B
open PySem PySem.Spec PyProof.Rows L2
section
variable {X : Cx} {e : Expr} {es : List Expr} {st : Stmt} {sts : List Stmt}
theorem pe_imp {t t' : TE} (h : PE X e t) (k : ∀ σ H Q, t' σ H Q → t σ H Q) : PE X e t' := fun pins s σ H Q I q => h pins s σ H Q I (k σ H Q q)
theorem pt_imp {t t' : TT} (h : PT X e t) (k : ∀ σ H Q, t' σ H Q → t σ H Q) : PT X e t' := fun pins s σ H Q I q => h pins s σ H Q I (k σ H Q q)
theorem pw_imp {t t' : TT} (h : PW X e t) (k : ∀ σ H Q, t' σ H Q → t σ H Q) : PW X e t' := fun w pins s σ H Q I q => h w pins s σ H Q I (k σ H Q q)
theorem pa_imp {t t' : TA} (h : PA X es t) (k : ∀ σ H Q, t' σ H Q → t σ H Q) : PA X es t' := fun pos pins s σ H Q I q => h pos pins s σ H Q I (k σ H Q q)
theorem ps_imp {t t' : TS} (h : PS X st t) (k : ∀ D σ H, t' D σ H → t D σ H) : PS X st t' := fun pins s σ H D I q => h pins s σ H D I (k D σ H q)
theorem pss_imp {t t' : TS} (h : PSs X sts t) (k : ∀ D σ H, t' D σ H → t D σ H) : PSs X sts t' := fun pins s σ H D I q => h pins s σ H D I (k D σ H q)
theorem pi_imp {tg iter : Expr} {t t' : TI} (h : PI X tg iter t) (k : ∀ σ H R, t' σ H R → t σ H R) : PI X tg iter t' := fun pins s σ H R I q => h pins s σ H R I (k σ H R q)
theorem pg_imp {tg : Expr} {t t' : TG} (h : PG X tg t) (k : ∀ v σ H Q, t' v σ H Q → t v σ H Q) : PG X tg t' := fun pins s σ H v u Q I r q => h pins s σ H v u Q I r (k v σ H Q q)
theorem pe_or {t t' : TE} (h : PE X e t) (h' : PE X e t') : PE X e (fun σ H Q => t σ H Q ∨ t' σ H Q) := fun pins s σ H Q I q => q.elim (h pins s σ H Q I) (h' pins s σ H Q I)
theorem pt_or {t t' : TT} (h : PT X e t) (h' : PT X e t') : PT X e (fun σ H Q => t σ H Q ∨ t' σ H Q) := fun pins s σ H Q I q => q.elim (h pins s σ H Q I) (h' pins s σ H Q I)
theorem ps_or {t t' : TS} (h : PS X st t) (h' : PS X st t') : PS X st (fun D σ H => t D σ H ∨ t' D σ H) := fun pins s σ H D I q => q.elim (h pins s σ H D I) (h' pins s σ H D I)
theorem pi_or {tg iter : Expr} {t t' : TI} (h : PI X tg iter t) (h' : PI X tg iter t') : PI X tg iter (fun σ H R => t σ H R ∨ t' σ H R) := fun pins s σ H R I q => q.elim (h pins s σ H R I) (h' pins s σ H R I)
end
section
variable {X : Cx} {κ : Str → Addr} {a b c : Expr} {fa fb fv : Mo Ev} {fc fd : Mo Bool} {fs : Mo (List Ev)} {es : List Expr} {pos : Pos}
abbrev LE (X : Cx) (κ : Str → Addr) (e : Expr) (f : Mo Ev) : Prop := PE X e (UpE X.K κ f)
abbrev LT (X : Cx) (κ : Str → Addr) (e : Expr) (f : Mo Bool) : Prop := PT X e (UpT X.K κ f)
abbrev LW (X : Cx) (κ : Str → Addr) (e : Expr) (f : Mo Bool) : Prop := PW X e (UpT X.K κ f)
abbrev LA (X : Cx) (κ : Str → Addr) (es : List Expr) (f : Mo (List Ev)) : Prop := PA X es (UpA X.K κ f)
abbrev LS (X : Cx) (κ : Str → Addr) (s : Stmt) (f : SF) : Prop := PS X s (UpS X.K κ f)
abbrev LSs (X : Cx) (κ : Str → Addr) (s : List Stmt) (f : SF) : Prop := PSs X s (UpS X.K κ f)
abbrev LI (X : Cx) (κ : Str → Addr) (tg e : Expr) (f : IF) : Prop := PI X tg e (UpI X.K κ f)
abbrev LG (X : Cx) (κ : Str → Addr) (tg : Expr) (f : GF) : Prop := PG X tg (UpG X.K κ f)
theorem e_var (i : Nat) {x : Str} (hN : X.N[i]? = some x := by rfl) (hv : Vis X.env.scope x := by first | exact Or.inl rfl | exact Or.inr (Or.inl rfl) | exact Or.inr (Or.inr rfl)) (hd : (x == ("__debug__" : Str)) = false := by decide)
    (hcd : (x == ("__classdict__" : Str)) = false := by decide) : LE X κ (.Name x pos) (varF i) := pe_imp (pe_var hN hv hd hcd) fun _ _ _ => up_var
theorem e_int {i : Int} {j pos} : LE X κ (.Constant (.int i) j pos) (conF (.int i)) := pe_imp pe_int fun _ _ _ => up_con fun _ _ => .int _
theorem e_bl {i : Bool} {j pos} : LE X κ (.Constant (.bool i) j pos) (conF (.bl i)) := pe_imp pe_bl fun _ _ _ => up_con fun _ _ => .bl _
theorem e_non {j pos} : LE X κ (.Constant .none j pos) (conF .non) := pe_imp pe_non fun _ _ _ => up_con fun _ _ => .non
theorem e_str {x : Str} {j pos} : LE X κ (.Constant (.str x) j pos) (conF (.str x)) := pe_imp pe_str fun _ _ _ => up_con fun _ _ => .str _
theorem e_box (h : LE X κ a fa) : LE X κ a (boxF fa) := pe_imp h fun _ _ _ => up_box
theorem a_nil : LA X κ [] nilF := pa_imp pa_nil fun _ _ _ => upA_nil
theorem a_cons (h : LE X κ a fa) (r : LA X κ es fs) (hs : starEach (a :: es) X.env = (false, eval a X.env) :: starEach es X.env := by rfl) : LA X κ (a :: es) (consF fa fs) := pa_imp (pa_cons h r hs) fun _ _ _ => upA_cons
theorem e_op {op : Operator} {r : R2} {p : List Ev → Mo Ev} (ho : OpR X (binaryOp op) r) (hp : Prim X.K κ (r2 r) p) (ha : LE X κ a fa) (hb : LE X κ b fb) : LE X κ (.BinOp a op b pos) (opF p fa fb) := pe_imp (pe_op ho ha hb) fun _ _ _ => up_op hp
theorem e_un {op : UnaryOp} {r : V → Hp → VK → Prop} {p : List Ev → Mo Ev} (ho : UnR X (unaryOp op) r) (hp : Prim X.K κ (r1 r) p) (ha : LE X κ a fa) : LE X κ (.UnaryOp op a pos) (unF p fa) := pe_imp (pe_un ho ha) fun _ _ _ => up_un hp
theorem e_cmpR {op : CmpOp} {r : R2} {p : List Ev → Mo Ev} (ho : OpR X (compareOp op) r) (hp : Prim X.K κ (r2 r) p) (ha : LE X κ a fa) (hb : LE X κ b fb) (hm : behindInMarks op b = false) : LE X κ (.Compare a [op] [b] pos) (opF p fa fb) := pe_imp (pe_cmpR ho ha hb hm) fun _ _ _ => up_op hp
theorem t_cmpR {op : CmpOp} {r : R2} {p : List Ev → Mo Ev} (ho : OpR X (compareOp op) r) (hp : Prim X.K κ (r2 r) p) (ha : LE X κ a fa) (hb : LE X κ b fb) (hm : behindInMarks op b = false) : LT X κ (.Compare a [op] [b] pos) (tstF (opF p fa fb)) :=
  pt_imp (pt_cmpR ho ha hb hm) fun σ H Q h => up_op hp (up_test h)
theorem e_if (hc : LT X κ c fc) (ha : LE X κ a fa) (hb : LE X κ b fb) : LE X κ (.IfExp c a b pos) (ifE fc fa fb) := pe_imp (pe_ifExp hc ha hb) fun _ _ _ => up_ifE
theorem e_tup {x1} (h : LA X κ es fs) : LE X κ (.Tuple es x1 pos) (bd fs tupP) := pe_imp (pe_tup h) fun _ _ _ q => up_args prim_tup q
theorem e_lst (h : LA X κ es fs) : LE X κ (.List es pos) (bd fs lstP) := pe_imp (pe_lst h) fun _ _ _ q => up_args prim_lst q
theorem t_w (h : LW X κ a fc) : LT X κ a fc := h.pt
theorem w_and1 (h : LT X κ a fc) : LW X κ (.BoolOp .And [a] pos) fc := pw_and1 h
theorem w_or1 (h : LT X κ a fc) : LW X κ (.BoolOp .Or [a] pos) fc := pw_or1 h
theorem w_and {rest : List Expr} (h : LT X κ a fc) (k : LW X κ (.BoolOp .And (b :: rest) pos) fd) : LW X κ (.BoolOp .And (a :: b :: rest) pos) (andF fc fd) := pw_imp (pw_and h k) fun _ _ _ => up_and
theorem w_or {rest : List Expr} (h : LT X κ a fc) (k : LW X κ (.BoolOp .Or (b :: rest) pos) fd) : LW X κ (.BoolOp .Or (a :: b :: rest) pos) (orF fc fd) := pw_imp (pw_or h k) fun _ _ _ => up_or
theorem t_not (h : LT X κ a fc) : LT X κ (.UnaryOp .Not a pos) (notF fc) := pt_imp (pt_not h) fun _ _ _ => up_not
/-- a value's truth -/
def truE : Ev → Mo Bool := fun e δ G => match e with
  | .v (.im .non) => some (false, δ, G)
  | .v (.im (.bl b)) => some (b, δ, G)
  | .v (.im (.int i)) => some (i != 0, δ, G)
  | .v (.im (.str y)) => if y.length ≤ 1000000 then some ((y.length : Int) != 0, δ, G) else none
  | e => match pk δ G e with
    | some (.dic kvs) => some (!kvs.isEmpty, δ, G)
    | _ => match sq δ G e with
      | some xs => some (!xs.isEmpty, δ, G)
      | none => none
theorem isE {K : PySem.W.Frag} {ι : List Addr} {H : Hp} {vs : List V} {xs : List I} (r : RpIs K ι H vs xs) : (!xs.isEmpty) = !vs.isEmpty := by cases r <;> rfl
theorem up_tru {K : PySem.W.Frag} {f : Mo Ev} {σ : L2.St} {H : Hp} {Q : Bool → Hp → Prop} (h : UpT K κ (bd f truE) σ H Q) : UpE K κ f σ H fun x H' => ∃ k, TruV K x H' k ∧ Q k H' := by
  obtain ⟨ι, δ, G, t, δ', G', s, eq, k⟩ := h
  obtain ⟨x, δ1, G1, e1, eq⟩ := bd_inv eq
  refine ⟨ι, δ, G, x, δ1, G1, s, e1, fun v ι1 H1 a => ?_⟩
  obtain ⟨p, q⟩ := a.drop
  have seqs : ∀ {xs : List I}, sq δ1 G1 x = some xs → TruV K v H1 (!xs.isEmpty) := fun hx => by
    obtain ⟨b, ys, e2, h2, r⟩ := a.ar.sq (j := 0) rfl rfl hx
    subst e2
    rw [isE r]
    rcases h2 with h2 | h2
    · exact .inl ⟨ys, h2, rfl⟩
    · exact .inr (.inl ⟨ys, h2, rfl⟩)
  unfold truE at eq
  split at eq
  · cases eq; cases a.ar.im (j := 0) rfl rfl; exact ⟨_, rfl, k _ _ p q⟩
  · cases eq; cases a.ar.im (j := 0) rfl rfl; exact ⟨_, rfl, k _ _ p q⟩
  · cases eq; cases a.ar.im (j := 0) rfl rfl; exact ⟨_, rfl, k _ _ p q⟩
  · split at eq
    · rename_i y hy
      cases eq; cases a.ar.im (j := 0) rfl rfl
      exact ⟨_, ⟨Nat.le_trans hy (by decide), rfl⟩, k _ _ p q⟩
    · cases eq
  · split at eq
    · rename_i kvs hp
      cases eq
      obtain ⟨b, e2, ws, h1, h2, h3⟩ := a.ar.pk (j := 0) rfl rfl hp
      subst e2
      refine ⟨_, .inr (.inr ⟨ws, h1, ?_⟩), k _ _ p q⟩
      have := congrArg List.length h2
      simp at this
      cases kvs <;> cases ws <;> simp_all
    · split at eq
      · rename_i xs hx
        cases eq
        exact ⟨_, seqs hx, k _ _ p q⟩
      · cases eq
theorem t_tru (h : LE X κ a fa) (he : ∀ whole, isTrue a X.env whole = (do let v ← whole; standAt a.pos; holding [v] (truthy v)) := by intro _; rfl) : LT X κ a (bd fa truE) := pt_imp (pt_truth h he) fun _ _ _ q => up_tru q
def isP : List Ev → Mo Ev := fun es δ G => match es with
  | [.v (.im .non)] => some (.v (.im (.bl true)), δ, G)
  | [_] => some (.v (.im (.bl false)), δ, G)
  | _ => none
theorem Args.nn {K : PySem.W.Frag} {ι : List Addr} {H : Hp} {σ : L2.St} {δ : De} {G : List M} {e : Ev} {v : V} (a : Args K κ ι H σ δ G [e] [v]) (h : e ≠ .v (.im .non)) (hs : ∀ i, e = .s i → ∃ m, δ[i]? = some (some (.ow m))) : v ≠ .non := by
  cases e with
  | s i =>
    obtain ⟨m, hm⟩ := hs i rfl
    obtain ⟨b, e1, r⟩ := a.base.get_ow hm
    have al := al_at (j := 0) a.al rfl rfl
    rw [al] at e1; cases e1
    intro z; cases z
  | v x =>
    cases x with
    | ow m =>
      have r := tsd (paired_split a.l a.sr.sl).2 (j := 0) rfl rfl
      cases r
      intro z; cases z
    | im d =>
      have r := a.im (j := 0) rfl rfl
      cases r <;> first | exact absurd rfl h | (intro z; cases z)
def slOk (δ : De) : Ev → Bool
  | .s i => match δ[i]? with
    | some (some (.ow _)) => true
    | _ => false
  | _ => true
theorem slOk_of {δ : De} {e : Ev} (h : slOk δ e = true) : ∀ i, e = .s i → ∃ m, δ[i]? = some (some (.ow m)) := by
  intro i hi
  subst hi
  unfold slOk at h
  dsimp only at h
  split at h
  · rename_i m hm; exact ⟨m, hm⟩
  · cases h
def isQ (pos : Bool) : List Ev → Mo Ev := fun es δ G => match es with
  | [.v (.im .non)] => some (.v (.im (.bl pos)), δ, G)
  | [e] => if slOk δ e then some (.v (.im (.bl (!pos))), δ, G) else none
  | _ => none
theorem prim_is {K : PySem.W.Frag} : Prim K κ (r1 fun x H1 Q => Q (.bl (decide (x = .non))) H1) (isQ true) := by
  intro ι H σ δ G es vs e δ' G' Q a h k
  unfold isQ at h
  split at h
  · cases h
    obtain ⟨v, rfl⟩ := len1 a.len
    cases a.im (j := 0) rfl rfl
    exact ⟨_, rfl, k _ _ _ (fin_im a (.bl _))⟩
  · rename_i e0 hne
    split at h
    · rename_i hs
      cases h
      obtain ⟨v, rfl⟩ := len1 a.len
      have n := a.nn (fun z => hne (by rw [z])) (slOk_of hs)
      refine ⟨_, rfl, ?_⟩
      dsimp only
      rw [decide_eq_false n]
      exact k _ _ _ (fin_im a (.bl _))
    · cases h
  · cases h
theorem prim_isn {K : PySem.W.Frag} : Prim K κ (r1 fun x H1 Q => Q (.bl (!decide (x = .non))) H1) (isQ false) := by
  intro ι H σ δ G es vs e δ' G' Q a h k
  unfold isQ at h
  split at h
  · cases h
    obtain ⟨v, rfl⟩ := len1 a.len
    cases a.im (j := 0) rfl rfl
    exact ⟨_, rfl, k _ _ _ (fin_im a (.bl _))⟩
  · rename_i e0 hne
    split at h
    · rename_i hs
      cases h
      obtain ⟨v, rfl⟩ := len1 a.len
      have n := a.nn (fun z => hne (by rw [z])) (slOk_of hs)
      refine ⟨_, rfl, ?_⟩
      dsimp only
      rw [decide_eq_false n]
      exact k _ _ _ (fin_im a (.bl _))
    · cases h
  · cases h
theorem e_is {j pos'} (h : LE X κ a fa) : LE X κ (.Compare a [.Is] [.Constant .none j pos'] pos) (unF (isQ true) fa) := pe_imp (pe_cmp (pc_isN h)) fun _ _ _ q => up_un prim_is q
theorem t_is {j pos'} (h : LE X κ a fa) : LT X κ (.Compare a [.Is] [.Constant .none j pos'] pos) (tstF (unF (isQ true) fa)) := pt_imp (pt_cmp (pc_isN h)) fun _ _ _ q => up_un prim_is (up_test q)
theorem t_isn {j pos'} (h : LE X κ a fa) : LT X κ (.Compare a [.IsNot] [.Constant .none j pos'] pos) (tstF (unF (isQ false) fa)) := pt_imp (pt_cmp (pc_notN h)) fun _ _ _ q => up_un prim_isn (up_test q)
variable {s : Stmt} {ss ss2 : List Stmt} {f g : SF}
theorem ss_nil : LSs X κ [] skipF := pss_imp pss_nil fun _ _ _ => up_skip
theorem ss_one (h : LS X κ s f) : LSs X κ [s] f := pss_one h
theorem ss_cons (h : LS X κ s f) (r : LSs X κ ss g) : LSs X κ (s :: ss) (seqF f g) := pss_imp (pss_cons h r) fun _ _ _ => up_seq
theorem s_ret (h : LE X κ a fa) : LS X κ (.Return (some a) pos) (retF fa) := ps_imp (ps_ret h) fun _ _ _ => up_ret
theorem s_expr (h : LE X κ a fa) (hs : swapsWith a none pos.line X.env = pure false := by rfl) : LS X κ (.Expr a pos) (dropF fa) := ps_imp (ps_expr h hs) fun _ _ _ => up_drop
theorem s_if (hc : LT X κ c fc) (ha : LSs X κ ss f) (hb : LSs X κ ss2 g) : LS X κ (.If c ss ss2 pos) (iteF' fc f g) := ps_imp (ps_if hc ha hb) fun _ _ _ => up_if
theorem s_while (hc : LT X κ c fc) (hb : LSs X κ ss f) (hp : PassesOwn (model X.prog X.w) X.A X.env X.xe := by exact PassesOwn.never) : LS X κ (.While c ss [] pos) (whF fc f) := ps_imp (ps_while hp hc hb) fun _ _ _ => up_while
theorem s_for {tg it : Expr} {fi : IF} {gf : GF} (hi : LI X κ tg it fi) (hg : LG X κ tg gf) (hb : LSs X κ ss f) (hc : X.calm = true := by rfl) (hp : PassesOwn (model X.prog X.w) X.A X.env X.xe := by exact PassesOwn.never) (hs : ∀ x, foldedSetIterable it X.env x = pure x := by intro _; rfl) :
    LS X κ (.For tg it ss [] pos) (forF fi gf f) := ps_imp (ps_for hp hc hi hg hb hs) fun _ _ _ => up_for
theorem g_nm {i : Nat} {x : Str} {p : Pos} (hN : X.N.Nodup) (hi : X.N[i]? = some x := by rfl) (hx : Loc X.env.scope x := by first | exact Or.inl rfl | exact Or.inr rfl) (hf : X.fn x = true ∨ X.env.scope.names.lookup x = some .local := by first | exact .inl rfl | exact .inr rfl | assumption) :
    LG X κ (.Name x p) (gNm i) := pg_imp (pg_name hN hi hx hf) fun _ _ _ _ => up_gnm
def RowOk (X : Cx) (es : List Expr) (is : List Nat) : Prop := PGs X es (gRow is)
theorem g_r0 : RowOk X [] [] := pgs_nil
theorem g_r {i : Nat} {is : List Nat} {x : Str} {p : Pos} {es : List Expr} (hN : X.N.Nodup) (r : RowOk X es is) (hi : X.N[i]? = some x := by rfl) (hx : Loc X.env.scope x := by first | exact Or.inl rfl | exact Or.inr rfl) (hf : X.fn x = true ∨ X.env.scope.names.lookup x = some .local := by first | exact .inl rfl | exact .inr rfl | assumption)
    : RowOk X (.Name x p :: es) (i :: is) := pgs_cons (pg_name hN hi hx hf) r
end
end B
namespace B
open PySem PySem.Spec PyProof.Rows L2
section
variable {X : Cx} {K : PySem.W.Frag} {κ : Str → Addr}
def intP (f : Int → Int → Option I) : List Ev → Mo Ev := fun es δ G => match es with
  | [.v (.im (.int i)), .v (.im (.int j))] => match f i j with
    | some d => some (.v (.im d), δ, G)
    | none => none
  | _ => none
theorem prim_rI {C : Int → Int → Prop} {g : Int → Int → V} {f : Int → Int → Option I} (hf : ∀ i j d, f i j = some d → C i j ∧ ∀ ι H, RpI K ι H (g i j) d) : Prim K κ (r2 (rI C g)) (intP f) := by
  intro ι H σ δ G es vs e δ' G' Q a h k
  unfold intP at h
  split at h
  · rename_i i j
    split at h
    · rename_i d hd
      cases h
      obtain ⟨v, u, rfl⟩ := len2 a.len
      cases a.im (j := 0) rfl rfl
      cases a.im (j := 1) rfl rfl
      obtain ⟨c, r⟩ := hf i j d hd
      exact ⟨_, _, rfl, i, j, rfl, rfl, c, k _ _ _ (fin_im a (r ι H))⟩
    · cases h
  · cases h
theorem prim_rI0 {g : Int → Int → V} {f : Int → Int → Option I} (hf : ∀ i j d, f i j = some d → ∀ ι H, RpI K ι H (g i j) d) : Prim K κ (r2 (rI0 g)) (intP f) := by
  intro ι H σ δ G es vs e δ' G' Q a h k
  obtain ⟨x, y, e1, i, j, e2, e3, _, q⟩ := prim_rI (C := fun _ _ => True) (fun i j d hd => ⟨trivial, hf i j d hd⟩) ι H σ δ G es vs e δ' G' Q a h k
  exact ⟨x, y, e1, i, j, e2, e3, q⟩
theorem Prim.or {r r' : R2} {p p' : List Ev → Mo Ev} (h : Prim K κ (r2 r) p) (h' : Prim K κ (r2 r') p') : Prim K κ (r2 fun x y H Q => r x y H Q ∨ r' x y H Q) (fun es δ G => match p es δ G with | some z => some z | none => p' es δ G) := by
  intro ι H σ δ G es vs e δ' G' Q a hp k
  dsimp only at hp
  split at hp
  · rename_i z hz
    cases hp
    obtain ⟨x, y, e1, q⟩ := h ι H σ δ G es vs _ _ _ Q a hz k
    exact ⟨x, y, e1, .inl q⟩
  · obtain ⟨x, y, e1, q⟩ := h' ι H σ δ G es vs _ _ _ Q a hp k
    exact ⟨x, y, e1, .inr q⟩
def orP (p p' : List Ev → Mo Ev) : List Ev → Mo Ev := fun es δ G => match p es δ G with | some z => some z | none => p' es δ G
def catS : List Ev → Mo Ev := fun es δ G => match es with
  | [.v (.im (.str x)), .v (.im (.str y))] => if x.length + y.length ≤ 1000000 then some (.v (.im (.str (x ++ y))), δ, G) else none
  | _ => none
theorem prim_catS : Prim K κ (r2 fun x y H Q => ∃ i j, x = .str i ∧ y = .str j ∧ i.length + j.length ≤ sizeLine ∧ Q (.str (i ++ j)) H) catS := by
  intro ι H σ δ G es vs e δ' G' Q a h k
  unfold catS at h
  split at h
  · rename_i i j
    split at h
    · rename_i hl
      cases h
      obtain ⟨v, u, rfl⟩ := len2 a.len
      cases a.im (j := 0) rfl rfl
      cases a.im (j := 1) rfl rfl
      exact ⟨_, _, rfl, i, j, rfl, rfl, Nat.le_trans hl (by decide), k _ _ _ (fin_im a (.str _))⟩
    · cases h
  · cases h
def rCatTT (K : PySem.W.Frag) : R2 := fun x y H Q => ∃ a b xs ys, x = .ref a ∧ y = .ref b ∧ SqT K H a xs ∧ SqT K H b ys ∧ xs.length + ys.length ≤ sizeLine ∧
  (xs = [] → Q (.ref b) H) ∧ (xs ≠ [] → ys = [] → Q (.ref a) H) ∧ (xs ≠ [] → ys ≠ [] → ∀ p, H p = none → Q (.ref p) (upd H p (.tup (xs ++ ys))))
theorem op_catTT : OpR X (binaryOp .Add) (rCatTT X.K) := by
  intro pins s σ H x y v u Q I rx ry h
  obtain ⟨a, b, xs, ys, rfl, rfl, ha, hb, hz, q0, q1, q2⟩ := h
  by_cases hx : xs = []
  · cases rx
    cases ry
    obtain ⟨its, r1, p1, _⟩ := I.tuple ha
    obtain ⟨its2, r2, p2, _⟩ := I.tuple hb
    have hi : its = [] := r1.nil_iff.mpr hx
    obtain ⟨⟨cls, dd, data, sl⟩, ho, hc, n, hd⟩ := id p1
    obtain ⟨⟨cls2, dd2, data2, sl2⟩, ho2, hc2, n2, hd2⟩ := id p2
    simp only at hc hd hc2 hd2
    subst hc hd hc2 hd2
    exact concat_meets ⟨_, ho, rfl⟩ ⟨_, ho2, rfl⟩ noFill_tuple_add seq_tuple_add PySem.F.slot_tuple_add PySem.F.entry_tuple_add (PySem.F.args_tuple_add_2 _ _)
      (tuple_addW0 a b its.toArray its2.toArray n n2 dd dd2 sl sl2 (by simp [hi])) ⟨ho, ho2, ⟨.ref b, H, I, rfl, q0 hx⟩⟩
  · exact op_catT pins s σ H _ _ v u Q I rx ry ⟨a, b, xs, ys, rfl, rfl, ha, hb, hx, hz, q1 hx, q2 hx⟩
def catT : List Ev → Mo Ev := fun es δ G => match es with
  | [.v (.im (.tup xs)), .v (.im (.tup ys))] => if xs.length + ys.length ≤ 1000000 then some (.v (.im (.tup (xs ++ ys))), δ, G) else none
  | _ => none
theorem prim_catT : Prim K κ (r2 (rCatTT K)) catT := by
  intro ι H σ δ G es vs e δ' G' Q a h k
  unfold catT at h
  split at h
  · rename_i xs ys
    split at h
    · rename_i hl
      cases h
      obtain ⟨v, u, rfl⟩ := len2 a.len
      have ra := a.im (j := 0) rfl rfl
      have rb := a.im (j := 1) rfl rfl
      cases ra with
      | @tup p vs1 _ h1 r1 =>
        cases rb with
        | @tup q vs2 _ h2 r2 =>
          have l1 := r1.len
          have l2 := r2.len
          refine ⟨_, _, rfl, p, q, vs1, vs2, rfl, rfl, SqT.of h1, SqT.of h2, Nat.le_trans (by omega) (show 1000000 ≤ sizeLine by decide), fun e => ?_, fun _ e => ?_, fun _ _ p' hp => ?_⟩
          · subst e
            cases r1
            exact k _ _ _ (fin_im a (.tup h2 r2))
          · subst e
            cases r2
            exact k _ _ _ (fin_im a (by rw [List.append_nil]; exact .tup h1 r1))
          · exact k _ _ _ (fin_tup a hp (r1.app r2))
    · cases h
  · cases h
def catL : List Ev → Mo Ev := fun es δ G => match es with
  | [a, b] => match pk δ G a, pk δ G b with
    | some (.lst xs), some (.lst ys) => if xs.length + ys.length ≤ 1000000 then some (.v (.ow (.lst (xs ++ ys))), δ, G) else none
    | _, _ => none
  | _ => none
theorem prim_catL : Prim K κ (r2 rCat) catL := by
  intro ι H σ δ G es vs e δ' G' Q a h k
  unfold catL at h
  split at h
  · rename_i x y
    split at h
    · rename_i xs ys hx hy
      split at h
      · rename_i hl
        cases h
        obtain ⟨v, u, rfl⟩ := len2 a.len
        obtain ⟨p, e1, vs1, h1, r1⟩ := a.pk (j := 0) rfl rfl hx
        obtain ⟨q, e2, vs2, h2, r2⟩ := a.pk (j := 1) rfl rfl hy
        subst e1; subst e2
        have l1 := r1.len
        have l2 := r2.len
        exact ⟨_, _, rfl, p, q, vs1, vs2, rfl, rfl, h1, h2, Nat.le_trans (by omega) (show 1000000 ≤ sizeLine by decide), fun p' hp => k _ _ _ (fin_lst a hp (r1.app r2))⟩
      · cases h
    · cases h
  · cases h
def addI : List Ev → Mo Ev := intP fun i j => some (.int (i + j))
def addP : List Ev → Mo Ev := orP addI (orP catS (orP catT catL))
theorem q_add {k : Nat} {A : Around} (hr : Room k A) : OpR X (binaryOp .Add) (fun x y H Q => rI0 (fun i j => .int (i + j)) x y H Q ∨ ((∃ i j, x = .str i ∧ y = .str j ∧ i.length + j.length ≤ sizeLine ∧ Q (.str (i ++ j)) H) ∨ (rCatTT X.K x y H Q ∨ rCat x y H Q))) :=
  op_add.or (op_add_str.or (op_catTT.or op_cat))
theorem p_add : Prim K κ (r2 fun x y H Q => rI0 (fun i j => .int (i + j)) x y H Q ∨ ((∃ i j, x = .str i ∧ y = .str j ∧ i.length + j.length ≤ sizeLine ∧ Q (.str (i ++ j)) H) ∨ (rCatTT K x y H Q ∨ rCat x y H Q))) addP :=
  Prim.or (prim_rI0 fun i j d h ι H => by cases h; exact .int _) (Prim.or prim_catS (Prim.or prim_catT prim_catL))
def subP : List Ev → Mo Ev := intP fun i j => some (.int (i - j))
theorem q_sub {k : Nat} {A : Around} (hr : Room k A) : OpR X (binaryOp .Sub) (rI0 fun i j => .int (i - j)) := op_sub
theorem p_sub : Prim K κ (r2 (rI0 fun i j => .int (i - j))) subP := prim_rI0 fun i j d h ι H => by cases h; exact .int _
def mulI : List Ev → Mo Ev := intP fun i j => if (-(2 ^ 64) < i ∧ i < 2 ^ 64) ∨ (-(2 ^ 64) < j ∧ j < 2 ^ 64) then some (.int (i * j)) else none
def repL : List Ev → Mo Ev := fun es δ G => match es with
  | [a, .v (.im (.int j))] => match pk δ G a with
    | some (.lst xs) => if 0 ≤ j ∧ j ≤ 1000 ∧ xs.length ≤ 1000 then some (.v (.ow (.lst (List.replicate j.toNat xs).flatten)), δ, G) else none
    | _ => none
  | _ => none
theorem RpIs.rep {ι : List Addr} {H : Hp} {vs : List V} {xs : List I} (r : RpIs K ι H vs xs) : ∀ n : Nat, RpIs K ι H (List.replicate n vs).flatten (List.replicate n xs).flatten
  | 0 => .nil
  | n + 1 => by rw [List.replicate_succ, List.replicate_succ, List.flatten_cons, List.flatten_cons]; exact r.app (RpIs.rep r n)
theorem prim_repL : Prim K κ (r2 rRep) repL := by
  intro ι H σ δ G es vs e δ' G' Q a h k
  unfold repL at h
  split at h
  · rename_i x j
    split at h
    · rename_i xs hx
      split at h
      · rename_i hl
        cases h
        obtain ⟨v, u, rfl⟩ := len2 a.len
        obtain ⟨p, e1, vs1, h1, r1⟩ := a.pk (j := 0) rfl rfl hx
        cases a.im (j := 1) rfl rfl
        subst e1
        have l1 := r1.len
        refine ⟨_, _, rfl, p, j, vs1, rfl, rfl, h1, by omega, by omega, Nat.le_trans (Nat.mul_le_mul (show vs1.length ≤ 1000 by omega) (show j.toNat ≤ 1000 by omega)) (show 1000 * 1000 ≤ sizeLine by decide), fun p' hp => k _ _ _ (fin_lst a hp (r1.rep _))⟩
      · cases h
    · cases h
  · cases h
def mulP : List Ev → Mo Ev := orP mulI repL
theorem q_mul {k : Nat} {A : Around} (hr : Room k A) : OpR X (binaryOp .Mult) (fun x y H Q => rI CMul (fun i j => .int (i * j)) x y H Q ∨ rRep x y H Q) := op_mul.or op_rep
theorem p_mul : Prim K κ (r2 fun x y H Q => rI CMul (fun i j => .int (i * j)) x y H Q ∨ rRep x y H Q) mulP := Prim.or (prim_rI fun i j d h => by
  split at h
  · rename_i c; cases h; exact ⟨c, fun ι H => .int _⟩
  · cases h) prim_repL
def fdivP : List Ev → Mo Ev := intP fun i j => if 0 < j ∧ j < 2 ^ 200 then some (.int (i / j)) else none
theorem q_fdiv {k : Nat} {A : Around} (hr : Room k A) : OpR X (binaryOp .FloorDiv) (rI (fun _ j => 0 < j ∧ j < 2 ^ 200) fun i j => .int (i / j)) := op_fdivB
theorem p_fdiv : Prim K κ (r2 (rI (fun _ j => 0 < j ∧ j < 2 ^ 200) fun i j => .int (i / j))) fdivP := prim_rI fun i j d h => by
  split at h
  · rename_i c; cases h; exact ⟨c, fun ι H => .int _⟩
  · cases h
def modP : List Ev → Mo Ev := intP fun i j => if 0 < j then some (.int (i % j)) else none
theorem q_mod {k : Nat} {A : Around} (hr : Room k A) : OpR X (binaryOp .Mod) (rI (fun _ j => 0 < j) fun i j => .int (i % j)) := op_mod
theorem p_mod : Prim K κ (r2 (rI (fun _ j => 0 < j) fun i j => .int (i % j))) modP := prim_rI fun i j d h => by
  split at h
  · rename_i c; cases h; exact ⟨c, fun ι H => .int _⟩
  · cases h
def powP : List Ev → Mo Ev := intP fun i j => if 0 ≤ j ∧ j ≤ 1000000 ∧ i.natAbs < 2 ^ 64 then some (.int (i ^ j.toNat)) else none
theorem q_pow {k : Nat} {A : Around} (hr : Room k A) : OpR X (binaryOp .Pow) (rI CPow fun i j => .int (i ^ j.toNat)) := op_pow
theorem p_pow : Prim K κ (r2 (rI CPow fun i j => .int (i ^ j.toNat))) powP := prim_rI fun i j d h => by
  split at h
  · rename_i c; cases h; exact ⟨c, fun ι H => .int _⟩
  · cases h
def shlP : List Ev → Mo Ev := intP fun i j => if 0 ≤ j ∧ j ≤ 1000000 ∧ i.natAbs < 2 ^ 64 then some (.int (i * 2 ^ j.toNat)) else none
theorem q_shl {k : Nat} {A : Around} (hr : Room k A) : OpR X (binaryOp .LShift) (rI CPow fun i j => .int (i * 2 ^ j.toNat)) := op_shl
theorem p_shl : Prim K κ (r2 (rI CPow fun i j => .int (i * 2 ^ j.toNat))) shlP := prim_rI fun i j d h => by
  split at h
  · rename_i c; cases h; exact ⟨c, fun ι H => .int _⟩
  · cases h
def shrP : List Ev → Mo Ev := intP fun i j => if 0 ≤ j then some (.int (i / 2 ^ j.toNat)) else none
theorem q_shr {k : Nat} {A : Around} (hr : Room k A) : OpR X (binaryOp .RShift) (rI (fun _ j => 0 ≤ j) fun i j => .int (i / 2 ^ j.toNat)) := op_shr
theorem p_shr : Prim K κ (r2 (rI (fun _ j => 0 ≤ j) fun i j => .int (i / 2 ^ j.toNat))) shrP := prim_rI fun i j d h => by
  split at h
  · rename_i c; cases h; exact ⟨c, fun ι H => .int _⟩
  · cases h
def andP : List Ev → Mo Ev := intP fun i j => some (.int (Builtin.bitAnd i j))
theorem q_and {k : Nat} {A : Around} (hr : Room k A) : OpR X (binaryOp .BitAnd) (rI0 fun i j => .int (Builtin.bitAnd i j)) := op_and
theorem p_and : Prim K κ (r2 (rI0 fun i j => .int (Builtin.bitAnd i j))) andP := prim_rI0 fun i j d h ι H => by cases h; exact .int _
def xorP : List Ev → Mo Ev := intP fun i j => some (.int (Builtin.bitXor i j))
theorem q_xor {k : Nat} {A : Around} (hr : Room k A) : OpR X (binaryOp .BitXor) (rI0 fun i j => .int (Builtin.bitXor i j)) := op_xor
theorem p_xor : Prim K κ (r2 (rI0 fun i j => .int (Builtin.bitXor i j))) xorP := prim_rI0 fun i j d h ι H => by cases h; exact .int _
def negP : List Ev → Mo Ev := fun es δ G => match es with
  | [.v (.im (.int i))] => some (.v (.im (.int (-i))), δ, G)
  | _ => none
theorem prim_neg : Prim K κ (r1 (rU fun i => .int (-i))) negP := by
  intro ι H σ δ G es vs e δ' G' Q a h k
  unfold negP at h
  split at h
  · rename_i i
    cases h
    obtain ⟨v, rfl⟩ := len1 a.len
    cases a.im (j := 0) rfl rfl
    exact ⟨_, rfl, i, rfl, k _ _ _ (fin_im a (.int _))⟩
  · cases h
theorem e_neg {a : Expr} {fa : Mo Ev} {pos : Pos} (h : LE X κ a fa) : LE X κ (.UnaryOp .USub a pos) (unF negP fa) := e_un un_neg prim_neg h
def ltP : List Ev → Mo Ev := intP fun i j => some (.bl (decide (i < j)))
def leP : List Ev → Mo Ev := intP fun i j => some (.bl (decide (i ≤ j)))
def gtP : List Ev → Mo Ev := intP fun i j => some (.bl (decide (j < i)))
def geP : List Ev → Mo Ev := intP fun i j => some (.bl (decide (j ≤ i)))
end
end B
set_option maxHeartbeats 400000
namespace B
open PySem PySem.Spec PyProof.Rows L2
section
variable {X : Cx} {K : PySem.W.Frag} {κ : Str → Addr} {H : Hp}
def isTp (K : PySem.W.Frag) (H : Hp) (x : V) : Prop := ∃ a xs, x = .ref a ∧ SqT K H a xs
def EqF (K : PySem.W.Frag) (H : Hp) (x y : V) (b : Bool) : Prop := (flatV x = true ∧ flatV y = true ∧ b = eqV x y) ∨ (isTp K H x ∧ flatV y = true ∧ b = false) ∨ (flatV x = true ∧ isTp K H y ∧ b = false)
def EqV (K : PySem.W.Frag) (H : Hp) : Nat → V → V → Bool → Prop
  | 0, x, y, b => EqF K H x y b
  | n + 1, x, y, b => EqF K H x y b ∨ ∃ a c xs ys e, x = .ref a ∧ y = .ref c ∧ SqT K H a xs ∧ SqT K H c ys ∧ (∀ (j : Nat) u w, xs[j]? = some u → ys[j]? = some w → EqV K H n u w (e j)) ∧ b = ((List.range (min xs.length ys.length)).all e && xs.length == ys.length)
theorem eqV_refl {x : V} (h : flatV x = true) : eqV x x = true := by
  cases x with
  | non => rfl
  | bl b => exact beq_self_eq_true b
  | int i => exact beq_self_eq_true i
  | str z => exact beq_self_eq_true z
  | _ => cases h
theorem EqF.refl {pins : List (Addr × Obj)} {σ : L2.St} {s : Shared} {x : V} {b : Bool} (I : Inv X pins σ H s) (h : EqF X.K H x x b) : b = true := by
  rcases h with ⟨h1, _, rfl⟩ | ⟨⟨a, xs, rfl, _⟩, h2, _⟩ | ⟨h2, ⟨a, xs, rfl, _⟩, _⟩
  · exact eqV_refl h1
  · cases h2
  · cases h2
theorem EqV.refl {pins : List (Addr × Obj)} {σ : L2.St} {s : Shared} (I : Inv X pins σ H s) : ∀ {n : Nat} {x : V} {b : Bool}, EqV X.K H n x x b → b = true
  | 0, _, _, h => EqF.refl I h
  | n + 1, x, b, h => by
    rcases h with h | ⟨a, c, xs, ys, e, e1, e2, h1, h2, he, rfl⟩
    · exact EqF.refl I h
    · subst e1; cases e2
      have := I.tuple_inj h1 h2
      subst this
      rw [Nat.min_self]
      have : (List.range xs.length).all e = true := by
        rw [List.all_eq_true]
        intro j hj
        have hj : j < xs.length := by simpa using hj
        exact EqV.refl I (he j _ _ (List.getElem?_eq_getElem hj) (List.getElem?_eq_getElem hj))
      rw [this]; simp
theorem seqEl {xs : List V} {us : List Value} {j : Nat} (r : Vals xs us) (h : j < us.toArray.size) : ∃ x, xs[j]? = some x ∧ RelV x us.toArray[j] := by
  have l := r.length
  have h' : j < xs.length := by rw [l]; simpa using h
  obtain ⟨u, eu, ru⟩ := r.get (List.getElem?_eq_getElem h')
  refine ⟨_, List.getElem?_eq_getElem h', ?_⟩
  have : us.toArray[j]? = some u := by simpa using eu
  rw [Array.getElem?_eq_getElem h] at this
  rw [Option.some.inj this]
  exact ru
theorem eqF_at {A : Around} {pins : List (Addr × Obj)} {σ : L2.St} {s : Shared} {x y : V} {u w : Value} {b : Bool} (I : Inv X pins σ H s) (h : EqF X.K H x y b) (ru : RelV x u) (rw' : RelV y w) (hu : A.units < cLine) : SeqAt.EqAt A s u w b := by
  rcases h with ⟨h1, h2, rfl⟩ | ⟨⟨a, xs, rfl, ht⟩, h2, rfl⟩ | ⟨h2, ⟨a, xs, rfl, ht⟩, rfl⟩
  · exact eqAt_V ru rw' h1 h2
  · cases ru
    obtain ⟨its, r1, p1, _⟩ := I.tuple ht
    have p1 : s.heap.IsTuple a its.toArray := p1
    cases y with
    | non => cases rw'; exact SeqAt.EqAt.tuple_none p1 hu
    | bl c => cases rw'; exact SeqAt.EqAt.tuple_bool _ p1 hu
    | int i => obtain ⟨t, rfl⟩ := rw'; exact SeqAt.EqAt.tuple_int _ _ p1 hu
    | str z => obtain ⟨t, rfl⟩ := rw'; exact SeqAt.EqAt.tuple_str _ _ p1 hu
    | _ => cases h2
  · cases rw'
    obtain ⟨its, r1, p1, _⟩ := I.tuple ht
    have p1 : s.heap.IsTuple a its.toArray := p1
    cases x with
    | non => cases ru; exact SeqAt.EqAt.none_tuple p1 hu
    | bl c => cases ru; exact SeqAt.EqAt.bool_tuple _ p1 hu
    | int i => obtain ⟨t, rfl⟩ := ru; exact SeqAt.EqAt.int_tuple _ _ p1 hu
    | str z => obtain ⟨t, rfl⟩ := ru; exact SeqAt.EqAt.str_tuple _ _ p1 hu
    | _ => cases h2
theorem eqV_at : ∀ {n : Nat} {A : Around} {pins : List (Addr × Obj)} {σ : L2.St} {s : Shared} {x y : V} {u w : Value} {b : Bool}, Inv X pins σ H s → EqV X.K H n x y b → RelV x u → RelV y w → A.units + n < cLine → SeqAt.EqAt A s u w b
  | 0, _, _, _, _, _, _, _, _, _, I, h, ru, rw', hu => eqF_at I h ru rw' hu
  | n + 1, A, _, _, s, _, _, _, _, _, I, h, ru, rw', hu => by
    rcases h with h | ⟨a, c, xs, ys, e, e1, e2, h1, h2, he, rfl⟩
    · exact eqF_at I h ru rw' (by omega)
    · subst e1; subst e2
      cases ru; cases rw'
      by_cases hac : a = c
      · subst hac
        have := EqV.refl (n := n + 1) I (.inr ⟨a, a, xs, ys, e, rfl, rfl, h1, h2, he, rfl⟩)
        rw [this]
        exact SeqAt.EqAt.same _
      · obtain ⟨its, r1, p1, _⟩ := I.tuple h1
        obtain ⟨its2, r2, p2, _⟩ := I.tuple h2
        have q := SeqAt.RcAt.tuples (A := A) (e := e) (show s.heap.IsTuple a its.toArray from p1) (show s.heap.IsTuple c its2.toArray from p2) (by omega) (fun j z1 z2 => by
          obtain ⟨x, ex, rx⟩ := seqEl r1 z1
          obtain ⟨y, ey, ry⟩ := seqEl r2 z2
          exact eqV_at I (he j x y ex ey) rx ry (by show A.units + 1 + n < cLine; omega))
        rw [List.size_toArray, List.size_toArray, ← r1.length, ← r2.length] at q
        exact SeqAt.EqAt.of_refs hac q
end
end B
namespace B
open PySem PySem.Spec PyProof.Rows L2
section
variable {X : Cx} {K : PySem.W.Frag} {κ : Str → Addr} {H : Hp}
/-- two lists -/
def EqL (K : PySem.W.Frag) (H : Hp) (n : Nat) (x y : V) (b : Bool) : Prop := ∃ a c xs ys, x = .ref a ∧ y = .ref c ∧ SqL K H a xs ∧ SqL K H c ys ∧ ((xs.length ≠ ys.length ∧ b = false) ∨ (xs.length = ys.length ∧ ∃ e, (∀ (j : Nat) u w, xs[j]? = some u → ys[j]? = some w → EqV K H n u w (e j)) ∧ b = (List.range xs.length).all e))
def EqTop (K : PySem.W.Frag) (H : Hp) (x y : V) (b : Bool) : Prop := (scal x y = true ∧ b = decide (x = y)) ∨ (isTp K H x ∧ flatV y = true ∧ b = false) ∨ (flatV x = true ∧ isTp K H y ∧ b = false) ∨
  (∃ a c xs ys e, x = .ref a ∧ y = .ref c ∧ SqT K H a xs ∧ SqT K H c ys ∧ (∀ (j : Nat) u w, xs[j]? = some u → ys[j]? = some w → EqV K H 40 u w (e j)) ∧ b = ((List.range (min xs.length ys.length)).all e && xs.length == ys.length)) ∨ EqL K H 40 x y b
theorem op_eqN (hu : X.A.units + 50 < cLine) : OpR X (compareOp .Eq) (fun x y H Q => ∃ b, EqTop X.K H x y b ∧ Q (.bl b) H) := by
  intro pins s σ H x y v u Q I rx ry h
  obtain ⟨b, h, q⟩ := h
  have hu0 : X.A.units < cLine := by omega
  have hel : ∀ {xs ys : List V} {us ws : List Value} {e : Nat → Bool}, Vals xs us → Vals ys ws → (∀ (j : Nat) u w, xs[j]? = some u → ys[j]? = some w → EqV X.K H 40 u w (e j)) → ∀ j (z1 : j < us.toArray.size) (z2 : j < ws.toArray.size), SeqAt.EqAt X.A.in1 s us.toArray[j] ws.toArray[j] (e j) := fun r1 r2 he j z1 z2 => by
    obtain ⟨x, ex, rx⟩ := seqEl r1 z1
    obtain ⟨y, ey, ry⟩ := seqEl r2 z2
    exact eqV_at I (he j x y ex ey) rx ry (by show X.A.units + 1 + 40 < cLine; omega)
  rcases h with ⟨hs, rfl⟩ | ⟨⟨a, xs, rfl, ht⟩, h2, rfl⟩ | ⟨h2, ⟨a, xs, rfl, ht⟩, rfl⟩ | ⟨a, c, xs, ys, e, rfl, rfl, h1, h2, he, rfl⟩ | ⟨a, c, xs, ys, rfl, rfl, h1, h2, h3⟩
  · exact op_eq pins s σ H x y v u Q I rx ry ⟨hs, q⟩
  · cases rx
    obtain ⟨its, r1, p1, _⟩ := I.tuple ht
    have p1 : s.heap.IsTuple a its.toArray := p1
    have fin : EP X pins σ Q (.bool false) s := ⟨.bl false, H, I, rfl, q⟩
    cases y with
    | non => cases ry; exact SeqAt.RcAt.tuple_none p1 hu0 _ _ _ _ fin
    | bl c => cases ry; exact SeqAt.RcAt.tuple_bool _ p1 hu0 _ _ _ _ fin
    | int i => obtain ⟨t, rfl⟩ := ry; exact SeqAt.RcAt.tuple_int _ _ p1 hu0 _ _ _ _ fin
    | str z => obtain ⟨t, rfl⟩ := ry; exact SeqAt.RcAt.tuple_str _ _ p1 hu0 _ _ _ _ fin
    | _ => cases h2
  · cases ry
    obtain ⟨its, r1, p1, _⟩ := I.tuple ht
    have p1 : s.heap.IsTuple a its.toArray := p1
    have fin : EP X pins σ Q (.bool false) s := ⟨.bl false, H, I, rfl, q⟩
    cases x with
    | non => cases rx; exact SeqAt.RcAt.none_tuple p1 hu0 _ _ _ _ fin
    | bl c => cases rx; exact SeqAt.RcAt.bool_tuple _ p1 hu0 _ _ _ _ fin
    | int i => obtain ⟨t, rfl⟩ := rx; exact SeqAt.RcAt.int_tuple _ _ p1 hu0 _ _ _ _ fin
    | str z => obtain ⟨t, rfl⟩ := rx; exact SeqAt.RcAt.str_tuple _ _ p1 hu0 _ _ _ _ fin
    | _ => cases h2
  · cases rx; cases ry
    obtain ⟨its, r1, p1, _⟩ := I.tuple h1
    obtain ⟨its2, r2, p2, _⟩ := I.tuple h2
    refine SeqAt.RcAt.tuples (e := e) (show s.heap.IsTuple a its.toArray from p1) (show s.heap.IsTuple c its2.toArray from p2) hu0 (hel r1 r2 he) _ _ _ _ ?_
    rw [List.size_toArray, List.size_toArray, ← r1.length, ← r2.length]
    exact ⟨.bl _, H, I, rfl, q⟩
  · cases rx; cases ry
    obtain ⟨its, r1, p1, _⟩ := I.list h1
    obtain ⟨its2, r2, p2, _⟩ := I.list h2
    have l1 := r1.length
    have l2 := r2.length
    rcases h3 with ⟨hn, rfl⟩ | ⟨hn, e, he, rfl⟩
    · exact SeqAt.RcAt.lists_lengths p1.isList p2.isList (by simp; omega) hu0 X.prog X.w X.xe _ ⟨.bl _, H, I, rfl, q⟩
    · refine SeqAt.eq_listAt p1.isList p2.isList (by simp; omega) hu0 (hel r1 r2 he) ?_
      rw [List.size_toArray, ← l1]
      exact ⟨.bl _, H, I, rfl, q⟩
end
end B
namespace B
open PySem PySem.Spec PyProof.Rows L2
section
variable {X : Cx} {K : PySem.W.Frag} {κ : Str → Addr} {H : Hp}
theorem op_neN (hu : X.A.units + 50 < cLine) : OpR X (compareOp .NotEq) (fun x y H Q => ∃ b, EqTop X.K H x y b ∧ Q (.bl (!b)) H) := by
  intro pins s σ H x y v u Q I rx ry h
  obtain ⟨b, h, q⟩ := h
  have hu0 : X.A.units < cLine := by omega
  have hel : ∀ {xs ys : List V} {us ws : List Value} {e : Nat → Bool}, Vals xs us → Vals ys ws → (∀ (j : Nat) u w, xs[j]? = some u → ys[j]? = some w → EqV X.K H 40 u w (e j)) → ∀ j (z1 : j < us.toArray.size) (z2 : j < ws.toArray.size), SeqAt.EqAt X.A.in1 s us.toArray[j] ws.toArray[j] (e j) := fun r1 r2 he j z1 z2 => by
    obtain ⟨x, ex, rx⟩ := seqEl r1 z1
    obtain ⟨y, ey, ry⟩ := seqEl r2 z2
    exact eqV_at I (he j x y ex ey) rx ry (by show X.A.units + 1 + 40 < cLine; omega)
  rcases h with ⟨hs, rfl⟩ | ⟨⟨a, xs, rfl, ht⟩, h2, rfl⟩ | ⟨h2, ⟨a, xs, rfl, ht⟩, rfl⟩ | ⟨a, c, xs, ys, e, rfl, rfl, h1, h2, he, rfl⟩ | ⟨a, c, xs, ys, rfl, rfl, h1, h2, h3⟩
  · exact op_ne pins s σ H x y v u Q I rx ry ⟨hs, q⟩
  · cases rx
    obtain ⟨its, r1, p1, _⟩ := I.tuple ht
    have p1 : s.heap.IsTuple a its.toArray := p1
    have fin : EP X pins σ Q (.bool true) s := ⟨.bl true, H, I, rfl, q⟩
    cases y with
    | non => cases ry; exact SeqAt.RcNeAt.tuple_none p1 hu0 _ _ _ _ fin
    | bl c => cases ry; exact SeqAt.RcNeAt.tuple_bool _ p1 hu0 _ _ _ _ fin
    | int i => obtain ⟨t, rfl⟩ := ry; exact SeqAt.RcNeAt.tuple_int _ _ p1 hu0 _ _ _ _ fin
    | str z => obtain ⟨t, rfl⟩ := ry; exact SeqAt.RcNeAt.tuple_str _ _ p1 hu0 _ _ _ _ fin
    | _ => cases h2
  · cases ry
    obtain ⟨its, r1, p1, _⟩ := I.tuple ht
    have p1 : s.heap.IsTuple a its.toArray := p1
    have fin : EP X pins σ Q (.bool true) s := ⟨.bl true, H, I, rfl, q⟩
    cases x with
    | non => cases rx; exact SeqAt.RcNeAt.none_tuple p1 hu0 _ _ _ _ fin
    | bl c => cases rx; exact SeqAt.RcNeAt.bool_tuple _ p1 hu0 _ _ _ _ fin
    | int i => obtain ⟨t, rfl⟩ := rx; exact SeqAt.RcNeAt.int_tuple _ _ p1 hu0 _ _ _ _ fin
    | str z => obtain ⟨t, rfl⟩ := rx; exact SeqAt.RcNeAt.str_tuple _ _ p1 hu0 _ _ _ _ fin
    | _ => cases h2
  · cases rx; cases ry
    obtain ⟨its, r1, p1, _⟩ := I.tuple h1
    obtain ⟨its2, r2, p2, _⟩ := I.tuple h2
    refine SeqAt.RcNeAt.tuples (e := e) (show s.heap.IsTuple a its.toArray from p1) (show s.heap.IsTuple c its2.toArray from p2) hu0 (hel r1 r2 he) _ _ _ _ ?_
    rw [List.size_toArray, List.size_toArray, ← r1.length, ← r2.length]
    exact ⟨.bl _, H, I, rfl, q⟩
  · cases rx; cases ry
    obtain ⟨its, r1, p1, _⟩ := I.list h1
    obtain ⟨its2, r2, p2, _⟩ := I.list h2
    have l1 := r1.length
    have l2 := r2.length
    rcases h3 with ⟨hn, rfl⟩ | ⟨hn, e, he, rfl⟩
    · exact SeqAt.RcNeAt.lists_lengths p1.isList p2.isList (by simp; omega) hu0 X.prog X.w X.xe _ ⟨.bl _, H, I, rfl, q⟩
    · refine SeqAt.RcNeAt.lists p1.isList p2.isList (by simp; omega) hu0 (hel r1 r2 he) X.prog X.w X.xe _ ?_
      rw [List.size_toArray, ← l1]
      exact ⟨.bl _, H, I, rfl, q⟩
end
end B
namespace B
open PySem PySem.Spec PyProof.Rows L2
section
variable {X : Cx} {K : PySem.W.Frag} {κ : Str → Addr} {H : Hp}
def eqZ (f : I → I → Option Bool) : List I → List I → Option Bool
  | [], [] => some true
  | x :: xs, y :: ys => match f x y, eqZ f xs ys with
    | some b, some c => some (b && c)
    | _, _ => none
  | [], _ :: _ => some false
  | _ :: _, [] => some false
def tpl : I → Option (List I)
  | .tup xs => some xs
  | .con xs => some xs
  | _ => none
def flI : I → Bool
  | .non => true
  | .bl _ => true
  | .int _ => true
  | .str _ => true
  | _ => false
def eqFl : I → I → Bool
  | .non, .non => true
  | .bl a, .bl b => a == b
  | .bl a, .int b => (if a then 1 else 0) == b
  | .int a, .bl b => a == (if b then 1 else 0)
  | .int a, .int b => a == b
  | .str a, .str b => a == b
  | _, _ => false
def eqD : Nat → I → I → Option Bool
  | 0, x, y => if flI x && flI y then some (eqFl x y) else if ((tpl x).isSome && flI y) || (flI x && (tpl y).isSome) then some false else none
  | n + 1, x, y => if flI x && flI y then some (eqFl x y) else if ((tpl x).isSome && flI y) || (flI x && (tpl y).isSome) then some false else match tpl x, tpl y with
    | some xs, some ys => eqZ (eqD n) xs ys
    | _, _ => none
variable {ι : List Addr}
theorem flat_of {v : V} {x : I} (r : RpI K ι H v x) (h : flI x = true) : flatV v = true := by cases r <;> first | rfl | cases h
theorem eqFl_of {v w : V} {x y : I} (r : RpI K ι H v x) (r' : RpI K ι H w y) (h : flI x = true) (h' : flI y = true) : eqFl x y = eqV v w := by
  cases r <;> cases r' <;> first | rfl | exact Bool.noConfusion h | exact Bool.noConfusion h'
theorem tp_of {v : V} {x : I} {xs : List I} (r : RpI K ι H v x) (h : tpl x = some xs) : ∃ a vs, v = .ref a ∧ SqT K H a vs ∧ RpIs K ι H vs xs := by
  cases r with
  | tup h1 h2 => cases h; exact ⟨_, _, rfl, SqT.of h1, h2⟩
  | con h1 h2 => cases h; exact ⟨_, _, rfl, SqT.kon h1, h2⟩
  | _ => cases h
theorem eqZ_at {f : I → I → Option Bool} {E : V → V → Bool → Prop} (hf : ∀ {v w x y b}, RpI K ι H v x → RpI K ι H w y → f x y = some b → E v w b) : ∀ {vs ws : List V} {xs ys : List I} {b : Bool}, RpIs K ι H vs xs → RpIs K ι H ws ys → eqZ f xs ys = some b →
    ∃ e : Nat → Bool, (∀ (j : Nat) u w, vs[j]? = some u → ws[j]? = some w → E u w (e j)) ∧ b = ((List.range (min vs.length ws.length)).all e && vs.length == ws.length)
  | [], [], _, _, b, .nil, .nil, h => by cases h; exact ⟨fun _ => true, fun j u w e => by simp at e, rfl⟩
  | [], _ :: _, _, _, b, .nil, .cons _ _, h => by cases h; exact ⟨fun _ => true, fun j u w e => by simp at e, by simp⟩
  | _ :: _, [], _, _, b, .cons _ _, .nil, h => by cases h; exact ⟨fun _ => true, fun j u w _ e => by simp at e, by simp⟩
  | v :: vs, w :: ws, _, _, b, .cons r rs, .cons r' rs', h => by
    unfold eqZ at h
    split at h
    · rename_i b0 c h0 h1
      cases h
      obtain ⟨e', he, rfl⟩ := eqZ_at hf rs rs' h1
      refine ⟨fun j => match j with | 0 => b0 | j + 1 => e' j, fun j u w' e1 e2 => ?_, ?_⟩
      · cases j with
        | zero => simp at e1 e2; subst e1; subst e2; exact hf r r' h0
        | succ j => exact he j u w' (by simpa using e1) (by simpa using e2)
      · have e3 : min (v :: vs).length (w :: ws).length = min vs.length ws.length + 1 := by simp only [List.length_cons]; omega
        rw [e3, range_succ_all]
        have e4 : ((v :: vs).length == (w :: ws).length) = (vs.length == ws.length) := by simp
        rw [e4, Bool.and_assoc]
    · cases h
theorem eqD_at : ∀ {n : Nat} {v w : V} {x y : I} {b : Bool}, RpI K ι H v x → RpI K ι H w y → eqD n x y = some b → EqV K H n v w b := by
  have base : ∀ {v w : V} {x y : I} {b : Bool} {o : Option Bool}, RpI K ι H v x → RpI K ι H w y → (if flI x && flI y then some (eqFl x y) else if ((tpl x).isSome && flI y) || (flI x && (tpl y).isSome) then some false else o) = some b → EqF K H v w b ∨ o = some b := fun {v w x y b o} r r' h => by
    split at h
    · rename_i hf
      rw [Bool.and_eq_true] at hf
      cases h
      exact .inl (.inl ⟨flat_of r hf.1, flat_of r' hf.2, eqFl_of r r' hf.1 hf.2⟩)
    · split at h
      · rename_i hf
        cases h
        rw [Bool.or_eq_true, Bool.and_eq_true, Bool.and_eq_true] at hf
        rcases hf with ⟨h1, h2⟩ | ⟨h1, h2⟩
        · obtain ⟨xs, hx⟩ := Option.isSome_iff_exists.mp h1
          obtain ⟨a, vs, e1, h3, _⟩ := tp_of r hx
          exact .inl (.inr (.inl ⟨⟨a, vs, e1, h3⟩, flat_of r' h2, rfl⟩))
        · obtain ⟨xs, hx⟩ := Option.isSome_iff_exists.mp h2
          obtain ⟨a, vs, e1, h3, _⟩ := tp_of r' hx
          exact .inl (.inr (.inr ⟨flat_of r h1, ⟨a, vs, e1, h3⟩, rfl⟩))
      · exact .inr h
  intro n
  induction n with
  | zero =>
    intro v w x y b r r' h
    unfold eqD at h
    rcases base r r' h with q | q
    · exact q
    · cases q
  | succ n ih =>
    intro v w x y b r r' h
    unfold eqD at h
    rcases base r r' h with q | q
    · exact .inl q
    · split at q
      · rename_i xs ys hx hy
        obtain ⟨a, vs, e1, h1, r1⟩ := tp_of r hx
        obtain ⟨c, ws, e2, h2, r2⟩ := tp_of r' hy
        obtain ⟨e, he, hb⟩ := eqZ_at (E := fun u w b => EqV K H n u w b) (fun r r' h => ih r r' h) r1 r2 q
        exact .inr ⟨a, c, vs, ws, e, e1, e2, h1, h2, he, hb⟩
      · cases q
theorem eqV_dec {x y : V} (h : scal x y = true) (hf : flatV x = true) : eqV x y = decide (x = y) := by
  cases x <;> cases y <;> first | rfl | exact Bool.noConfusion h | exact Bool.noConfusion hf | skip
  · rename_i a b
    show (a == b) = _
    by_cases e : a = b
    · subst e; simp
    · rw [beq_eq_false_iff_ne.mpr e, decide_eq_false (fun z => e (by injection z))]
  · rename_i a b
    show (a == b) = _
    by_cases e : a = b
    · subst e; simp
    · rw [beq_eq_false_iff_ne.mpr e, decide_eq_false (fun z => e (by injection z))]
  · rename_i a b
    show (a == b) = _
    by_cases e : a = b
    · subst e; simp
    · rw [beq_eq_false_iff_ne.mpr e, decide_eq_false (fun z => e (by injection z))]
def mixI : I → I → Bool
  | .bl _, .int _ => true
  | .int _, .bl _ => true
  | _, _ => false
def eqE (δ : De) (G : List M) (a b : Ev) : Option Bool :=
  match imE a, imE b with
  | some x, some y => if mixI x y then none else match eqD 41 x y with
    | some r => some r
    | none => match pk δ G a, pk δ G b with
      | some (.lst xs), some (.lst ys) => eqZ (eqD 40) xs ys
      | _, _ => none
  | _, _ => match pk δ G a, pk δ G b with
    | some (.lst xs), some (.lst ys) => eqZ (eqD 40) xs ys
    | _, _ => none
def eqP : List Ev → Mo Ev := fun es δ G => match es with
  | [a, b] => match eqE δ G a b with
    | some r => some (.v (.im (.bl r)), δ, G)
    | none => none
  | _ => none
def neP : List Ev → Mo Ev := fun es δ G => match es with
  | [a, b] => match eqE δ G a b with
    | some r => some (.v (.im (.bl (!r))), δ, G)
    | none => none
  | _ => none
theorem eqE_top {σ : L2.St} {δ : De} {G : List M} {a b : Ev} {v u : V} {r : Bool} (A : Args K κ ι H σ δ G [a, b] [v, u]) (h : eqE δ G a b = some r) : EqTop K H v u r := by
  have lists : (match pk δ G a, pk δ G b with | some (.lst xs), some (.lst ys) => eqZ (eqD 40) xs ys | _, _ => none) = some r → EqTop K H v u r := fun h => by
    split at h
    · rename_i xs ys hx hy
      obtain ⟨p, e1, vs, h1, r1⟩ := A.pk (j := 0) rfl rfl hx
      obtain ⟨q, e2, ws, h2, r2⟩ := A.pk (j := 1) rfl rfl hy
      obtain ⟨e, he, hb⟩ := eqZ_at (E := fun u w b => EqV K H 40 u w b) (fun r r' h => eqD_at r r' h) r1 r2 h
      refine .inr (.inr (.inr (.inr ⟨p, q, vs, ws, e1, e2, SqL.of h1, SqL.of h2, ?_⟩)))
      by_cases hl : vs.length = ws.length
      · refine .inr ⟨hl, e, he, ?_⟩
        rw [hb, ← hl, Nat.min_self]; simp
      · refine .inl ⟨hl, ?_⟩
        rw [hb]
        have : (vs.length == ws.length) = false := by simpa using hl
        rw [this, Bool.and_false]
    · cases h
  unfold eqE at h
  split at h
  · rename_i x y hx hy
    split at h
    · cases h
    · rename_i hm
      split at h
      · rename_i r' hr
        cases h
        have ra : RpI K ι H v x := by
          cases a with
          | s i => cases hx
          | v z => cases z with
            | ow m => cases hx
            | im d => cases hx; exact A.im (j := 0) rfl rfl
        have rb : RpI K ι H u y := by
          cases b with
          | s i => cases hy
          | v z => cases z with
            | ow m => cases hy
            | im d => cases hy; exact A.im (j := 1) rfl rfl
        rcases eqD_at ra rb hr with q | ⟨a', c, xs, ys, e, e1, e2, h1, h2, he, hb⟩
        · rcases q with ⟨h1, h2, rfl⟩ | ⟨h1, h2, rfl⟩ | ⟨h1, h2, rfl⟩
          · refine .inl ⟨?_, ?_⟩
            · cases ra <;> cases rb <;> first | rfl | exact Bool.noConfusion h1 | exact Bool.noConfusion h2 | exact absurd rfl hm
            · refine eqV_dec ?_ h1
              cases ra <;> cases rb <;> first | rfl | exact Bool.noConfusion h1 | exact Bool.noConfusion h2 | exact absurd rfl hm
          · exact .inr (.inl ⟨h1, h2, rfl⟩)
          · exact .inr (.inr (.inl ⟨h1, h2, rfl⟩))
        · exact .inr (.inr (.inr (.inl ⟨a', c, xs, ys, e, e1, e2, h1, h2, he, hb⟩)))
      · exact lists h
  · exact lists h
theorem prim_eq : Prim K κ (r2 fun x y H Q => ∃ b, EqTop K H x y b ∧ Q (.bl b) H) eqP := by
  intro ι H σ δ G es vs e δ' G' Q a h k
  unfold eqP at h
  split at h
  · split at h
    · rename_i r hr
      cases h
      obtain ⟨v, u, rfl⟩ := len2 a.len
      exact ⟨_, _, rfl, r, eqE_top a hr, k _ _ _ (fin_im a (.bl _))⟩
    · cases h
  · cases h
theorem prim_ne : Prim K κ (r2 fun x y H Q => ∃ b, EqTop K H x y b ∧ Q (.bl (!b)) H) neP := by
  intro ι H σ δ G es vs e δ' G' Q a h k
  unfold neP at h
  split at h
  · split at h
    · rename_i r hr
      cases h
      obtain ⟨v, u, rfl⟩ := len2 a.len
      exact ⟨_, _, rfl, r, eqE_top a hr, k _ _ _ (fin_im a (.bl _))⟩
    · cases h
  · cases h
end
section
variable {X : Cx} {κ : Str → Addr} {a b : Expr} {fa fb : Mo Ev} {pos : Pos} {k : Nat}
theorem hu50 (hr : Room k X.A) : X.A.units + 50 < cLine := by have := hr.units; omega
theorem e_eq (hr : Room k X.A) (ha : LE X κ a fa) (hb : LE X κ b fb) : LE X κ (.Compare a [.Eq] [b] pos) (opF eqP fa fb) := e_cmpR (op_eqN (hu50 hr)) prim_eq ha hb (nomark _)
theorem t_eq (hr : Room k X.A) (ha : LE X κ a fa) (hb : LE X κ b fb) : LT X κ (.Compare a [.Eq] [b] pos) (tstF (opF eqP fa fb)) := t_cmpR (op_eqN (hu50 hr)) prim_eq ha hb (nomark _)
theorem t_ne (hr : Room k X.A) (ha : LE X κ a fa) (hb : LE X κ b fb) : LT X κ (.Compare a [.NotEq] [b] pos) (tstF (opF neP fa fb)) := t_cmpR (op_neN (hu50 hr)) prim_ne ha hb (nomark _)
theorem t_lt (hr : Room k X.A) (ha : LE X κ a fa) (hb : LE X κ b fb) : LT X κ (.Compare a [.Lt] [b] pos) (tstF (opF ltP fa fb)) := t_cmpR op_lt (prim_rI0 fun i j d h ι H => by cases h; exact .bl _) ha hb (nomark _)
theorem t_le (hr : Room k X.A) (ha : LE X κ a fa) (hb : LE X κ b fb) : LT X κ (.Compare a [.LtE] [b] pos) (tstF (opF leP fa fb)) := t_cmpR op_le (prim_rI0 fun i j d h ι H => by cases h; exact .bl _) ha hb (nomark _)
theorem t_gt (hr : Room k X.A) (ha : LE X κ a fa) (hb : LE X κ b fb) : LT X κ (.Compare a [.Gt] [b] pos) (tstF (opF gtP fa fb)) := t_cmpR op_gt (prim_rI0 fun i j d h ι H => by cases h; exact .bl _) ha hb (nomark _)
theorem t_ge (hr : Room k X.A) (ha : LE X κ a fa) (hb : LE X κ b fb) : LT X κ (.Compare a [.GtE] [b] pos) (tstF (opF geP fa fb)) := t_cmpR op_ge (prim_rI0 fun i j d h ι H => by cases h; exact .bl _) ha hb (nomark _)
end
end B
namespace B
open PySem PySem.Spec PyProof.Rows L2
section
variable {X : Cx} {K : PySem.W.Frag} {κ : Str → Addr} {ι : List Addr} {H : Hp}
theorem RpIs.at {vs : List V} {xs : List I} {i : Int} {d : I} (r : RpIs K ι H vs xs) (h : atI xs i = some d) : ∃ v, atI vs i = some v ∧ RpI K ι H v d := by
  unfold atI at h ⊢
  rw [r.len]
  cases q : ixN xs.length i with
  | none => rw [q] at h; cases h
  | some j =>
    rw [q] at h
    obtain ⟨v, hv, rv⟩ := r.get (i := j) h
    exact ⟨v, hv, rv⟩
def ixS : List Ev → Mo Ev := fun es δ G => match es with
  | [a, .v (.im (.int i))] => match sq δ G a with
    | some xs => match atI xs i with
      | some d => some (.v (.im d), δ, G)
      | none => none
    | none => match a with
      | .v (.im (.str z)) => match atI z.cps.toList i with
        | some c => if z.length ≤ 1000000 then some (.v (.im (.str ⟨#[c]⟩)), δ, G) else none
        | none => none
      | _ => none
  | _ => none
theorem prim_ixS : Prim K κ (r2 (rIx K)) ixS := by
  intro ι H σ δ G es vs e δ' G' Q a h k
  unfold ixS at h
  split at h
  · rename_i x i
    split at h
    · rename_i xs hx
      split at h
      · rename_i d hd
        cases h
        obtain ⟨v, u, rfl⟩ := len2 a.len
        obtain ⟨p, ys, e1, h1, r⟩ := a.sq (j := 0) rfl rfl hx
        cases a.im (j := 1) rfl rfl
        subst e1
        obtain ⟨w, hw, rw'⟩ := r.at hd
        rcases h1 with h1 | h1
        · exact ⟨_, _, rfl, .inl ⟨p, ys, i, w, rfl, rfl, h1, hw, k _ _ _ (fin_im a rw')⟩⟩
        · exact ⟨_, _, rfl, .inr (.inl ⟨p, ys, i, w, rfl, rfl, h1, hw, k _ _ _ (fin_im a rw')⟩)⟩
      · cases h
    · split at h
      · rename_i z _
        split at h
        · rename_i c hc
          split at h
          · rename_i hz
            cases h
            obtain ⟨v, u, rfl⟩ := len2 a.len
            cases a.im (j := 0) rfl rfl
            cases a.im (j := 1) rfl rfl
            exact ⟨_, _, rfl, .inr (.inr ⟨z, i, c, rfl, rfl, Nat.le_trans hz (by decide), hc, k _ _ _ (fin_im a (.str _))⟩)⟩
          · cases h
        · cases h
      · cases h
  · cases h
def keyI : I → Option Key
  | .int i => some (.inl i)
  | .str x => some (.inr x)
  | _ => none
def keysI : List I → Option (List Key)
  | [] => some []
  | x :: xs => match keyI x, keysI xs with
    | some k, some ks => some (k :: ks)
    | _, _ => none
def keyT : I → Option (List Key)
  | .tup xs => keysI xs
  | _ => none
theorem keyI_of {v : V} {x : I} {k : Key} (r : RpI K ι H v x) (h : keyI x = some k) : v = kV k := by
  cases r <;> first | (cases h; rfl) | cases h
theorem keysI_of : ∀ {vs : List V} {xs : List I} {ks : List Key}, RpIs K ι H vs xs → keysI xs = some ks → vs = ks.map kV
  | [], [], _, .nil, h => by cases h; rfl
  | v :: vs, x :: xs, ks, .cons r rs, h => by
    unfold keysI at h
    split at h
    · rename_i k ks' h1 h2
      cases h
      rw [List.map_cons, keyI_of r h1, keysI_of rs h2]
    · cases h
theorem keyT_of {v : V} {x : I} {ks : List Key} (r : RpI K ι H v x) (h : keyT x = some ks) : ∃ b, v = .ref b ∧ H b = some (.tup (ks.map kV)) := by
  cases r with
  | tup h1 h2 => exact ⟨_, rfl, by rw [h1, keysI_of h2 h]⟩
  | _ => cases h
def valI {κ' : Type} [DecidableEq κ'] : List (κ' × I) → κ' → Option I
  | [], _ => none
  | (g, x) :: r, k => if g = k then some x else valI r k
def hasI {κ' : Type} [DecidableEq κ'] (kvs : List (κ' × I)) (k : κ') : Bool := kvs.any fun kv => decide (kv.1 = k)
def putD {κ' : Type} [DecidableEq κ'] (kvs : List (κ' × I)) (k : κ') (d : I) : List (κ' × I) := if hasI kvs k then kvs.map (fun kv => if kv.1 = k then (kv.1, d) else kv) else kvs ++ [(k, d)]
theorem valI_rel {κ' : Type} [DecidableEq κ'] {k : κ'} : ∀ {ws : List (κ' × V)} {kvs : List (κ' × I)}, ws.map (·.1) = kvs.map (·.1) → RpIs K ι H (ws.map (·.2)) (kvs.map (·.2)) →
    (∀ d, valI kvs k = some d → ∃ v, valV ws k = some v ∧ RpI K ι H v d) ∧ (valI kvs k = none → valV ws k = none)
  | [], [], _, _ => ⟨fun d h => (by cases h), fun _ => rfl⟩
  | [], _ :: _, e, _ => by cases e
  | _ :: _, [], e, _ => by cases e
  | (g, v) :: ws, (g', x) :: kvs, e, r => by
    simp only [List.map_cons, List.cons.injEq] at e
    obtain ⟨e1, e2⟩ := e
    subst e1
    cases r with
    | cons r rs =>
      obtain ⟨p, q⟩ := valI_rel (k := k) e2 rs
      by_cases hg : g = k
      · rw [valV_pos (p := (g, v)) hg]
        unfold valI
        rw [if_pos hg]
        exact ⟨fun d h => (by cases h; exact ⟨v, rfl, r⟩), fun h => (by cases h)⟩
      · rw [valV_neg (p := (g, v)) hg]
        unfold valI
        rw [if_neg hg]
        exact ⟨p, q⟩
theorem any_keys {κ' α β : Type} [DecidableEq κ'] {k : κ'} : ∀ {ws : List (κ' × α)} {kvs : List (κ' × β)}, ws.map (·.1) = kvs.map (·.1) → (ws.any fun kv => decide (kv.1 = k)) = (kvs.any fun kv => decide (kv.1 = k))
  | [], [], _ => rfl
  | [], _ :: _, e => by cases e
  | _ :: _, [], e => by cases e
  | (g, v) :: ws, (g', x) :: kvs, e => by
    simp only [List.map_cons, List.cons.injEq] at e
    obtain ⟨e1, e2⟩ := e
    subst e1
    rw [List.any_cons, List.any_cons, any_keys e2]
theorem map_keys {κ' : Type} [DecidableEq κ'] {k : κ'} {v : V} {d : I} (rv : RpI K ι H v d) : ∀ {ws : List (κ' × V)} {kvs : List (κ' × I)}, ws.map (·.1) = kvs.map (·.1) → RpIs K ι H (ws.map (·.2)) (kvs.map (·.2)) →
    (ws.map fun kv => if kv.1 = k then (kv.1, v) else kv).map (·.1) = (kvs.map fun kv => if kv.1 = k then (kv.1, d) else kv).map (·.1) ∧ RpIs K ι H ((ws.map fun kv => if kv.1 = k then (kv.1, v) else kv).map (·.2)) ((kvs.map fun kv => if kv.1 = k then (kv.1, d) else kv).map (·.2))
  | [], [], _, _ => ⟨rfl, .nil⟩
  | [], _ :: _, e, _ => by cases e
  | _ :: _, [], e, _ => by cases e
  | (g, w) :: ws, (g', x) :: kvs, e, r => by
    simp only [List.map_cons, List.cons.injEq] at e
    obtain ⟨e1, e2⟩ := e
    subst e1
    cases r with
    | cons r rs =>
      obtain ⟨p, q⟩ := map_keys (k := k) rv e2 rs
      by_cases hg : g = k
      · simp only [List.map_cons, if_pos hg]
        exact ⟨by rw [p], .cons rv q⟩
      · simp only [List.map_cons, if_neg hg]
        exact ⟨by rw [p], .cons r q⟩
theorem putD_rel {κ' : Type} [DecidableEq κ'] {k : κ'} {v : V} {d : I} {ws : List (κ' × V)} {kvs : List (κ' × I)} (rv : RpI K ι H v d) (e : ws.map (·.1) = kvs.map (·.1)) (r : RpIs K ι H (ws.map (·.2)) (kvs.map (·.2))) :
    (putK ws k v).map (·.1) = (putD kvs k d).map (·.1) ∧ RpIs K ι H ((putK ws k v).map (·.2)) ((putD kvs k d).map (·.2)) := by
  unfold putK putD hasI
  rw [any_keys e]
  split
  · exact map_keys rv e r
  · rw [List.map_append, List.map_append, List.map_append, List.map_append, e]
    exact ⟨rfl, r.app (.cons rv .nil)⟩
/-- what a dict holds at a key -/
def getD' (δ : De) (G : List M) (a : Ev) (x : I) : Option (Option I) := match pk δ G a with
  | some (.dic kvs) => (keyI x).map fun k => valI kvs k
  | some (.dit kvs) => (keyT x).map fun k => valI kvs k
  | _ => none
theorem getD_of {σ : L2.St} {δ : De} {G : List M} {es : List Ev} {vs : List V} {j j' : Nat} {a : Ev} {x : I} {v u : V} {o : Option I} (A : Args K κ ι H σ δ G es vs) (h1 : es[j]? = some a) (h2 : vs[j]? = some v) (h3 : es[j']? = some (.v (.im x))) (h4 : vs[j']? = some u)
    (h : getD' δ G a x = some o) : ∃ b ov, v = .ref b ∧ DGet H b u ov ∧ (∀ d, o = some d → ∃ w, ov = some w ∧ RpI K ι H w d) ∧ (o = none → ov = none) := by
  have ru := A.im h3 h4
  unfold getD' at h
  split at h
  · rename_i kvs hp
    obtain ⟨b, e1, ws, hw, e2, r⟩ := A.pk h1 h2 hp
    cases hk : keyI x with
    | none => rw [hk] at h; cases h
    | some k =>
      rw [hk] at h
      cases h
      have eu := keyI_of ru hk
      subst eu
      obtain ⟨p, q⟩ := valI_rel (k := k) e2 r
      exact ⟨b, _, e1, DGet.k hw, p, q⟩
  · rename_i kvs hp
    obtain ⟨b, e1, ws, hw, e2, r⟩ := A.pk h1 h2 hp
    cases hk : keyT x with
    | none => rw [hk] at h; cases h
    | some k =>
      rw [hk] at h
      cases h
      obtain ⟨c, eu, hc⟩ := keyT_of ru hk
      subst eu
      obtain ⟨p, q⟩ := valI_rel (k := k) e2 r
      exact ⟨b, _, e1, DGet.t hw hc, p, q⟩
  · cases h
def ixD : List Ev → Mo Ev := fun es δ G => match es with
  | [a, .v (.im x)] => match getD' δ G a x with
    | some (some d) => some (.v (.im d), δ, G)
    | _ => none
  | _ => none
theorem prim_ixD : Prim K κ (r2 fun x y H2 Q => ∃ a v, x = .ref a ∧ DGet H2 a y (some v) ∧ Q v H2) ixD := by
  intro ι H σ δ G es vs e δ' G' Q a h k
  unfold ixD at h
  split at h
  · split at h
    · rename_i d hd
      cases h
      obtain ⟨v, u, rfl⟩ := len2 a.len
      obtain ⟨b, ov, e1, g, p, _⟩ := getD_of a (j := 0) (j' := 1) rfl rfl rfl rfl hd
      obtain ⟨w, rfl, rw'⟩ := p d rfl
      exact ⟨_, _, rfl, b, w, e1, g, k _ _ _ (fin_im a rw')⟩
    · cases h
  · cases h
def ixP : List Ev → Mo Ev := orP ixS ixD
theorem up_ix {fo fi : Mo Ev} {σ : L2.St} {Q : VK} (h : UpE K κ (opF ixP fo fi) σ H Q) : tOp (rIx K) (UpE K κ fo) (UpE K κ fi) σ H Q ∨ tDGet (UpE K κ fo) (UpE K κ fi) σ H Q := by
  obtain ⟨ι, δ, G, e, δ', G', s, eq, k⟩ := h
  obtain ⟨x, δ1, G1, e1, eq1⟩ := bd_inv eq
  obtain ⟨y, δ2, G2, e2, eq2⟩ := bd_inv eq1
  have eq2 : orP ixS ixD [x, y] δ2 G2 = some (e, δ', G') := eq2
  unfold orP at eq2
  split at eq2
  · rename_i z hz
    cases eq2
    refine .inl (up_op prim_ixS ⟨ι, δ, G, _, _, _, s, ?_, k⟩)
    unfold opF
    rw [bd_of e1, bd_of e2]; exact hz
  · refine .inr (up_op (r := fun x y H2 Q => ∃ a v, x = .ref a ∧ DGet H2 a y (some v) ∧ Q v H2) prim_ixD ⟨ι, δ, G, _, _, _, s, ?_, k⟩)
    unfold opF
    rw [bd_of e1, bd_of e2]; exact eq2
def inL (neg : Bool) : List Ev → Mo Ev := fun es δ G => match es with
  | [.v (.im x), b] => match sq δ G b with
    | some xs => if flI x && xs.all flI then some (.v (.im (.bl (if neg then !(xs.any fun y => eqFl y x) else xs.any fun y => eqFl y x))), δ, G) else none
    | none => none
  | _ => none
def inD' (neg : Bool) : List Ev → Mo Ev := fun es δ G => match es with
  | [.v (.im x), b] => match getD' δ G b x with
    | some o => some (.v (.im (.bl (if neg then !o.isSome else o.isSome))), δ, G)
    | none => none
  | _ => none
theorem prim_ninD : Prim K κ (r2 fun y x H2 Q => ∃ a o, x = .ref a ∧ DGet H2 a y o ∧ Q (.bl (!o.isSome)) H2) (inD' true) := by
  intro ι H σ δ G es vs e δ' G' Q a h k
  unfold inD' at h
  split at h
  · split at h
    · rename_i o ho
      cases h
      obtain ⟨v, u, rfl⟩ := len2 a.len
      obtain ⟨b, ov, e1, g, p, q⟩ := getD_of a (j := 1) (j' := 0) rfl rfl rfl rfl ho
      have : ov.isSome = o.isSome := by
        cases o with
        | none => rw [q rfl]; rfl
        | some d => obtain ⟨w, rfl, _⟩ := p d rfl; rfl
      refine ⟨_, _, rfl, b, ov, e1, g, ?_⟩
      rw [this]
      exact k _ _ _ (fin_im a (.bl _))
    · cases h
  · cases h
end
section
variable {X : Cx} {κ : Str → Addr} {a b : Expr} {fa fb : Mo Ev} {pos : Pos} {k : Nat}
theorem e_ix (hr : Room k X.A) (ha : LE X κ a fa) (hb : LE X κ b fb) (hs : PlainIx b := by exact (fun _ _ => rfl)) : LE X κ (.Subscript a b pos) (opF ixP fa fb) := pe_imp (pe_or (pe_ix ix_seq ha hb hs) (pe_dget (hu_of hr) ha hb hs)) fun _ _ _ => up_ix
end
end B
namespace B
open PySem PySem.Spec PyProof.Rows L2
section
variable {X : Cx} {K : PySem.W.Frag} {κ : Str → Addr} {ι : List Addr} {H : Hp}
theorem eqFl_any {v : V} {x : I} (r : RpI K ι H v x) (hx : flI x = true) : ∀ {vs : List V} {xs : List I}, RpIs K ι H vs xs → xs.all flI = true → vs.all flatV = true ∧ (xs.any fun y => eqFl y x) = vs.any fun y => eqV y v
  | [], [], .nil, _ => ⟨rfl, rfl⟩
  | w :: vs, y :: xs, .cons r' rs, h => by
    rw [List.all_cons, Bool.and_eq_true] at h
    obtain ⟨p, q⟩ := eqFl_any r hx rs h.2
    rw [List.all_cons, List.any_cons, List.any_cons, p, q, eqFl_of r' r h.1 hx, flat_of r' h.1]
    exact ⟨rfl, rfl⟩
theorem prim_ninL : Prim K κ (r2 (rIn K true)) (inL true) := by
  intro ι H σ δ G es vs e δ' G' Q a h k
  unfold inL at h
  split at h
  · rename_i x b
    split at h
    · rename_i xs hx
      split at h
      · rename_i hf
        rw [Bool.and_eq_true] at hf
        cases h
        obtain ⟨v, u, rfl⟩ := len2 a.len
        obtain ⟨p, ys, e1, h1, r⟩ := a.sq (j := 1) rfl rfl hx
        have rx := a.im (j := 0) rfl rfl
        obtain ⟨p1, p2⟩ := eqFl_any rx hf.1 r hf.2
        refine ⟨_, _, rfl, p, ys, e1, h1, flat_of rx hf.1, p1, ?_⟩
        have : L2.inV v ys = xs.any fun y => eqFl y x := p2.symm
        rw [this]
        exact k _ _ _ (fin_im a (.bl _))
      · cases h
    · cases h
  · cases h
def ninP : List Ev → Mo Ev := orP (inL true) (inD' true)
theorem up_or2 {p p' : List Ev → Mo Ev} {r r' : R2} {fo fi : Mo Ev} {σ : L2.St} {Q : VK} (h1 : Prim K κ (r2 r) p) (h2 : Prim K κ (r2 r') p') (h : UpE K κ (opF (orP p p') fo fi) σ H Q) : tOp r (UpE K κ fo) (UpE K κ fi) σ H Q ∨ tOp r' (UpE K κ fo) (UpE K κ fi) σ H Q := by
  obtain ⟨ι, δ, G, e, δ', G', s, eq, k⟩ := h
  obtain ⟨x, δ1, G1, e1, eq1⟩ := bd_inv eq
  obtain ⟨y, δ2, G2, e2, eq2⟩ := bd_inv eq1
  have eq2 : orP p p' [x, y] δ2 G2 = some (e, δ', G') := eq2
  unfold orP at eq2
  split at eq2
  · rename_i z hz
    cases eq2
    refine .inl (up_op h1 ⟨ι, δ, G, _, _, _, s, ?_, k⟩)
    unfold opF
    rw [bd_of e1, bd_of e2]; exact hz
  · refine .inr (up_op h2 ⟨ι, δ, G, _, _, _, s, ?_, k⟩)
    unfold opF
    rw [bd_of e1, bd_of e2]; exact eq2
end
section
variable {X : Cx} {κ : Str → Addr} {a b : Expr} {fa fb : Mo Ev} {pos : Pos} {k : Nat}
theorem t_nin (hr : Room k X.A) (ha : LE X κ a fa) (hb : LE X κ b fb) (hm : behindInMarks .NotIn b = false := by rfl) : LT X κ (.Compare a [.NotIn] [b] pos) (tstF (opF ninP fa fb)) := pt_imp (pt_or (pt_cmpR op_notIn_seq ha hb hm) (pt_cmp (pc_dnotin (hu_of hr) ha hb) hm)) fun _ _ _ h => up_or2 prim_ninL prim_ninD (up_test h)
end
section
variable {K : PySem.W.Frag} {κ : Str → Addr}
def lenP : List Ev → Mo Ev := fun es δ G => match es with
  | [a] => match sq δ G a with
    | some xs => some (.v (.im (.int xs.length)), δ, G)
    | none => match a with
      | .v (.im (.str z)) => if z.length ≤ 1000000 then some (.v (.im (.int z.length)), δ, G) else none
      | a => match pk δ G a with
        | some (.dic kvs) => some (.v (.im (.int kvs.length)), δ, G)
        | _ => none
  | _ => none
theorem prim_len : Prim K κ (fun xs H Q => (∃ p ys, xs = [.ref p] ∧ (SqL K H p ys ∨ SqT K H p ys) ∧ Q (.int ys.length) H) ∨ ((∃ z, xs = [.str z] ∧ z.length ≤ sizeLine ∧ Q (.int z.length) H) ∨ (∃ a kvs, xs = [V.ref a] ∧ H a = some (.dK kvs) ∧ Q (.int kvs.length) H))) lenP := by
  intro ι H σ δ G es vs e δ' G' Q a h k
  unfold lenP at h
  split at h
  · rename_i x
    split at h
    · rename_i xs hx
      cases h
      obtain ⟨v, rfl⟩ := len1 a.len
      obtain ⟨p, ys, e1, h1, r⟩ := a.sq (j := 0) rfl rfl hx
      subst e1
      exact .inl ⟨p, ys, rfl, h1, by rw [r.len]; exact k _ _ _ (fin_im a (.int _))⟩
    · split at h
      · split at h
        · rename_i hz
          cases h
          obtain ⟨v, rfl⟩ := len1 a.len
          cases a.im (j := 0) rfl rfl
          exact .inr (.inl ⟨_, rfl, Nat.le_trans hz (by decide), k _ _ _ (fin_im a (.int _))⟩)
        · cases h
      · split at h
        · rename_i kvs hp
          cases h
          obtain ⟨v, rfl⟩ := len1 a.len
          obtain ⟨b, e1, ws, hw, e2, r⟩ := a.pk (j := 0) rfl rfl hp
          subst e1
          have e3 : kvs.length = ws.length := by have := congrArg List.length e2; simpa using this.symm
          exact .inr (.inr ⟨b, ws, rfl, hw, by rw [← e3]; exact k _ _ _ (fin_im a (.int _))⟩)
        · cases h
  · cases h
def tupleP : List Ev → Mo Ev := fun es δ G => match es with
  | [.v (.im (.tup xs))] => some (.v (.im (.tup xs)), δ, G)
  | [.v (.im (.con xs))] => some (.v (.im (.con xs)), δ, G)
  | [a] => match sq δ G a with
    | some xs => some (.v (.im (.tup xs)), δ, G)
    | none => none
  | _ => none
theorem sqL_any {ι : List Addr} {H : Hp} {σ : L2.St} {δ : De} {G : List M} {e : Ev} {v : V} {xs : List I} (a : Args K κ ι H σ δ G [e] [v]) (h : sq δ G e = some xs) (n1 : ∀ ys, e ≠ .v (.im (.tup ys))) (n2 : ∀ ys, e ≠ .v (.im (.con ys))) : ∃ b ys, v = .ref b ∧ SqL K H b ys ∧ RpIs K ι H ys xs := by
  have fromPk : (match B.pk δ G e with | some (.lst xs) => some xs | _ => none) = some xs → ∃ b ys, v = .ref b ∧ SqL K H b ys ∧ RpIs K ι H ys xs := fun q => by
    split at q
    · rename_i xs' e'
      cases q
      obtain ⟨b, e1, ys, h3, r⟩ := a.pk (j := 0) rfl rfl e'
      exact ⟨b, ys, e1, SqL.of h3, r⟩
    · cases q
  cases e with
  | s i => exact fromPk h
  | v x =>
    cases x with
    | ow m => exact fromPk h
    | im d =>
      have r := a.im (j := 0) rfl rfl
      cases r with
      | tup q r => exact absurd rfl (n1 _)
      | con q r => exact absurd rfl (n2 _)
      | fro q r => cases h; exact ⟨_, _, rfl, q.sq, r⟩
      | ref q => exact fromPk h
      | non => exact fromPk h
      | bl => exact fromPk h
      | int => exact fromPk h
      | str => exact fromPk h
      | ty => exact fromPk h
theorem prim_tuple : Prim K κ (fun xs H Q => ∃ p ys, xs = [.ref p] ∧ ((SqL K H p ys ∧ ∀ l, H l = none → Q (.ref l) (upd H l (.tup ys))) ∨ (SqT K H p ys ∧ Q (.ref p) H))) tupleP := by
  intro ι H σ δ G es vs e δ' G' Q a h k
  unfold tupleP at h
  split at h
  · cases h
    obtain ⟨v, rfl⟩ := len1 a.len
    have r := a.im (j := 0) rfl rfl
    cases r with
    | tup h1 h2 => exact ⟨_, _, rfl, .inr ⟨SqT.of h1, k _ _ _ (fin_im a (.tup h1 h2))⟩⟩
  · cases h
    obtain ⟨v, rfl⟩ := len1 a.len
    have r := a.im (j := 0) rfl rfl
    cases r with
    | con h1 h2 => exact ⟨_, _, rfl, .inr ⟨SqT.kon h1, k _ _ _ (fin_im a (.con h1 h2))⟩⟩
  · rename_i x n1 n2
    split at h
    · rename_i xs hx
      cases h
      obtain ⟨v, rfl⟩ := len1 a.len
      obtain ⟨p, ys, e1, h1, r⟩ := sqL_any a hx (fun ys z => n1 ys (by rw [z])) (fun ys z => n2 ys (by rw [z]))
      subst e1
      exact ⟨p, ys, rfl, .inl ⟨h1, fun l hl => k _ _ _ (fin_tup a hl r)⟩⟩
    · cases h
  · cases h
def max2P : List Ev → Mo Ev := intP fun i j => some (.int (if j > i then j else i))
def min2P : List Ev → Mo Ev := intP fun i j => some (.int (if j < i then j else i))
theorem prim_int2 {g : Int → Int → Int} : Prim K κ (fun xs H Q => ∃ i j, xs = [.int i, .int j] ∧ Q (.int (g i j)) H) (intP fun i j => some (.int (g i j))) := by
  intro ι H σ δ G es vs e δ' G' Q a h k
  obtain ⟨x, y, e1, i, j, e2, e3, q⟩ := prim_rI0 (K := K) (κ := κ) (g := fun i j => .int (g i j)) (f := fun i j => some (.int (g i j))) (fun i j d h ι H => by cases h; exact .int _) ι H σ δ G es vs e δ' G' Q a h k
  exact ⟨i, j, by rw [e1, e2, e3], q⟩
def notT : Ev → Bool
  | .v (.im (.tup _)) => false
  | .v (.im (.con _)) => false
  | _ => true
def lrevP : List Ev → Mo Ev := fun es δ G => match es with
  | [a] => if notT a then match sq δ G a with
    | some xs => some (.v (.ow (.lst xs.reverse)), δ, G)
    | none => none
    else none
  | _ => none
theorem prim_lrev : Prim K κ (r1 fun x H1 Q => ∃ l ys, x = .ref l ∧ SqL K H1 l ys ∧ ∀ p, H1 p = none → Q (.ref p) (upd H1 p (.lst ys.reverse))) lrevP := by
  intro ι H σ δ G es vs e δ' G' Q a h k
  unfold lrevP at h
  split at h
  · rename_i x
    split at h
    · rename_i hl
      split at h
      · rename_i xs hx
        cases h
        obtain ⟨v, rfl⟩ := len1 a.len
        obtain ⟨p, ys, e1, h1, r⟩ := sqL_any a hx (fun ys z => by subst z; cases hl) (fun ys z => by subst z; cases hl)
        subst e1
        exact ⟨_, rfl, p, ys, rfl, h1, fun l hl => k _ _ _ (fin_lst a hl r.rev)⟩
      · cases h
    · cases h
  · cases h
end
section
variable {X : Cx} {κ : Str → Addr} {a b e : Expr} {es : List Expr} {fa fb : Mo Ev} {fs : Mo (List Ev)} {p pos : Pos} {k : Nat}
theorem e_len (hr : Room k X.A) (hm : X.mg "len" = none) (ha : LA X κ (e :: es) fs) (hg : Gl X "len" := by rfl) (he : starEach (e :: es) X.env = (false, eval e X.env) :: starEach es X.env := by rfl) (hpl : (backTo pos (starEach es X.env)).any (·.1) = false := by rfl) :
    LE X κ (.Call (.Name "len" p) (e :: es) [] pos) (bd fs lenP) := pe_imp (pe_callB (call_len_seq.or (call_len_str.or call_lenD)) hg hm PySem.boot_len ha (by decide) (by decide) he hpl) fun _ _ _ q => up_args prim_len q
theorem e_tuple (hr : Room k X.A) (hm : X.mg "tuple" = none) (ha : LA X κ (e :: es) fs) (hg : Gl X "tuple" := by rfl) (he : starEach (e :: es) X.env = (false, eval e X.env) :: starEach es X.env := by rfl) (hpl : (backTo pos (starEach es X.env)).any (·.1) = false := by rfl) :
    LE X κ (.Call (.Name "tuple" p) (e :: es) [] pos) (bd fs tupleP) := pe_imp (pe_callTy call_tuple_of hg hm PyProof.Rows.boot_tuple ha (by decide) (by decide) he hpl) fun _ _ _ q => up_args prim_tuple q
theorem e_max2 (hr : Room k X.A) (hm : X.mg "max" = none) (ha : LA X κ (e :: es) fs) (hg : Gl X "max" := by rfl) (hc : X.calm = true := by rfl) (he : starEach (e :: es) X.env = (false, eval e X.env) :: starEach es X.env := by rfl) (hpl : (backTo pos (starEach es X.env)).any (·.1) = false := by rfl) :
    LE X κ (.Call (.Name "max" p) (e :: es) [] pos) (bd fs max2P) := pe_imp (pe_callB (call_max2 hc) hg hm PyProof.Rows.boot_max ha (by decide) (by decide) he hpl) fun _ _ _ q => up_args prim_int2 q
theorem e_min2 (hr : Room k X.A) (hm : X.mg "min" = none) (ha : LA X κ (e :: es) fs) (hg : Gl X "min" := by rfl) (hc : X.calm = true := by rfl) (he : starEach (e :: es) X.env = (false, eval e X.env) :: starEach es X.env := by rfl) (hpl : (backTo pos (starEach es X.env)).any (·.1) = false := by rfl) :
    LE X κ (.Call (.Name "min" p) (e :: es) [] pos) (bd fs min2P) := pe_imp (pe_callB (call_min2 hc) hg hm PyProof.Rows.boot_min ha (by decide) (by decide) he hpl) fun _ _ _ q => up_args prim_int2 q
theorem e_lrev {p1 p2 q1 q2 : Pos} (hl : X.mg "list" = none) (hv : X.mg "reversed" = none) (h : LE X κ e fa) (hc : X.calm = true := by rfl) (gl : Gl X "list" := by rfl) (gr : Gl X "reversed" := by rfl) (hs1 : starEach [e] X.env = [(false, eval e X.env)] := by rfl)
    (hs2 : starEach [.Call (.Name "reversed" p2) [e] [] q2] X.env = [(false, eval (.Call (.Name "reversed" p2) [e] [] q2) X.env)] := by rfl) : LE X κ (.Call (.Name "list" p1) [.Call (.Name "reversed" p2) [e] [] q2] [] q1) (unF lrevP fa) :=
  pe_imp (pe_listrev hc gl hl gr hv h hs1 hs2) fun _ _ _ q => up_un prim_lrev q
end
end B
namespace B
open PySem PySem.Spec PyProof.Rows L2
section
variable {X : Cx} {K : PySem.W.Frag} {κ : Str → Addr} {ι : List Addr} {H : Hp} {σ : L2.St}
def noPt : Mo (List Ev) := rt []
def somePt (f : Mo Ev) : Mo (List Ev) := one f
def ptE : List Ev → Option (Option Int)
  | [] => some none
  | [.v (.im (.int i))] => some (some i)
  | _ => none
def UpO (K : PySem.W.Frag) (κ : Str → Addr) (f : Mo (List Ev)) : TO := fun σ H Q => ∃ ι δ G es o δ' G', SR K κ ι H σ δ G ∧ f δ G = some (es, δ', G') ∧ ptE es = some o ∧ ∀ vs ι' H', After K κ σ ι (own σ δ ++ ι) H es δ' G' vs ι' H' → Q o H'
theorem po_none' : PO X none (UpO X.K κ noPt) := fun pins s σ H Q I h => po_none pins s σ H Q I (by
  obtain ⟨ι, δ, G, es, o, δ', G', s, e, p, k⟩ := h
  cases e; cases p
  exact k _ _ _ (After.nil s))
theorem po_some' {e : Expr} {f : Mo Ev} (h : LE X κ e f) : PO X (some e) (UpO X.K κ (somePt f)) := fun pins s σ H Q I q => po_some h pins s σ H Q I (by
  obtain ⟨ι, δ, G, es, o, δ', G', s, e, p, k⟩ := q
  obtain ⟨x, δ1, G1, e1, e2⟩ := bd_inv e
  cases e2
  refine ⟨ι, δ, G, x, _, _, s, e1, fun v ι1 H1 a => ?_⟩
  unfold ptE at p
  split at p
  · rename_i hq; cases hq
  · rename_i i hq
    cases p
    cases hq
    have r := a.ar.im (j := 0) rfl rfl
    cases r
    exact ⟨i, rfl, k _ _ _ a⟩
  · cases p)
def cutI (xs : List I) (lo hi : Option Int) : List I := (xs.drop (HT.sIx xs.length 0 lo)).take (HT.sIx xs.length xs.length hi - HT.sIx xs.length 0 lo)
theorem RpIs.cut {vs : List V} {xs : List I} (r : RpIs K ι H vs xs) (lo hi : Option Int) : RpIs K ι H (cutV vs lo hi) (cutI xs lo hi) := by
  unfold cutV cutI
  rw [r.len]
  exact (r.drop _).take _
def sliQ (lo hi : Option Int) : List Ev → Mo Ev := fun es δ G => match es with
  | .v (.im (.tup xs)) :: _ => some (.v (.im (.tup (cutI xs lo hi))), δ, G)
  | .v (.im (.str z)) :: _ => if z.length ≤ 1000000 then some (.v (.im (.str (Txt.slice z lo hi))), δ, G) else none
  | a :: _ => if notT a then match sq δ G a with
    | some xs => some (.v (.ow (.lst (cutI xs lo hi))), δ, G)
    | none => none
    else none
  | _ => none
def sliF (fe : Mo Ev) (fl fh : Mo (List Ev)) : Mo Ev := bd fe fun x => bd fl fun ls => bd fh fun hs => fun δ G => match ptE ls, ptE hs with
  | some lo, some hi => sliQ lo hi (x :: (ls ++ hs)) δ G
  | _, _ => none
theorem sqL_head {δ : De} {G : List M} {e : Ev} {es : List Ev} {v : V} {vs : List V} {xs : List I} (a : Args K κ ι H σ δ G (e :: es) (v :: vs)) (h : sq δ G e = some xs) (n : notT e = true) : ∃ b ys, v = .ref b ∧ SqL K H b ys ∧ RpIs K ι H ys xs := by
  have fromPk : (match B.pk δ G e with | some (.lst xs) => some xs | _ => none) = some xs → ∃ b ys, v = .ref b ∧ SqL K H b ys ∧ RpIs K ι H ys xs := fun q => by
    split at q
    · rename_i xs' e'
      cases q
      obtain ⟨b, e1, ys, h3, r⟩ := a.pk (j := 0) rfl rfl e'
      exact ⟨b, ys, e1, SqL.of h3, r⟩
    · cases q
  cases e with
  | s i => exact fromPk h
  | v x =>
    cases x with
    | ow m => exact fromPk h
    | im d =>
      have r := a.im (j := 0) rfl rfl
      cases r with
      | tup q r => cases n
      | con q r => cases n
      | fro q r => cases h; exact ⟨_, _, rfl, q.sq, r⟩
      | ref q => exact fromPk h
      | non => exact fromPk h
      | bl => exact fromPk h
      | int => exact fromPk h
      | str => exact fromPk h
      | ty => exact fromPk h
def rSlAll (K : PySem.W.Frag) : V → Option Int → Option Int → Hp → VK → Prop := fun x lo hi H Q => rSlL K x lo hi H Q ∨ (rSlTA x lo hi H Q ∨ rSlS x lo hi H Q)
theorem up_sli {fe : Mo Ev} {fl fh : Mo (List Ev)} {Q : VK} (h : UpE K κ (sliF fe fl fh) σ H Q) : tSl (rSlAll K) (UpE K κ fe) (UpO K κ fl) (UpO K κ fh) σ H Q := by
  obtain ⟨ι, δ, G, e, δ', G', s, eq, k⟩ := h
  obtain ⟨x, δ1, G1, e1, eq1⟩ := bd_inv eq
  obtain ⟨ls, δ2, G2, e2, eq2⟩ := bd_inv eq1
  obtain ⟨hs, δ3, G3, e3, eq3⟩ := bd_inv eq2
  split at eq3
  · rename_i lo hi hlo hhi
    refine ⟨ι, δ, G, x, δ1, G1, s, e1, fun v ι1 H1 a1 => ?_⟩
    refine ⟨ι1, δ1, G1, ls, lo, δ2, G2, a1.ar.base, e2, hlo, fun vs ι2 H2 a2 => ?_⟩
    refine ⟨ι2, δ2, G2, hs, hi, δ3, G3, a2.ar.base, e3, hhi, fun ws ι3 H3 a3 => ?_⟩
    have a23 := a2.app a3
    have a := a1.app a23
    have fin : ∀ {v' : V} {ι' : List Addr} {H' : Hp}, After K κ σ ι3 (own (σ ++ tS ([x] ++ (ls ++ hs)) ([v] ++ (vs ++ ws))) (δ3 ++ tD ([x] ++ (ls ++ hs))) ++ ι3) H3 [e] δ' G' [v'] ι' H' → Q v' H' := fun b => k _ _ _ (a.then b)
    have ar : Args K κ ι3 H3 σ δ3 G3 (x :: (ls ++ hs)) (v :: (vs ++ ws)) := a.ar
    unfold sliQ at eq3
    split at eq3
    · rename_i xs rest hq
      cases hq
      cases eq3
      have r := ar.im (j := 0) rfl rfl
      cases r with
      | tup h1 h2 =>
        refine .inr (.inl ⟨_, _, rfl, h1, fun b H' hb kp => ?_⟩)
        exact fin (fin_same a.ar kp (.tup hb ((h2.cut lo hi).mono (Pre.refl _) (Kp.same kp))))
    · rename_i z rest hq
      cases hq
      split at eq3
      · rename_i hz
        cases eq3
        cases ar.im (j := 0) rfl rfl
        exact .inr (.inr ⟨z, rfl, Nat.le_trans hz (by decide), fin (fin_im a.ar (.str _))⟩)
      · cases eq3
    · rename_i a0 rest _ _ hq
      cases hq
      split at eq3
      · rename_i hn
        split at eq3
        · rename_i xs hx
          cases eq3
          obtain ⟨b, ys, e4, h1, r⟩ := sqL_head ar hx hn
          exact .inl ⟨b, ys, e4, h1, fun p hp => fin (fin_lst a.ar hp (r.cut lo hi))⟩
        · cases eq3
      · cases eq3
    · cases eq3
  · cases eq3
def pickI (xs : List I) (lo hi st : Option Int) : List I := (sliceRange (sliceBounds lo hi st xs.length).1 (sliceBounds lo hi st xs.length).2.1 (sliceBounds lo hi st xs.length).2.2).filterMap (xs[·]?)
theorem RpIs.filt {vs : List V} {xs : List I} (r : RpIs K ι H vs xs) : ∀ js : List Nat, RpIs K ι H (js.filterMap (vs[·]?)) (js.filterMap (xs[·]?))
  | [] => .nil
  | j :: js => by
    cases e : xs[j]? with
    | none => simp only [List.filterMap_cons, e, r.none_of e]; exact RpIs.filt r js
    | some x =>
      obtain ⟨v, hv, rv⟩ := r.get e
      simp only [List.filterMap_cons, e, hv]
      exact .cons rv (RpIs.filt r js)
theorem RpIs.pick {vs : List V} {xs : List I} (r : RpIs K ι H vs xs) (lo hi st : Option Int) : RpIs K ι H (pickV vs lo hi st) (pickI xs lo hi st) := by
  unfold pickV pickI
  rw [r.len]
  exact r.filt _
def stpF (fe : Mo Ev) (fl fh : Mo (List Ev)) (fk : Mo Ev) : Mo Ev := bd fe fun x => bd fl fun ls => bd fh fun hs => bd (one fk) fun ks => fun δ G => match ptE ls, ptE hs, ptE ks with
  | some lo, some hi, some (some c) => if c ≠ 0 ∧ notT x then match sq δ G x with
    | some xs => some (.v (.ow (.lst (pickI xs lo hi (some c)))), δ, G)
    | none => none
    else none
  | _, _, _ => none
theorem up_stp {fe fk : Mo Ev} {fl fh : Mo (List Ev)} {Q : VK} (h : UpE K κ (stpF fe fl fh fk) σ H Q) : tSlS K (UpE K κ fe) (UpO K κ fl) (UpO K κ fh) (tPart (UpE K κ fk)) σ H Q := by
  obtain ⟨ι, δ, G, e, δ', G', s, eq, k⟩ := h
  obtain ⟨x, δ1, G1, e1, eq1⟩ := bd_inv eq
  obtain ⟨ls, δ2, G2, e2, eq2⟩ := bd_inv eq1
  obtain ⟨hs, δ3, G3, e3, eq3⟩ := bd_inv eq2
  obtain ⟨ks, δ4, G4, e4, eq4⟩ := bd_inv eq3
  obtain ⟨y, δ5, G5, e5, eq5⟩ := bd_inv e4
  cases eq5
  split at eq4
  · rename_i lo hi c hlo hhi hk
    split at eq4
    · rename_i hc
      split at eq4
      · rename_i xs hx
        simp only [Option.some.injEq, Prod.mk.injEq] at eq4
        obtain ⟨rfl, rfl, rfl⟩ := eq4
        refine ⟨ι, δ, G, x, δ1, G1, s, e1, fun v ι1 H1 a1 => ?_⟩
        refine ⟨ι1, δ1, G1, ls, lo, δ2, G2, a1.ar.base, e2, hlo, fun vs ι2 H2 a2 => ?_⟩
        refine ⟨ι2, δ2, G2, hs, hi, δ3, G3, a2.ar.base, e3, hhi, fun ws ι3 H3 a3 => ?_⟩
        refine ⟨ι3, δ3, G3, y, _, _, a3.ar.base, e5, fun u ι4 H4 a4 => ?_⟩
        have a := a1.app (a2.app (a3.app a4))
        have ar : Args K κ ι4 H4 σ _ _ (x :: (ls ++ (hs ++ [y]))) (v :: (vs ++ (ws ++ [u]))) := a.ar
        unfold ptE at hk
        split at hk
        · rename_i hq; cases hq
        · rename_i i hq
          cases hk
          cases hq
          have r := a4.ar.im (j := 0) rfl rfl
          cases r
          obtain ⟨b, ys, e6, h1, r⟩ := sqL_head ar hx hc.2
          exact ⟨c, rfl, b, ys, e6, h1, fun z => hc.1 (by cases z; rfl), fun p hp => k _ _ _ (a.then (fin_lst a.ar hp (r.pick lo hi (some c))))⟩
        · cases hk
      · cases eq4
    · cases eq4
  · cases eq4
def revP : List Ev → Mo Ev := fun es δ G => match es with
  | [.v (.im (.tup xs))] => some (.v (.im (.tup xs.reverse)), δ, G)
  | [a] => if notT a then match sq δ G a with
    | some xs => some (.v (.ow (.lst xs.reverse)), δ, G)
    | none => none
    else none
  | _ => none
theorem pick_rev (xs : List V) : pickV xs none none (some (-1)) = xs.reverse := by
  obtain ⟨h1, h2⟩ := pick_back xs
  refine List.ext_getElem? fun j => ?_
  by_cases hj : j < xs.length
  · rw [h2 j hj, List.getElem?_reverse hj]
  · rw [List.getElem?_eq_none_iff.mpr (by omega), List.getElem?_eq_none_iff.mpr (by rw [List.length_reverse]; omega)]
theorem up_rev {fe : Mo Ev} {tk : TO} {Q : VK} (htk : ∀ σ H Q, Q (some (-1)) H → tk σ H Q) (h : UpE K κ (unF revP fe) σ H Q) : tRevT K (UpE K κ fe) σ H Q ∨ tSlS K (UpE K κ fe) tNoPart tNoPart tk σ H Q := by
  obtain ⟨ι, δ, G, e, δ', G', s, eq, k⟩ := h
  obtain ⟨x, δ1, G1, e1, eq1⟩ := bd_inv eq
  unfold revP at eq1
  split at eq1
  · rename_i xs hq
    cases hq
    cases eq1
    refine .inl ⟨ι, δ, G, _, _, _, s, e1, fun v ι1 H1 a => ?_⟩
    have r := a.ar.im (j := 0) rfl rfl
    cases r with
    | tup h1 h2 => exact ⟨_, _, rfl, SqT.of h1, fun p hp => k _ _ _ (a.then (fin_tup a.ar hp h2.rev))⟩
  · rename_i a0 _ hq
    cases hq
    split at eq1
    · rename_i hn
      split at eq1
      · rename_i xs hx
        cases eq1
        refine .inr ⟨ι, δ, G, _, _, _, s, e1, fun v ι1 H1 a => ?_⟩
        refine htk _ _ _ ?_
        obtain ⟨b, ys, e6, h1, r⟩ := sqL_head a.ar hx hn
        refine ⟨b, ys, e6, h1, (by decide), fun p hp => ?_⟩
        rw [pick_rev]
        exact k _ _ _ (a.then (fin_lst a.ar hp r.rev))
      · cases eq1
    · cases eq1
  · cases eq1
end
section
variable {X : Cx} {κ : Str → Addr} {a b e st : Expr} {fa fb : Mo Ev} {fl fh : Mo (List Ev)} {lo hi : Option Expr} {pos p2 : Pos} {k : Nat}
theorem e_sli (h : LE X κ e fa) (hl : PO X lo (UpO X.K κ fl)) (hh : PO X hi (UpO X.K κ fh)) : LE X κ (.Subscript e (.Slice lo hi none p2) pos) (sliF fa fl fh) := pe_imp (pe_slice (sl_list.or (sl_tupA.or sl_str)) h hl hh) fun _ _ _ => up_sli
theorem e_stp (h : LE X κ e fa) (hl : PO X lo (UpO X.K κ fl)) (hh : PO X hi (UpO X.K κ fh)) (hs : LE X κ st fb) : LE X κ (.Subscript e (.Slice lo hi (some st) p2) pos) (stpF fa fl fh fb) := pe_imp (pe_sliceS h hl hh hs) fun _ _ _ => up_stp
theorem e_rev {pu pc : Pos} {j} (h : LE X κ e fa) : LE X κ (.Subscript e (.Slice none none (some (.UnaryOp .USub (.Constant (.int 1) j pc) pu)) p2) pos) (unF revP fa) :=
  pe_imp (pe_or (pe_revT h (pe_un un_neg pe_int) fun _ _ _ q => ⟨1, rfl, q⟩) (pe_sliceS h po_none po_none (pe_un un_neg pe_int))) fun _ _ _ q => up_rev (fun _ _ _ q => ⟨1, rfl, ⟨_, rfl, q⟩⟩) q
end
end B
namespace B
open PySem PySem.Spec PyProof.Rows L2
section
variable {X : Cx} {K : PySem.W.Frag} {κ : Str → Addr} {ι : List Addr} {H : Hp} {σ : L2.St}
def isLst (δ : De) (G : List M) (e : Ev) : Bool := match pk δ G e with
  | some (.lst _) => true
  | _ => false
def bmF (p : List Ev → Mo Ev) (fo : Mo Ev) (fa : Mo (List Ev)) : Mo Ev := bd fo fun e => fun δ G => if isLst δ G e then bd fa (fun es => p (e :: es)) δ G else none
def rM (r : V → List V → Hp → VK → Prop) : List V → Hp → VK → Prop := fun vs H Q => ∃ x xs, vs = x :: xs ∧ r x xs H Q
theorem lst_ty {δ : De} {G : List M} {e : Ev} {v : V} {fp : List Addr} {H0 : Hp} {ι0 : List Addr} (a : After K κ σ ι0 fp H0 [e] δ G [v] ι H) (h : isLst δ G e = true) : tyV K "list" v H := by
  unfold isLst at h
  split at h
  · rename_i xs hp
    obtain ⟨b, e1, ys, h1, r⟩ := a.ar.pk (j := 0) rfl rfl hp
    subst e1
    exact .inl ⟨rfl, ys, SqL.of h1⟩
  · cases h
theorem up_bm {p : List Ev → Mo Ev} {fo : Mo Ev} {fa : Mo (List Ev)} {r : V → List V → Hp → VK → Prop} {Q : VK} (hp : Prim K κ (rM r) p) (h : UpE K κ (bmF p fo fa) σ H Q) : tBM K "list" r (UpE K κ fo) (UpA K κ fa) σ H Q := by
  obtain ⟨ι, δ, G, e, δ', G', s, eq, k⟩ := h
  obtain ⟨x, δ1, G1, e1, eq1⟩ := bd_inv eq
  split at eq1
  · rename_i hl
    obtain ⟨es, δ2, G2, e2, eq2⟩ := bd_inv (m := fa) eq1
    refine ⟨ι, δ, G, x, δ1, G1, s, e1, fun v ι1 H1 a1 => ⟨lst_ty a1 hl, ?_⟩⟩
    refine ⟨ι1, δ1, G1, es, δ2, G2, a1.ar.base, e2, fun vs ι2 H2 a2 => ?_⟩
    have a := a1.app a2
    obtain ⟨y, ys, ey, q⟩ := hp _ _ _ _ _ _ _ _ _ _ Q a.ar eq2 fun v ι3 H3 d => k _ _ _ (a.then d)
    cases ey
    exact q
  · cases eq1
theorem up_bm0 {p : List Ev → Mo Ev} {fo : Mo Ev} {r : V → List V → Hp → VK → Prop} {Q : VK} (hp : Prim K κ (rM r) p) (hl : ∀ e δ G z, p [e] δ G = some z → isLst δ G e = true) (h : UpE K κ (unF p fo) σ H Q) : tBM0 K "list" r (UpE K κ fo) σ H Q := by
  obtain ⟨ι, δ, G, e, δ', G', s, eq, k⟩ := h
  obtain ⟨x, δ1, G1, e1, eq1⟩ := bd_inv eq
  refine ⟨ι, δ, G, x, δ1, G1, s, e1, fun v ι1 H1 a1 => ⟨lst_ty a1 (hl _ _ _ _ eq1), ?_⟩⟩
  obtain ⟨y, ys, ey, q⟩ := hp _ _ _ _ _ _ _ _ _ _ Q a1.ar eq1 fun v ι3 H3 d => k _ _ _ (a1.then d)
  cases ey
  exact q
def append1P : List Ev → Mo Ev := fun es δ G => match es with
  | [a, .v (.im d)] => match pk δ G a with
    | some (.lst xs) => if xs.length < 1000000 then some (.v (.im .non), (pkS δ G (.lst (xs ++ [d])) a).1, (pkS δ G (.lst (xs ++ [d])) a).2) else none
    | _ => none
  | _ => none
theorem prim_append : Prim K κ (rM rAppend) append1P := by
  intro ι H σ δ G es vs e δ' G' Q a h k
  unfold append1P at h
  split at h
  · rename_i x d
    split at h
    · rename_i xs hx
      split at h
      · rename_i hl
        cases h
        obtain ⟨v, u, rfl⟩ := len2 a.len
        obtain ⟨b, e1, ys, h1, r⟩ := a.pk (j := 0) rfl rfl hx
        subst e1
        have ru := a.im (j := 1) rfl rfl
        have l1 := r.len
        refine ⟨_, _, rfl, b, ys, u, rfl, rfl, h1, Nat.lt_of_lt_of_le (by omega) (show 1000000 ≤ sizeLine by decide), k _ _ _ (fin_mut a (j := 0) rfl rfl hx (fun _ kp => ⟨_, upd_same, (r.app (.cons ru .nil)).mono (Pre.refl _) kp⟩) .non)⟩
      · cases h
    · cases h
  · cases h
def pop0P : List Ev → Mo Ev := fun es δ G => match es with
  | [a] => match pk δ G a with
    | some (.lst xs) => match xs[xs.length - 1]? with
      | some d => some (.v (.im d), (pkS δ G (.lst xs.dropLast) a).1, (pkS δ G (.lst xs.dropLast) a).2)
      | none => none
    | _ => none
  | _ => none
theorem RpIs.dropLast {vs : List V} {xs : List I} (r : RpIs K ι H vs xs) : RpIs K ι H vs.dropLast xs.dropLast := by
  rw [List.dropLast_eq_take, List.dropLast_eq_take, r.len]
  exact r.take _
theorem prim_pop : Prim K κ (rM rPop) pop0P := by
  intro ι H σ δ G es vs e δ' G' Q a h k
  unfold pop0P at h
  split at h
  · rename_i x
    split at h
    · rename_i xs hx
      split at h
      · rename_i d hd
        cases h
        obtain ⟨v, rfl⟩ := len1 a.len
        obtain ⟨b, e1, ys, h1, r⟩ := a.pk (j := 0) rfl rfl hx
        subst e1
        obtain ⟨w, hw, rw'⟩ := r.get hd
        refine ⟨_, _, rfl, b, ys, w, rfl, rfl, h1, by rw [r.len]; exact hw, k _ _ _ (fin_mut a (j := 0) rfl rfl hx (fun _ kp => ⟨_, upd_same, r.dropLast.mono (Pre.refl _) kp⟩) rw')⟩
      · cases h
    · cases h
  · cases h
theorem pop_lst (e : Ev) (δ : De) (G : List M) (z : Ev × De × List M) (h : pop0P [e] δ G = some z) : isLst δ G e = true := by
  unfold pop0P at h
  dsimp only at h
  unfold isLst
  split at h
  · rfl
  · cases h
def putQ : List Ev → De → List M → Option (De × List M) := fun es δ G => match es with
  | [.v (.im d), a, .v (.im x)] => match pk δ G a with
    | some (.lst xs) => match x with
      | .int i => match ixN xs.length i with
        | some j => some (pkS δ G (.lst (xs.set j d)) a)
        | none => none
      | _ => none
    | some (.dic kvs) => match keyI x with
      | some k => if kvs.length < 1000000 then some (pkS δ G (.dic (putD kvs k d)) a) else none
      | none => none
    | some (.dit kvs) => match keyT x with
      | some k => if kvs.length < 1000000 then some (pkS δ G (.dit (putD kvs k d)) a) else none
      | none => none
    | _ => none
  | _ => none
def putF' (fo fi fv : Mo Ev) : SF := fun δ G => match bd fv (fun v => bd fo fun o => bd fi fun i => rt [v, o, i]) δ G with
  | some (es, δ1, G1) => match putQ es δ1 G1 with
    | some (δ2, G2) => some (.nx δ2 G2)
    | none => none
  | none => none
theorem up_put {fo fi fv : Mo Ev} {D : Ends} (h : UpS K κ (putF' fo fi fv) D σ H) : tAsg (UpE K κ fv) (gSub (UpE K κ fo) (UpE K κ fi) rSetL) D σ H ∨ sDPut (UpE K κ fo) (UpE K κ fi) (UpE K κ fv) D σ H := by
  obtain ⟨ι, δ, G, fl, s, eq, k⟩ := h
  unfold putF' at eq
  split at eq
  · rename_i es δe Ge ee
    obtain ⟨v, δ1, G1, e1, ee⟩ := bd_inv ee
    obtain ⟨o, δ2, G2, e2, ee⟩ := bd_inv ee
    obtain ⟨i, δ3, G3, e3, ee⟩ := bd_inv ee
    cases ee
    split at eq
    · rename_i δ4 G4 e4
      cases eq
      -- what comes behind the three
      have go : ∀ {vv ov iv : V} {ι3 : List Addr} {H3 : Hp}, After K κ σ ι (own σ δ ++ ι) H [v, o, i] δe Ge [vv, ov, iv] ι3 H3 →
          (∃ p xs kk j, ov = .ref p ∧ iv = .int kk ∧ H3 p = some (.lst xs) ∧ ixN xs.length kk = some j ∧ D.nx σ (upd H3 p (.lst (xs.set j vv)))) ∨ (∃ a H4, ov = .ref a ∧ DPut H3 a iv vv H4 ∧ D.nx σ H4) := fun {vv ov iv ι3 H3} a => by
        unfold putQ at e4
        split at e4
        · rename_i d a0 x hq
          cases hq
          have rv := a.ar.im (j := 0) rfl rfl
          have rx := a.ar.im (j := 2) rfl rfl
          have nxt : ∀ {m m' : M} {b : Addr} {ob : HO}, pk δe Ge o = some m → ov = .ref b → (RpM K κ ι3 H3 b m → Kp H3 (upd H3 b ob) → RpM K κ ι3 (upd H3 b ob) b m') → (pkS δe Ge m' o = (δ4, G4)) → D.nx σ (upd H3 b ob) := fun hp eo hr he => by
            subst eo
            have f := fin_mut a.ar (j := 1) rfl rfl hp hr (RpI.non)
            obtain ⟨p, q⟩ := (a.then f).drop
            rw [he] at p q
            exact k _ _ _ p q
          split at e4
          · rename_i xs hp
            cases rx with
            | int kk =>
              dsimp only at e4
              split at e4
              · rename_i j hj
                obtain ⟨b, eb, ys, h1, r⟩ := a.ar.pk (j := 1) rfl rfl hp
                have l := r.len
                exact .inl ⟨b, ys, kk, j, eb, rfl, h1, by rw [l]; exact hj, nxt (m' := .lst (xs.set j d)) hp eb (fun _ kp => ⟨_, upd_same, (r.set j rv).mono (Pre.refl _) kp⟩) (Option.some.inj e4)⟩
              · cases e4
            | _ => cases e4
          · rename_i kvs hp
            split at e4
            · rename_i kk hk
              split at e4
              · rename_i hl
                obtain ⟨b, eb, ws, h1, h2, r⟩ := a.ar.pk (j := 1) rfl rfl hp
                have ek := keyI_of rx hk
                subst ek
                have l : ws.length = kvs.length := by have := congrArg List.length h2; simpa using this
                refine .inr ⟨b, _, eb, DPut.k h1 (Nat.lt_of_lt_of_le (by omega) (show 1000000 ≤ sizeLine by decide)), nxt (m' := .dic (putD kvs kk d)) hp eb (fun _ kp => ?_) (Option.some.inj e4)⟩
                obtain ⟨p, q⟩ := putD_rel (k := kk) rv h2 r
                exact ⟨_, upd_same, p, q.mono (Pre.refl _) kp⟩
              · cases e4
            · cases e4
          · rename_i kvs hp
            split at e4
            · rename_i kk hk
              split at e4
              · rename_i hl
                obtain ⟨b, eb, ws, h1, h2, r⟩ := a.ar.pk (j := 1) rfl rfl hp
                obtain ⟨c, ek, hc⟩ := keyT_of rx hk
                subst ek
                have l : ws.length = kvs.length := by have := congrArg List.length h2; simpa using this
                refine .inr ⟨b, _, eb, DPut.t h1 hc (Nat.lt_of_lt_of_le (by omega) (show 1000000 ≤ sizeLine by decide)), nxt (m' := .dit (putD kvs kk d)) hp eb (fun _ kp => ?_) (Option.some.inj e4)⟩
                obtain ⟨p, q⟩ := putD_rel (k := kk) rv h2 r
                exact ⟨_, upd_same, p, q.mono (Pre.refl _) kp⟩
              · cases e4
            · cases e4
          · cases e4
        · cases e4
      -- is it a list
      by_cases hl : ∃ xs, pk δe Ge o = some (.lst xs)
      · left
        refine ⟨ι, δ, G, v, δ1, G1, s, e1, fun vv ι1 H1 a1 => ?_⟩
        refine ⟨ι1, δ1, G1, o, δ2, G2, a1.ar.base, e2, fun ov ι2 H2 a2 => ?_⟩
        refine ⟨ι2, δ2, G2, i, _, _, a2.ar.base, e3, fun iv ι3 H3 a3 => ?_⟩
        have a := a1.app (a2.app a3)
        rcases go a with q | ⟨a', H4, ea, dp, q⟩
        · exact q
        · exfalso
          obtain ⟨xs, hx⟩ := hl
          obtain ⟨b, eb, ys, h1, r⟩ := a.ar.pk (j := 1) rfl rfl hx
          rw [ea] at eb; cases eb
          rcases dp with ⟨_, _, h2, _⟩ | ⟨_, _, _, h2, _⟩ <;> (rw [h1] at h2; cases h2)
      · right
        refine ⟨ι, δ, G, v, δ1, G1, s, e1, fun vv ι1 H1 a1 => ?_⟩
        refine ⟨ι1, δ1, G1, o, δ2, G2, a1.ar.base, e2, fun ov ι2 H2 a2 => ?_⟩
        refine ⟨ι2, δ2, G2, i, _, _, a2.ar.base, e3, fun iv ι3 H3 a3 => ?_⟩
        have a := a1.app (a2.app a3)
        rcases go a with ⟨p, xs, kk, j, eo, _, h1, _, _⟩ | q
        · exfalso
          unfold putQ at e4
          split at e4
          · rename_i d a0 x hq
            cases hq
            split at e4
            · rename_i ys hp; exact hl ⟨ys, hp⟩
            · rename_i kvs hp
              obtain ⟨b, eb, ws, h2, _⟩ := a.ar.pk (j := 1) rfl rfl hp
              rw [eo] at eb; cases eb
              rw [h1] at h2; cases h2
            · rename_i kvs hp
              obtain ⟨b, eb, ws, h2, _⟩ := a.ar.pk (j := 1) rfl rfl hp
              rw [eo] at eb; cases eb
              rw [h1] at h2; cases h2
            · cases e4
          · cases e4
        · exact q
    · cases eq
  · cases eq
end
section
variable {X : Cx} {κ : Str → Addr} {a b e o : Expr} {es : List Expr} {fa fb fv : Mo Ev} {fs : Mo (List Ev)} {pos apos cpos pos' : Pos} {k : Nat}
theorem e_append1 (hr : Room k X.A) (ho : LE X κ o fa) (ha : LA X κ (e :: es) fs) (hbase : attributeBase o "append" X.env (eval o X.env) = eval o X.env := by rfl)
    (hfew : ((backTo cpos (starEach (e :: es) X.env)).all (fun x => !x.1) && (backToKw cpos (keywordEach [] X.env)).all (fun x => x.1.isSome) && decide ((e :: es).length + ([] : List Keyword).length + (if ([] : List Keyword).isEmpty then 0 else 1) < 30)) = true := by rfl)
    (hline : (apos.endLine == cpos.line) = true := by rfl) (hs : starEach (e :: es) X.env = (false, eval e X.env) :: starEach es X.env := by rfl) (hplain : (backTo cpos (starEach es X.env)).any (·.1) = false := by rfl) :
    LE X κ (.Call (.Attribute o "append" apos) (e :: es) [] cpos) (bmF append1P fa fs) := pe_imp (pe_bm PySem.F.plainAttrs_list PySem.F.slot_list_append PySem.F.type_list_append mt_append ho ha hbase hfew hline hs hplain) fun _ _ _ => up_bm prim_append
theorem e_pop0 (ho : LE X κ o fa) (hbase : attributeBase o "pop" X.env (eval o X.env) = eval o X.env := by rfl) (hline : (apos.endLine == cpos.line) = true := by rfl) : LE X κ (.Call (.Attribute o "pop" apos) [] [] cpos) (unF pop0P fa) :=
  pe_imp (pe_bm0 PySem.F.plainAttrs_list PySem.F.slot_list_pop PySem.F.type_list_pop mt_pop ho hbase hline) fun _ _ _ => up_bm0 prim_pop pop_lst
theorem s_put (hr : Room k X.A) (ho : LE X κ o fa) (hi : LE X κ e fb) (hv : LE X κ a fv) (hs : swapsWith a (some (.Subscript o e pos')) pos.line X.env = pure false := by rfl) (hs1 : swapsWithSole [.Subscript o e pos'] a pos.line X.env = pure false := by rfl)
    (hw : swappedStores [.Subscript o e pos'] a X.env = pure none := by rfl) (h1 : (assignEach [.Subscript o e pos'] X.env).map (·.2) = [assign (.Subscript o e pos') X.env] := by rfl)
    (ha : ∀ v, assign (.Subscript o e pos') X.env v = (do
      let ov ← holding [v] (eval o X.env)
      let iv ← holding [v, ov] (eval e X.env)
      standAt pos'
      holding [v, ov, iv] (setItem ov iv v)
      release [v, ov, iv] []) := by intro _; rfl) : LS X κ (.Assign [.Subscript o e pos'] a pos) (putF' fa fb fv) :=
  ps_imp (ps_or (ps_asg hv (pg_sub ho hi set_list ha) hs1 hw h1) (ps_dput (hu_of hr) ho hi hv hs)) fun _ _ _ => up_put
end
end B
namespace B
open PySem PySem.Spec PyProof.Rows L2
section
variable {X : Cx} {K : PySem.W.Frag} {κ : Str → Addr} {ι : List Addr} {H : Hp} {σ : L2.St}
def newK : Mo Ev := rt (.v (.ow (.dic [])))
def newT : Mo Ev := rt (.v (.ow (.dit [])))
theorem up_newT {Q : VK} (h : UpE K κ newT σ H Q) : tDNewT σ H Q := by
  obtain ⟨ι, δ, G, e, δ', G', s, eq, k⟩ := h
  cases eq
  intro p hp
  have a := fin_ow (After.nil s).ar hp (m := .dit []) (o := .dT []) ⟨[], upd_same, rfl, .nil⟩
  exact k _ _ _ ⟨a.ar, (After.nil s).st.trans a.st⟩
/-- the pairs of a display: keys and values by turns -/
def UpPs (K : PySem.W.Frag) (κ : Str → Addr) (trs : List (TE × TE)) (f : Mo (List Ev)) : Prop := ∀ σ H Q, UpA K κ f σ H (fun vs H1 => ∀ ps : List (V × V), vs = ps.flatMap (fun p => [p.1, p.2]) → Q ps H1) → tPairs trs σ H Q
def pnil : Mo (List Ev) := rt []
def pcons (fk fv : Mo Ev) (r : Mo (List Ev)) : Mo (List Ev) := bd fk fun a => bd fv fun b => bd r fun es => rt (a :: b :: es)
theorem ups_nil : UpPs K κ [] pnil := fun σ H Q h => by
  obtain ⟨ι, δ, G, es, δ', G', s, e, k⟩ := h
  cases e
  exact k _ _ _ (After.nil s) [] rfl
theorem ups_cons {fk fv : Mo Ev} {r : Mo (List Ev)} {trs : List (TE × TE)} (hr : UpPs K κ trs r) : UpPs K κ ((UpE K κ fk, UpE K κ fv) :: trs) (pcons fk fv r) := fun σ H Q h => by
  obtain ⟨ι, δ, G, es, δ', G', s, e, k⟩ := h
  obtain ⟨x, δ1, G1, e1, e⟩ := bd_inv e
  obtain ⟨y, δ2, G2, e2, e⟩ := bd_inv e
  obtain ⟨zs, δ3, G3, e3, e⟩ := bd_inv e
  cases e
  refine ⟨ι, δ, G, x, δ1, G1, s, e1, fun v ι1 H1 a1 => ?_⟩
  refine ⟨ι1, δ1, G1, y, δ2, G2, a1.ar.base, e2, fun w ι2 H2 a2 => ?_⟩
  refine hr _ _ _ ⟨ι2, δ2, G2, zs, _, _, a2.ar.base, e3, fun vs ι3 H3 a3 ps hps => ?_⟩
  exact k _ _ _ (a1.app (a2.app a3)) ((v, w) :: ps) (by rw [hps]; rfl)
def pairsE : List Ev → Option (List (Key × I))
  | [] => some []
  | .v (.im x) :: .v (.im d) :: r => match keyI x, pairsE r with
    | some k, some ps => some ((k, d) :: ps)
    | _, _ => none
  | _ => none
def mergeI (ps : List (Key × I)) : List (Key × I) := ps.foldl (fun acc kv => putD acc kv.1 kv.2) []
def dicF (f : Mo (List Ev)) : Mo Ev := bd f fun es δ G => match pairsE es with
  | some ps => if ps.length ≤ 15 then some (.v (.ow (.dic (mergeI ps))), δ, G) else none
  | none => none
theorem pairs_rel : ∀ {es : List Ev} {vs : List V} {ps : List (Key × I)}, Paired (RpE K κ ι H) (tS es vs) (tD es) → es.length = vs.length → pairsE es = some ps →
    ∃ kvs : List (Key × V), vs = (kvs.map fun kv => (kV kv.1, kv.2)).flatMap (fun p => [p.1, p.2]) ∧ kvs.map (·.1) = ps.map (·.1) ∧ RpIs K ι H (kvs.map (·.2)) (ps.map (·.2))
  | [], [], _, _, _, h => by cases h; exact ⟨[], rfl, rfl, .nil⟩
  | [], _ :: _, _, _, l, _ => by cases l
  | _ :: _, [], _, _, l, _ => by cases l
  | [_], [_], _, _, _, h => by
    unfold pairsE at h
    split at h
    · rename_i hq; cases hq
    · rename_i hq; cases hq
    · cases h
  | [_], _ :: _ :: _, _, _, l, _ => by cases l
  | _ :: _ :: _, [_], _, _, l, _ => by cases l
  | a :: b :: es, v :: w :: vs, ps, p, l, h => by
    unfold pairsE at h
    split at h
    · rename_i hq; cases hq
    · rename_i x d r hq
      cases hq
      split at h
      · rename_i kk ps' hk hps
        cases h
        cases p with
        | cons p1 p =>
          cases p with
          | cons p2 p =>
            cases p1 with
            | im r1 =>
              cases p2 with
              | im r2 =>
                obtain ⟨kvs, e1, e2, e3⟩ := pairs_rel p (by simpa using l) hps
                refine ⟨(kk, w) :: kvs, ?_, ?_, .cons r2 e3⟩
                · rw [keyI_of r1 hk, e1]; rfl
                · rw [List.map_cons, List.map_cons, e2]
      · cases h
    · cases h
theorem merge_rel : ∀ {kvs : List (Key × V)} {ps : List (Key × I)} {acc : List (Key × V)} {ac : List (Key × I)}, kvs.map (·.1) = ps.map (·.1) → RpIs K ι H (kvs.map (·.2)) (ps.map (·.2)) → acc.map (·.1) = ac.map (·.1) → RpIs K ι H (acc.map (·.2)) (ac.map (·.2)) →
    (mergeK acc kvs).map (·.1) = (ps.foldl (fun acc kv => putD acc kv.1 kv.2) ac).map (·.1) ∧ RpIs K ι H ((mergeK acc kvs).map (·.2)) ((ps.foldl (fun acc kv => putD acc kv.1 kv.2) ac).map (·.2))
  | [], [], _, _, _, _, e, r => ⟨e, r⟩
  | [], _ :: _, _, _, e, _, _, _ => by cases e
  | _ :: _, [], _, _, e, _, _, _ => by cases e
  | (k, v) :: kvs, (k', d) :: ps, acc, ac, e, r, e', r' => by
    simp only [List.map_cons, List.cons.injEq] at e
    obtain ⟨e1, e2⟩ := e
    subst e1
    cases r with
    | cons r rs =>
      obtain ⟨p, q⟩ := putD_rel (k := k) r e' r'
      have := merge_rel (kvs := kvs) (ps := ps) e2 rs p q
      exact this
theorem up_dic {trs : List (TE × TE)} {f : Mo (List Ev)} {Q : VK} (hf : UpPs K κ trs f) (h : UpE K κ (dicF f) σ H Q) : tDisp trs σ H Q := by
  obtain ⟨ι, δ, G, e, δ', G', s, eq, k⟩ := h
  obtain ⟨es, δ1, G1, e1, eq1⟩ := bd_inv eq
  intro p hp
  split at eq1
  · rename_i ps hps
    split at eq1
    · rename_i hl
      cases eq1
      have sp := s.push_ow (o := .dK []) (m := .dic []) hp ⟨[], upd_same, rfl, .nil⟩
      have st0 := Step.lay_ow (ι := ι) (σ := σ) (δ := δ) (o := .dK []) (m := .dic []) s.len hp
      refine hf _ _ _ ⟨ι, δ, G, es, _, _, sp.pop s.len, e1, fun vs ι1 H1 a qs hqs => ?_⟩
      -- the new dict lies beside it
      obtain ⟨j1, j2⟩ := SR.join (σ0 := σ) (δ1 := δ) (τ := [some (.ref p)]) (θ := [some (.ow (.dic []))]) sp s.len a.ar.sr a.ar.l a.st
      have hp1 : H1 p = some (.dK []) := by
        refine a.st.keep p _ upd_same fun hm => ?_
        obtain ⟨o, ho, _⟩ := s.mu hm
        rw [hp] at ho; cases ho
      obtain ⟨kvs, ev, ek, rk⟩ := pairs_rel (paired_split a.ar.l a.ar.sr.sl).2 a.ar.len hps
      have hq : qs = kvs.map fun kv => (kV kv.1, kv.2) := by
        rw [ev] at hqs
        have inj : ∀ {l1 l2 : List (V × V)}, l1.flatMap (fun p => [p.1, p.2]) = l2.flatMap (fun p => [p.1, p.2]) → l1 = l2 := by
          intro l1
          induction l1 with
          | nil => intro l2 h; cases l2 with
            | nil => rfl
            | cons x l2 => simp at h
          | cons x l1 ih => intro l2 h; cases l2 with
            | nil => simp at h
            | cons y l2 =>
              simp only [List.flatMap_cons, List.cons_append, List.nil_append, List.cons.injEq] at h
              obtain ⟨h1, h2, h3⟩ := h
              rw [ih h3, Prod.ext h1 h2]
        exact (inj hqs).symm
      have hkl : kvs.length ≤ 15 := by have := congrArg List.length ek; simp at this; omega
      refine ⟨hp1, kvs, hq, hkl, ?_⟩
      have l1 := a.ar.l
      have i1 : (σ ++ ([some (V.ref p)] ++ tS es vs))[σ.length]? = some (some (.ref p)) := by rw [List.getElem?_append_right (Nat.le_refl _), Nat.sub_self]; rfl
      have i2 : (δ' ++ ([some (Vl.ow (.dic []))] ++ tD es))[σ.length]? = some (some (.ow (.dic []))) := by rw [l1, List.getElem?_append_right (Nat.le_refl _), Nat.sub_self]; rfl
      obtain ⟨q1, q2⟩ := j1.poke i1 i2 (m' := .dic (mergeI ps)) (o := .dK (mergeK [] kvs)) (fun _ kp => by
        obtain ⟨z1, z2⟩ := merge_rel (acc := []) (ac := []) ek rk rfl .nil
        exact ⟨_, upd_same, z1, z2.mono (Pre.refl _) kp⟩)
      have e5 : ∀ (δx : De), σ.length = δx.length → (δx ++ ([some (Vl.ow (.dic []))] ++ tD es)).set σ.length (some (.ow (.dic (mergeI ps)))) = (δx ++ [some (.ow (.dic (mergeI ps)))]) ++ tD es := fun δx l => by
        rw [l, List.set_append_right _ _ (Nat.le_refl _), Nat.sub_self]; simp
      rw [e5 _ l1, ← List.append_assoc σ] at q1
      rw [e5 _ l1, ← List.append_assoc σ] at q2
      rw [← List.append_assoc σ] at j2
      have l2 : (σ ++ [some (V.ref p)]).length = (δ' ++ [some (Vl.ow (.dic (mergeI ps)))]).length := by rw [List.length_append, List.length_append, l1]; rfl
      refine k _ _ _ ⟨⟨l1, q1.pop l2, .cons (fun _ h => by cases h) .nil⟩, ?_⟩
      exact ((st0.trans j2).trans q2).sub fun x hx => own_sub l2 hx
    · cases eq1
  · cases eq1
def orV (fa fb : Mo Ev) : Mo Ev := bd fa fun e => fun δ G => match truE e δ G with
  | some (true, _, _) => some (e, δ, G)
  | some (false, _, _) => fb δ G
  | none => none
def tOrG (K : PySem.W.Frag) (ta tb : TE) : TE := fun σ H Q => ta σ H fun x H1 => ∃ c, TruV K x H1 c ∧ if c = true then Q x H1 else tb σ H1 Q
theorem pe_orG {a b : Expr} {rest : List Expr} {pos : Pos} {ta tb : TE} (ha : PE X a ta) (hb : PE X (.BoolOp .Or (b :: rest) pos) tb) : PE X (.BoolOp .Or (a :: b :: rest) pos) (tOrG X.K ta tb) := by
  intro pins s σ H Q I h
  refine BoolOp_or (thn (ha pins s σ H _ I h) fun v s1 ⟨x, H1, I1, r1, c, hc, q1⟩ => ?_)
  refine thn (tru_ok pins s1 σ H1 x v (fun b H' => H' = H1 ∧ b = c) I1 r1 ⟨c, hc, rfl, rfl⟩) fun b s2 ⟨H2, I2, e1, e2⟩ => ?_
  subst e1; subst e2
  cases b with
  | true => rw [if_pos rfl] at q1; exact ⟨x, _, I2, r1, q1⟩
  | false => rw [if_neg Bool.false_ne_true] at q1; exact hb pins s2 σ _ Q I2 q1
theorem tru_of {e : Ev} {δ : De} {G : List M} {v : V} {c : Bool} {δ' : De} {G' : List M} (a : Args K κ ι H σ δ G [e] [v]) (h : truE e δ G = some (c, δ', G')) : TruV K v H c ∧ δ' = δ ∧ G' = G := by
  have seqs : ∀ {xs : List I}, sq δ G e = some xs → TruV K v H (!xs.isEmpty) := fun hx => by
    obtain ⟨b, ys, e2, h2, r⟩ := a.sq (j := 0) rfl rfl hx
    subst e2
    rw [isE r]
    rcases h2 with h2 | h2
    · exact .inl ⟨ys, h2, rfl⟩
    · exact .inr (.inl ⟨ys, h2, rfl⟩)
  unfold truE at h
  split at h
  · cases h; cases a.im (j := 0) rfl rfl; exact ⟨rfl, rfl, rfl⟩
  · cases h; cases a.im (j := 0) rfl rfl; exact ⟨rfl, rfl, rfl⟩
  · cases h; cases a.im (j := 0) rfl rfl; exact ⟨rfl, rfl, rfl⟩
  · split at h
    · rename_i y hy
      cases h; cases a.im (j := 0) rfl rfl
      exact ⟨⟨Nat.le_trans hy (by decide), rfl⟩, rfl, rfl⟩
    · cases h
  · split at h
    · rename_i kvs hp
      cases h
      obtain ⟨b, e2, ws, h1, h2, h3⟩ := a.pk (j := 0) rfl rfl hp
      subst e2
      refine ⟨.inr (.inr ⟨ws, h1, ?_⟩), rfl, rfl⟩
      have := congrArg List.length h2
      simp at this
      cases kvs <;> cases ws <;> simp_all
    · split at h
      · rename_i xs hx
        cases h
        exact ⟨seqs hx, rfl, rfl⟩
      · cases h
theorem up_orV {fa fb : Mo Ev} {Q : VK} (h : UpE K κ (orV fa fb) σ H Q) : tOrG K (UpE K κ fa) (UpE K κ fb) σ H Q := by
  obtain ⟨ι, δ, G, e, δ', G', s, eq, k⟩ := h
  obtain ⟨x, δ1, G1, e1, eq1⟩ := bd_inv eq
  refine ⟨ι, δ, G, x, δ1, G1, s, e1, fun v ι1 H1 a => ?_⟩
  split at eq1
  · rename_i d1 d2 ht
    cases eq1
    obtain ⟨t, _, _⟩ := tru_of a.ar ht
    exact ⟨true, t, by rw [if_pos rfl]; exact k _ _ _ a⟩
  · rename_i d1 d2 ht
    obtain ⟨t, _, _⟩ := tru_of a.ar ht
    obtain ⟨p, q⟩ := a.drop
    exact ⟨false, t, by rw [if_neg Bool.false_ne_true]; exact UpE.go p q eq1 k⟩
  · cases eq1
end
section
variable {X : Cx} {κ : Str → Addr} {a b e o : Expr} {es : List Expr} {fa fb fv : Mo Ev} {fs : Mo (List Ev)} {p pos apos : Pos} {k n : Nat}
theorem e_dnewT : LE X κ (.Dict [] [] pos) newT := pe_imp pe_dnewT fun _ _ _ => up_newT
def LP (X : Cx) (κ : Str → Addr) (pos : Pos) (keys : List (Option Expr)) (vals : List Expr) (f : Mo (List Ev)) : Prop := ∃ trs, PPs X pos keys vals trs ∧ UpPs X.K κ trs f
theorem d_nil : LP X κ pos [] [] pnil := ⟨[], pps_nil, ups_nil⟩
theorem d_cons {ks : List (Option Expr)} {vs : List Expr} (hk : LE X κ a fa) (hv : LE X κ b fb) (hr : LP X κ pos ks vs fs) : LP X κ pos (some a :: ks) (b :: vs) (pcons fa fb fs) := let ⟨trs, h1, h2⟩ := hr; ⟨_, pps_cons hk hv h1, ups_cons h2⟩
theorem e_dic {ks : List (Option Expr)} {vs : List Expr} (hr : Room k X.A) (h : LP X κ pos ks vs fs) (hall : ks.all (·.isSome) = true := by rfl) (hl : ks.length = vs.length := by rfl) (h0 : ks ≠ [] := by exact (fun z => nomatch z)) (h15 : ks.length ≤ 15 := by decide) : LE X κ (.Dict ks vs pos) (dicF fs) := by
  obtain ⟨trs, h1, h2⟩ := h
  exact pe_imp (pe_disp h1 hall hl h0 h15) fun _ _ _ => up_dic h2
theorem e_one {op} (h : LE X κ a fa) : LE X κ (.BoolOp op [a] pos) fa := L2.pe_one h
theorem e_or {rest : List Expr} (ha : LE X κ a fa) (hb : LE X κ (.BoolOp .Or (b :: rest) pos) fb) : LE X κ (.BoolOp .Or (a :: b :: rest) pos) (orV fa fb) := pe_imp (pe_orG ha hb) fun _ _ _ => up_orV
theorem up_call {K : PySem.W.Frag} {σ : L2.St} {H : Hp} {fn : FF} {Q : VK} (h : UpE K κ (bd fs (callP n fn)) σ H Q) : tCall (UpF K κ n fn) [] E0 (UpA K κ fs) σ H Q := by
  have := up_args (prim_call (E := E0)) h
  unfold tCall
  simpa only [List.append_nil] using this
theorem e_call {x : Str} {ps : List Str} {fn : FF} (h : Has X.prog X.w X.K X.mg X.base x k ps (UpF X.K κ n fn)) (hr : Room k X.A) (ha : LA X κ (e :: es) fs) (hg : Gl X x := by rfl)
    (hdb : (x == ("__debug__" : Str)) = false := by decide) (he : starEach (e :: es) X.env = (false, eval e X.env) :: starEach es X.env := by rfl) (hpl : (backTo pos (starEach es X.env)).any (·.1) = false := by rfl) : LE X κ (.Call (.Name x p) (e :: es) [] pos) (bd fs (callP n fn)) :=
  pe_imp (pe_has h hr hg ha hdb he hpl) fun _ _ _ => up_call
/-- a method, whatever it is proved to do -/
def HasM (P : Program) (w : World) (K : PySem.W.Frag) (mg : Str → Option Value) (base : Heap) (C : Addr) (m : Str) (k : Nat) (ps : List Str) (sp : Sp) : Prop :=
  ∃ (f : Addr) (fd : FuncData), Meth K C m f ∧ Binds K fd ps [] ∧ FnOk P w K mg base CX0 k f fd ps sp
theorem e_meth {c m : Str} {ps : List Str} {fn : FF} {pl : Sem Bool} (h : HasM X.prog X.w X.K X.mg X.base (κ c) m k ps (UpF X.K κ n fn)) (hc : Cls X.K (κ c)) (hr : Room k X.A) (ho : LE X κ o fa) (ha : LA X κ (e :: es) fs)
    (hst : starEach (e :: es) X.env = (false, eval e X.env) :: starEach es X.env := by rfl) (hpl : (backTo pos (starEach es X.env)).any (·.1) = false := by rfl)
    (ht : eval (.Call (.Attribute o m apos) (e :: es) [] pos) X.env = (do
      let ov ← eval o X.env
      standAt apos.atName
      let (f, first) ← holding [ov] (getMethod ov m pl)
      callWith pos f first (backTo pos (starEach (e :: es) X.env)) (backToKw pos (keywordEach [] X.env))) := by rfl) : LE X κ (.Call (.Attribute o m apos) (e :: es) [] pos) (methF c m n fn fa fs) := by
  obtain ⟨f, fd, hm, hb, F⟩ := h
  exact pe_imp (pe_meth ho hc hm F hr hb .nil pass0 ha hst hpl ht) fun _ _ _ => up_meth
theorem e_meth0 {c m : Str} {ps : List Str} {fn : FF} {pl : Sem Bool} (h : HasM X.prog X.w X.K X.mg X.base (κ c) m k ps (UpF X.K κ n fn)) (hc : Cls X.K (κ c)) (hr : Room k X.A) (ho : LE X κ o fa)
    (ht : eval (.Call (.Attribute o m apos) [] [] pos) X.env = (do
      let ov ← eval o X.env
      standAt apos.atName
      let (f, first) ← holding [ov] (getMethod ov m pl)
      callWith pos f first (backTo pos (starEach [] X.env)) (backToKw pos (keywordEach [] X.env))) := by rfl) : LE X κ (.Call (.Attribute o m apos) [] [] pos) (methF c m n fn fa nilF) := by
  obtain ⟨f, fd, hm, hb, F⟩ := h
  refine pe_imp (pe_meth0 ho hc hm F hr hb .nil pass0 ht) fun σ H Q q => ?_
  obtain ⟨ι, δ, G, e, δ', G', s, eq, kk⟩ := up_meth (E := E0) q
  refine ⟨ι, δ, G, e, δ', G', s, eq, fun v ι' H' a => ?_⟩
  obtain ⟨a', dx, fs', e1, e2, e3, e4⟩ := kk v ι' H' a
  exact ⟨a', dx, fs', e1, e2, e3, upA_nil e4⟩
/-- a class with its __init__ -/
def HasI (P : Program) (w : World) (K : PySem.W.Frag) (mg : Str → Option Value) (base : Heap) (C : Addr) (k : Nat) (ps : List Str) (sp : Sp) : Prop :=
  ∃ (f : Addr) (fd : FuncData), Mk K C f ∧ Binds K fd ps [] ∧ FnOk P w K mg base CX0 k f fd ps sp
theorem e_make0 {c x : Str} {ps : List Str} {fn : FF} (h : HasI X.prog X.w X.K X.mg X.base (κ c) k ps (UpF X.K κ n fn)) (hr : Room (k + 1) X.A) (hm : X.mg x = some (.ref (κ c))) (hg : Gl X x := by rfl) (hdb : (x == ("__debug__" : Str)) = false := by decide) : LE X κ (.Call (.Name x p) [] [] pos) (bd nilF (makeP c n fn)) := by
  obtain ⟨f, fd, hM, hb, F⟩ := h
  refine pe_imp (pe_make0 hM F hr hg hm hb .nil pass0 hdb) fun _ _ _ q => ?_
  exact upA_nil (up_args (prim_make (E := E0)) q)
theorem e_fld {c f : Str} (hc : Cls X.K (κ c)) (hn : NoAttr X.K (κ c) f) (h : LE X κ o fa) (hb : attributeBase o f X.env (eval o X.env) = eval o X.env := by rfl) : LE X κ (.Attribute o f pos) (unF (fldP c f) fa) := pe_imp (pe_fld h hb) fun _ _ _ => up_fld hc hn
theorem s_fld {c f : Str} {pos' : Pos} (hc : Cls X.K (κ c)) (hn : NoAttr X.K (κ c) f) (h : LE X κ o fa) (hv : LE X κ a fv) (hs : swapsWith a (some (.Attribute o f pos')) pos.line X.env = pure false := by rfl) : LS X κ (.Assign [.Attribute o f pos'] a pos) (fldS c f fa fv) := ps_imp (ps_fld h hv hs) fun _ _ _ => up_fldS hc hn
theorem s_set {i : Nat} {x : Str} {pos' : Pos} (hN : X.N.Nodup) (h : LE X κ a fa) (hi : X.N[i]? = some x := by rfl) (hx : Loc X.env.scope x := by first | exact Or.inl rfl | exact Or.inr rfl) (hs : swapsWith a (some (.Name x pos')) pos.line X.env = pure false := by rfl) (hf : X.fn x = true ∨ X.env.scope.names.lookup x = some .local := by first | exact .inl rfl | exact .inr rfl | assumption) :
    LS X κ (.Assign [.Name x pos'] a pos) (asgF fa (gNm i)) := ps_imp (ps_set hN hi hx h hs hf) fun D σ H q => by
  obtain ⟨ι, δ, G, e, δ', G', s, eq, kk⟩ := up_asg q
  exact ⟨ι, δ, G, e, δ', G', s, eq, fun v ι' H' a => up_gnm (kk v ι' H' a)⟩
end
end B
namespace B
open PySem PySem.Spec PyProof.Rows L2
section
variable {X : Cx} {K : PySem.W.Frag} {κ : Str → Addr} {ι : List Addr} {H : Hp} {σ : L2.St}
def seqP : List Ev → De → List M → Option Wk := fun es δ G => match lsP es δ G with
  | some w => some w
  | none => tpP es δ G
theorem itF_of {fa : Mo (List Ev)} {p q : List Ev → De → List M → Option Wk} {δ : De} {G : List M} {w : Wk} {es : List Ev} {δ1 : De} {G1 : List M} (h : itF fa p δ G = some (w, es, δ1, G1)) (hpq : p es δ1 G1 = some w → q es δ1 G1 = some w) : itF fa q δ G = some (w, es, δ1, G1) := by
  unfold itF at h ⊢
  split at h
  · rename_i es' δ' G' e
    cases hp : p es' δ' G' with
    | none => rw [hp] at h; cases h
    | some w' =>
      rw [hp] at h
      cases h
      rw [hpq hp]; rfl
  · cases h
theorem up_seqI {f : Mo Ev} {R : It → Hp → Prop} (h : UpI K κ (itF (one f) seqP) σ H R) : iList K (UpE K κ f) σ H R ∨ iTup K (UpE K κ f) σ H R := by
  obtain ⟨ι, δ, G, w, es, δ', G', s, eq, k⟩ := h
  by_cases hq : lsP es δ' G' = some w
  · left
    refine up_one (up_it prim_ls ⟨ι, δ, G, w, es, δ', G', s, itF_of eq fun _ => hq, k⟩)
  · right
    refine up_one (up_it prim_tp ⟨ι, δ, G, w, es, δ', G', s, itF_of eq fun hs => ?_, k⟩)
    unfold seqP at hs
    split at hs
    · rename_i w' hw
      exact absurd (hw.trans hs) hq
    · exact hs
def rng3P : List Ev → De → List M → Option Wk := fun es _ _ => match es with
  | [.v (.im (.int i)), .v (.im (.int j)), .v (.im (.int c))] => if c = -1 ∧ j < 2 ^ 62 ∧ -(2 ^ 62) ≤ j ∧ i < 2 ^ 62 ∧ -(2 ^ 62) ≤ i then some ⟨(i - j).toNat, fun k _ _ => some (.int (i - k)), fun _ _ => true⟩ else none
  | _ => none
theorem walks_down {lo : Int} {n : Nat} {τ : L2.St} {θ : De} : Walks K κ (Itd lo n) τ θ ⟨n, fun i _ _ => some (.int (lo - i)), fun _ _ => true⟩ where
  go := fun hi hd _ _ => by
    cases hd
    refine ⟨hi, fun x H' y => ?_⟩
    obtain ⟨e1, e2⟩ := y
    subst e1; subst e2
    exact ⟨(fun _ _ h => h), .int _⟩
  stop := fun _ _ _ => Nat.le_refl _
theorem prim_rng3 : PrimI K κ (fun vs H R => ∃ i j : Int, vs = [.int i, .int j, .int (-1)] ∧ (-(2 ^ 62) ≤ i ∧ i < 2 ^ 62 ∧ -(2 ^ 62) ≤ j ∧ j < 2 ^ 62) ∧ R (Itd i (i - j).toNat) H) rng3P := by
  intro ι H σ δ G es vs w R a h k
  unfold rng3P at h
  split at h
  · rename_i i j c
    split at h
    · rename_i hj
      obtain ⟨rfl, h1, h2, h3, h4⟩ := hj
      cases h
      obtain ⟨v, u, t, rfl⟩ := len3 a.len
      cases a.im (j := 0) rfl rfl
      cases a.im (j := 1) rfl rfl
      cases a.im (j := 2) rfl rfl
      exact ⟨i, j, rfl, ⟨h4, h3, h2, h1⟩, k _ walks_down⟩
    · cases h
  · cases h
/-- zip of two lists -/
def zipW (a b : Ev) (n : Nat) : Wk := ⟨n, fun i δ G => match (sq δ G a).bind (·[i]?), (sq δ G b).bind (·[i]?) with | some x, some y => some (.tup [x, y]) | _, _ => none, fun δ G => match sq δ G a, sq δ G b with | some xs, some ys => decide (min xs.length ys.length = n) | _, _ => false⟩
def zipP : List Ev → De → List M → Option Wk := fun es δ G => match es with
  | [a, b] => if isL δ G a && isL δ G b then match sq δ G a, sq δ G b with
    | some xs, some ys => some (zipW a b (min xs.length ys.length))
    | _, _ => none
    else none
  | _ => none
theorem args_two {a b : Ev} {v u : V} {x y : Vl} {δ : De} {G : List M} (ha : a = .v x) (hb : b = .v y) (l : σ.length = δ.length) (h : SR K κ ι H (σ ++ tS [a, b] [v, u]) (δ ++ tD [a, b]) G) : Args K κ ι H σ δ G [a, b] [v, u] := ⟨l, h, .cons (fun i q => by rw [ha] at q; cases q) (.cons (fun i q => by rw [hb] at q; cases q) .nil)⟩
theorem sqL_at {es : List Ev} {vs : List V} {δ : De} {G : List M} {e : Ev} {v : V} {xs : List I} {j : Nat} (a : Args K κ ι H σ δ G es vs) (h1 : es[j]? = some e) (h2 : vs[j]? = some v) (hl : isL δ G e = true) (h : sq δ G e = some xs) : ∃ b ys, v = .ref b ∧ SqL K H b ys ∧ RpIs K ι H ys xs := by
  cases e with
  | s i => cases hl
  | v x =>
    cases x with
    | ow m =>
      cases m with
      | lst ys =>
        cases h
        obtain ⟨b, e1, zs, h3, r⟩ := a.pk h1 h2 (m := .lst xs) rfl
        exact ⟨b, zs, e1, SqL.of h3, r⟩
      | _ => cases hl
    | im d =>
      cases d with
      | fro ys =>
        cases h
        have r := a.im h1 h2
        cases r with
        | fro q r => exact ⟨_, _, rfl, q.sq, r⟩
      | ref k =>
        have h : (match pk δ G (.v (.im (.ref k))) with | some (.lst xs) => some xs | _ => none) = some xs := h
        split at h
        · rename_i ys e1
          cases h
          obtain ⟨b, e1, zs, h3, r⟩ := a.pk h1 h2 e1
          exact ⟨b, zs, e1, SqL.of h3, r⟩
        · cases h
      | _ => cases hl
theorem walks_zip {a b : Ev} {n : Nat} {p q : Addr} {δ : De} {G : List M} (ha : isL δ G a = true) (hb : isL δ G b = true) : Walks K κ (Itz K p q) (tS [a, b] [.ref p, .ref q]) (tD [a, b]) (zipW a b n) where
  go := fun {i d ι H σ δ' G'} hi hd l s => by
    obtain ⟨x, hx⟩ := isL_v ha
    obtain ⟨y, hy⟩ := isL_v hb
    have hd : (match (sq δ' G' a).bind (·[i]?), (sq δ' G' b).bind (·[i]?) with | some x, some y => some (I.tup [x, y]) | _, _ => none) = some d := hd
    split at hd
    · rename_i u w hu hw
      cases hd
      cases q1 : sq δ' G' a with
      | none => rw [q1] at hu; cases hu
      | some xs =>
        cases q2 : sq δ' G' b with
        | none => rw [q2] at hw; cases hw
        | some ys =>
          rw [q1] at hu; rw [q2] at hw
          have A := args_two hx hy l s
          obtain ⟨b1, vs, e1, h1, r1⟩ := sqL_at A (j := 0) rfl rfl (isL_any ha) q1
          obtain ⟨b2, ws, e2, h2, r2⟩ := sqL_at A (j := 1) rfl rfl (isL_any hb) q2
          cases e1; cases e2
          obtain ⟨v1, hv1, rv1⟩ := r1.get hu
          obtain ⟨v2, hv2, rv2⟩ := r2.get hw
          refine ⟨⟨vs, ws, v1, v2, h1, h2, hv1, hv2⟩, fun x H' y => ?_⟩
          obtain ⟨T, rfl, hT, hy⟩ := y
          have := hy vs ws v1 v2 h1 h2 hv1 hv2
          subst this
          have sm := Same.lay (o := .tup [v1, v2]) hT
          exact ⟨sm, .tup upd_same (.cons (rv1.mono (Pre.refl _) (Kp.same sm)) (.cons (rv2.mono (Pre.refl _) (Kp.same sm)) .nil))⟩
    · cases hd
  stop := fun {ι H σ δ' G'} hf l s => by
    obtain ⟨x, hx⟩ := isL_v ha
    obtain ⟨y, hy⟩ := isL_v hb
    have hf : (match sq δ' G' a, sq δ' G' b with | some xs, some ys => decide (min xs.length ys.length = n) | _, _ => false) = true := hf
    split at hf
    · rename_i xs ys q1 q2
      have A := args_two hx hy l s
      obtain ⟨b1, vs, e1, h1, r1⟩ := sqL_at A (j := 0) rfl rfl (isL_any ha) q1
      obtain ⟨b2, ws, e2, h2, r2⟩ := sqL_at A (j := 1) rfl rfl (isL_any hb) q2
      cases e1; cases e2
      exact ⟨vs, ws, h1, h2, by rw [r1.len, r2.len]; exact of_decide_eq_true hf⟩
    · cases hf
theorem prim_zip : PrimI K κ (fun vs H R => ∃ l1 l2 xs ys, vs = [.ref l1, .ref l2] ∧ SqL K H l1 xs ∧ SqL K H l2 ys ∧ R (Itz K l1 l2) H) zipP := by
  intro ι H σ δ G es vs w R a h k
  unfold zipP at h
  split at h
  · rename_i x y
    split at h
    · rename_i hl
      rw [Bool.and_eq_true] at hl
      split at h
      · rename_i xs ys q1 q2
        cases h
        obtain ⟨v, u, rfl⟩ := len2 a.len
        obtain ⟨b1, vs, e1, h1, r1⟩ := sqL_at a (j := 0) rfl rfl hl.1 q1
        obtain ⟨b2, ws, e2, h2, r2⟩ := sqL_at a (j := 1) rfl rfl hl.2 q2
        subst e1; subst e2
        exact ⟨b1, b2, vs, ws, rfl, h1, h2, k _ (walks_zip hl.1 hl.2)⟩
      · cases h
    · cases h
  · cases h
/-- enumerate of a tuple -/
def enuW (xs : List I) : Wk := ⟨xs.length, fun i _ _ => (xs[i]?).map fun x => .tup [.int i, x], fun _ _ => true⟩
def enumerateP : List Ev → De → List M → Option Wk := fun es _ _ => match es with
  | [.v (.im (.tup xs))] => some (enuW xs)
  | _ => none
theorem prim_enum : PrimI K κ (fun vs H R => ∃ a xs, vs = [.ref a] ∧ SqT K H a xs ∧ R (Ite K a) H) enumerateP := by
  intro ι H σ δ G es vs w R a h k
  unfold enumerateP at h
  split at h
  · rename_i xs
    cases h
    obtain ⟨v, rfl⟩ := len1 a.len
    have r := a.im (j := 0) rfl rfl
    cases r with
    | @tup b ys _ h1 r =>
      refine ⟨b, ys, rfl, SqT.of h1, k _ ⟨fun {i d ι' H' σ' δ' G'} hi hd l s => ?_, fun {ι' H' σ' δ' G'} hf l s => ?_⟩⟩
      · have rr := (args_one (x := .im (.tup xs)) rfl l s).im (j := 0) rfl rfl
        have hd : (xs[i]?).map (fun x => I.tup [.int i, x]) = some d := hd
        cases rr with
        | @tup _ zs _ h2 r2 =>
          cases q : xs[i]? with
          | none => rw [q] at hd; cases hd
          | some x =>
            rw [q] at hd; cases hd
            obtain ⟨v, hv, rv⟩ := r2.get q
            refine ⟨⟨zs, v, SqT.of h2, hv⟩, fun x H' y => ?_⟩
            obtain ⟨T, rfl, hT, hy⟩ := y
            have := hy zs v (SqT.of h2) hv
            subst this
            have sm := Same.lay (o := .tup [.int i, v]) hT
            exact ⟨sm, .tup upd_same (.cons (.int _) (.cons (rv.mono (Pre.refl _) (Kp.same sm)) .nil))⟩
      · have rr := (args_one (x := .im (.tup xs)) rfl l s).im (j := 0) rfl rfl
        cases rr with
        | @tup _ zs _ h2 r2 => exact ⟨zs, SqT.of h2, r2.len⟩
  · cases h
def yesF : Mo Bool := rt true
theorem up_yes {Q : Bool → Hp → Prop} (h : UpT K κ yesF σ H Q) : tNoIf σ H Q := by
  obtain ⟨ι, δ, G, b, δ', G', s, eq, k⟩ := h
  cases eq
  exact k _ _ s (Step.refl _ _ _)
end
section
variable {X : Cx} {κ : Str → Addr} {a b c e tg : Expr} {es : List Expr} {fa fb : Mo Ev} {fs : Mo (List Ev)} {fc : Mo Bool} {p pos p0 : Pos} {k k0 : Nat} {elts : List Expr}
theorem i_seq (h : LE X κ a fa) : LI X κ tg a (itF (one fa) seqP) := pi_imp (pi_or (pi_list h) (pi_tup h)) fun _ _ _ => up_seqI
theorem i_rng1 (hm : X.mg "range" = none) (ha : LA X κ [a] fs) (hg : Gl X "range" := by rfl) (hs : starEach [a] X.env = [(false, eval a X.env)] := by rfl) : LI X κ tg (.Call (.Name "range" p) [a] [] pos) (itF fs rng1P) := pi_imp (pi_range1 hg hm ha hs) fun _ _ _ q => up_it prim_rng1 q
theorem i_rng3 (hm : X.mg "range" = none) (ha : LA X κ [a, b, c] fs) (hg : Gl X "range" := by rfl) (hs : starEach [a, b, c] X.env = [(false, eval a X.env), (false, eval b X.env), (false, eval c X.env)] := by rfl) (hs2 : starEach [b, c] X.env = [(false, eval b X.env), (false, eval c X.env)] := by rfl) : LI X κ tg (.Call (.Name "range" p) [a, b, c] [] pos) (itF fs rng3P) := pi_imp (pi_rangeD hg hm ha hs hs2) fun _ _ _ q => up_it prim_rng3 q
theorem i_zip (hm : X.mg "zip" = none) (ha : LA X κ [a, b] fs) (hg : Gl X "zip" := by rfl) (hs : starEach [a, b] X.env = [(false, eval a X.env), (false, eval b X.env)] := by rfl) (hs2 : starEach [b] X.env = [(false, eval b X.env)] := by rfl) : LI X κ (.Tuple elts k0 p0) (.Call (.Name "zip" p) [a, b] [] pos) (itF fs zipP) := pi_imp (pi_zip hg hm ha hs hs2) fun _ _ _ q => up_it prim_zip q
theorem i_enumerate (hm : X.mg "enumerate" = none) (ha : LA X κ [a] fs) (hg : Gl X "enumerate" := by rfl) (hs : starEach [a] X.env = [(false, eval a X.env)] := by rfl) : LI X κ (.Tuple elts k0 p0) (.Call (.Name "enumerate" p) [a] [] pos) (itF fs enumerateP) := pi_imp (pi_enum hg hm ha hs) fun _ _ _ q => up_it prim_enum q
theorem g_nms {is : List Nat} (h : RowOk X es is) (hc : X.calm = true := by rfl) (hl : (assignEach es X.env).length = is.length := by rfl) (hst : (assignEach es X.env).findIdx? (·.1) = none := by rfl) : LG X κ (.Tuple es k0 p) (gNms is) := by
  refine pg_imp (pg_tup (n := is.length) hc h hl hst) fun _ _ _ _ => up_gnms
abbrev LIf (X : Cx) (κ : Str → Addr) (ifs : List Expr) (f : Mo Bool) : Prop := PIfs X ifs (UpT X.K κ f)
theorem i_nil : LIf X κ [] yesF := fun pins s σ H Q I h => pifs_nil pins s σ H Q I (up_yes h)
theorem i_one (h : LT X κ c fc) : LIf X κ [c] fc := pifs_one h
variable {scope : Scope} {x y : Str} {ys : List Str} {ix : List Nat} {ifs : List Expr} {fi : IF} {px py : Pos}
theorem e_comp1 (O : CompOkN X scope [x] ys ix) (hi : LI X κ (.Name x px) a fi) (hf : ∀ z, LIf (compCx X scope ([x] ++ ys) z) κ ifs fc) (he : ∀ z, LE (compCx X scope ([x] ++ ys) z) κ e fb) (hc : X.calm = true := by rfl) (hs : ∀ v, foldedSetIterable a X.env v = pure v := by intro _; rfl) :
    LE X κ (.ListComp e [⟨.Name x px, a, ifs, 0⟩] scope pos) (compF fi ix c1 fc fb) :=
  pe_imp (pe_compG O hc hi (fun z => pg_own O (i := 0) rfl) hf he hs) fun _ _ _ => up_comp (fun _ => tgt_1)
theorem s_comp1 {i : Nat} {spos : Pos} (O : CompOkN X scope [x] ys ix) (hi : LI X κ (.Name x px) a fi) (hf : ∀ z, LIf (compCx X scope ([x] ++ ys) z) κ ifs fc) (he : ∀ z, LE (compCx X scope ([x] ++ ys) z) κ e fb) (hN : X.N.Nodup) (hy : X.N[i]? = some y := by rfl) (hl : X.env.scope.names.lookup y = some .local := by rfl) (hc : X.calm = true := by rfl)
    (hsw : swapsWith (.ListComp e [⟨.Name x px, a, ifs, 0⟩] scope pos) (some (.Name y py)) spos.line X.env = pure true := by rfl) (hs : ∀ v, foldedSetIterable a X.env v = pure v := by intro _; rfl) :
    LS X κ (.Assign [.Name y py] (.ListComp e [⟨.Name x px, a, ifs, 0⟩] scope pos) spos) (asgF (compF fi ix c1 fc fb) (gNm i)) :=
  ps_imp (ps_compG O hc hN hy hl hi (fun z => pg_own O (i := 0) rfl) hf he hsw hs) fun D σ H q => by
    obtain ⟨ι, δ, G, e, δ', G', s, eq, kk⟩ := up_asg q
    exact up_comp (fun _ => tgt_1) ⟨ι, δ, G, e, δ', G', s, eq, fun v ι' H' a => up_gnm (kk v ι' H' a)⟩
theorem pgc2 {x1 x2 : Str} {q1 q2 q0 : Pos} {kk : Nat} (O : CompOkN X scope [x1, x2] ys ix) (hc : X.calm = true) (z : CompAt) : PG (compCx X scope ([x1, x2] ++ ys) z) (.Tuple [.Name x1 q1, .Name x2 q2] kk q0) (gTup X.K 2 (gRow (List.range 2))) :=
  pg_tup (X := compCx X scope ([x1, x2] ++ ys) z) (n := 2) hc (pgs_cons (pg_own O (i := 0) rfl) (pgs_cons (pg_own O (i := 1) rfl) pgs_nil))
theorem s_comp2 {x1 x2 : Str} {q1 q2 q0 : Pos} {kk : Nat} {i : Nat} {spos : Pos} (O : CompOkN X scope [x1, x2] ys ix) (hi : LI X κ (.Tuple [.Name x1 q1, .Name x2 q2] kk q0) a fi) (hf : ∀ z, LIf (compCx X scope ([x1, x2] ++ ys) z) κ ifs fc) (he : ∀ z, LE (compCx X scope ([x1, x2] ++ ys) z) κ e fb) (hN : X.N.Nodup) (hy : X.N[i]? = some y := by rfl) (hl : X.env.scope.names.lookup y = some .local := by rfl) (hc : X.calm = true := by rfl)
    (hsw : swapsWith (.ListComp e [⟨.Tuple [.Name x1 q1, .Name x2 q2] kk q0, a, ifs, 0⟩] scope pos) (some (.Name y py)) spos.line X.env = pure true := by rfl) (hs : ∀ v, foldedSetIterable a X.env v = pure v := by intro _; rfl) :
    LS X κ (.Assign [.Name y py] (.ListComp e [⟨.Tuple [.Name x1 q1, .Name x2 q2] kk q0, a, ifs, 0⟩] scope pos) spos) (asgF (compF fi ix (cN 2) fc fb) (gNm i)) :=
  ps_imp (ps_compG O hc hN hy hl hi (pgc2 O hc) hf he hsw hs) fun D σ H q => by
    obtain ⟨ι, δ, G, e, δ', G', s, eq, kk⟩ := up_asg q
    exact up_comp (fun _ => tgt_n 2) ⟨ι, δ, G, e, δ', G', s, eq, fun v ι' H' a => up_gnm (kk v ι' H' a)⟩
end
section
variable {P : Program} {w : World} {K : PySem.W.Frag} {mg : Str → Option Value} {base : Heap} {κ : Str → Addr}
theorem lift {x qual : Str} {st : Stmt} {f : Addr} {fd : FuncData} {N ps : List Str} {k n r : Nat} {body : SF} (F : Fun K x qual st f fd) (S : FnScope N ps (defScope st)) (hn : ps.length = n) (hN : N.length = n + r)
    (hb : ∀ (cdv : Value) (A : Around) (outer : List Env) (s : Shared) (H : Hp) (E : XK), Room k (A.deeper (envOfC qual (defScope st) s.heap.objs.size f cdv)) → LSs (cxOf CX0 P w K mg base N qual (defScope st) f cdv A outer s H E).nox κ (defBody st) body) :
    FnOk P w K mg base CX0 (k + 1) f fd ps (UpF K κ n (runF n r body)) := by
  refine F.ok S (fun vs H Q E h => by rw [(up_run h).1, hn]) (fun cdv A outer s H vs Q E hr h => ⟨_, hb cdv A outer s H E hr, ?_⟩)
  obtain ⟨l, q⟩ := up_run h
  unfold L2.start
  have e : N.length - vs.length = r := by omega
  rw [e]
  exact q
/-- a function that never ends well -/
theorem none_ok {f : Addr} {fd : FuncData} {ps : List Str} {k n : Nat} : FnOk P w K mg base CX0 k f fd ps (UpF K κ n fun _ _ => none) :=
  ⟨fun vs H Q E h => (by obtain ⟨_, _, _, _, _, _, _, e, _⟩ := h; cases e), fun _ _ _ _ _ _ _ _ _ _ _ _ _ h => (by obtain ⟨_, _, _, _, _, _, _, e, _⟩ := h; cases e)⟩
end
end B
namespace Q
open PySem L2 B
theorem run_rt {n r : Nat} {body : SF} {xs : List Vl} {G G' : List M} {x : Vl} (hl : xs.length = n) (h : body (xs.map some ++ List.replicate r none) G = some (.rt x G')) : runF n r body xs G = some (x, G') := by
  unfold runF; rw [if_pos hl, h]
theorem seq_go {a b : SF} {δ δ1 : De} {G G1 : List M} {r : Option Fl} (h : a δ G = some (.nx δ1 G1)) (k : b δ1 G1 = r) : seqF a b δ G = r := by
  unfold seqF; rw [h]; exact k
theorem seq_rt {a b : SF} {δ : De} {G G1 : List M} {x : Vl} (h : a δ G = some (.rt x G1)) : seqF a b δ G = some (.rt x G1) := by
  unfold seqF; rw [h]
theorem ite_t {c : Mo Bool} {a b : SF} {δ δ1 : De} {G G1 : List M} {r : Option Fl} (h : c δ G = some (true, δ1, G1)) (k : a δ1 G1 = r) : iteF' c a b δ G = r := by
  unfold iteF'; rw [h]; exact k
theorem ite_f {c : Mo Bool} {a b : SF} {δ δ1 : De} {G G1 : List M} {r : Option Fl} (h : c δ G = some (false, δ1, G1)) (k : b δ1 G1 = r) : iteF' c a b δ G = r := by
  unfold iteF'; rw [h]; exact k
theorem asg_go {f : Mo Ev} {g : GF} {δ δ1 δ2 : De} {G G1 G2 : List M} {x : Vl} (h : f δ G = some (.v x, δ1, G1)) (k : g x δ1 G1 = some (δ2, G2)) : asgF f g δ G = some (.nx δ2 G2) := by
  unfold asgF movF bd; rw [h]; show (match mvE (.v x) δ1 G1 with | _ => _) = _
  unfold mvE rt; dsimp only; rw [k]
theorem ret_go {f : Mo Ev} {δ δ1 : De} {G G1 : List M} {x : Vl} (h : f δ G = some (.v x, δ1, G1)) : retF f δ G = some (.rt x G1) := by
  unfold retF movF bd; rw [h]; rfl
theorem bd_go {α β : Type} {m : Mo α} {f : α → Mo β} {δ δ1 : De} {G G1 : List M} {a : α} {r : Option (β × De × List M)} (h : m δ G = some (a, δ1, G1)) (k : f a δ1 G1 = r) : bd m f δ G = r := by
  unfold bd; rw [h]; exact k
theorem or_t {c d : Mo Bool} {δ δ1 : De} {G G1 : List M} (h : c δ G = some (true, δ1, G1)) : orF c d δ G = some (true, δ1, G1) := by
  unfold orF bd; rw [h]; rfl
theorem or_f {c d : Mo Bool} {δ δ1 : De} {G G1 : List M} {r : Option (Bool × De × List M)} (h : c δ G = some (false, δ1, G1)) (k : d δ1 G1 = r) : orF c d δ G = r := by
  unfold orF bd; rw [h]; exact k
theorem and_f {c d : Mo Bool} {δ δ1 : De} {G G1 : List M} (h : c δ G = some (false, δ1, G1)) : andF c d δ G = some (false, δ1, G1) := by
  unfold andF bd; rw [h]; rfl
theorem and_t {c d : Mo Bool} {δ δ1 : De} {G G1 : List M} {r : Option (Bool × De × List M)} (h : c δ G = some (true, δ1, G1)) (k : d δ1 G1 = r) : andF c d δ G = r := by
  unfold andF bd; rw [h]; exact k
theorem not_go {c : Mo Bool} {δ δ1 : De} {G G1 : List M} {b : Bool} (h : c δ G = some (b, δ1, G1)) : notF c δ G = some (!b, δ1, G1) := by
  unfold notF bd; rw [h]; rfl
theorem tst_go {f : Mo Ev} {δ δ1 : De} {G G1 : List M} {b : Bool} (h : f δ G = some (.v (.im (.bl b)), δ1, G1)) : tstF f δ G = some (b, δ1, G1) := by
  unfold tstF bd; rw [h]; rfl
theorem op_go {p : List Ev → Mo Ev} {f g : Mo Ev} {δ δ1 δ2 : De} {G G1 G2 : List M} {x y : Ev} {r : Option (Ev × De × List M)} (h : f δ G = some (x, δ1, G1)) (h2 : g δ1 G1 = some (y, δ2, G2)) (k : p [x, y] δ2 G2 = r) : opF p f g δ G = r := by
  unfold opF bd; rw [h]; dsimp only; rw [h2]; exact k
theorem un_go {p : List Ev → Mo Ev} {f : Mo Ev} {δ δ1 : De} {G G1 : List M} {x : Ev} {r : Option (Ev × De × List M)} (h : f δ G = some (x, δ1, G1)) (k : p [x] δ1 G1 = r) : unF p f δ G = r := by
  unfold unF bd; rw [h]; exact k
theorem call_go {n : Nat} {fn : FF} {es : List Ev} {xs : List Vl} {δ : De} {G G' : List M} {x : Vl} (h : vlA es = some xs) (hl : xs.length = n) (k : fn xs G = some (x, G')) : callP n fn es δ G = some (.v x, δ, G') := by
  unfold callP; rw [h]; dsimp only; rw [if_pos hl, k]
theorem comp_go {fi : IF} {ix : List Nat} {c : I → Option (List I)} {tt : Mo Bool} {te : Mo Ev} {δ δ0 δ1 : De} {G G0 G1 G2 : List M} {w : Wk} {es : List Ev} {ds : List I} (hb : boxS ix δ G = some ((), δ0, G0)) (hi : fi δ0 G0 = some (w, es, δ1, G1)) (hn : w.n ≤ 100000) (hc : cTurns w c tt te (inD ix δ1) 0 w.n [] δ1 G1 = some (ds, G2)) : compF fi ix c tt te δ G = some (.v (.ow (.lst ds)), δ1, G2) := by
  unfold compF; rw [hb]; dsimp only; rw [hi]; dsimp only; rw [if_pos hn, hc]
theorem for_go {f : IF} {g : GF} {b : SF} {δ δ1 : De} {G G1 : List M} {w : Wk} {es : List Ev} {r : Option Fl} (hi : f δ G = some (w, es, δ1, G1)) (h : fTurns w g b 0 w.n δ1 G1 = r) : forF f g b δ G = r := by
  unfold forF; rw [hi]; exact h
theorem it_go {fa : Mo (List Ev)} {p : List Ev → De → List M → Option Wk} {δ δ1 : De} {G G1 : List M} {es : List Ev} {w : Wk} (h : fa δ G = some (es, δ1, G1)) (k : p es δ1 G1 = some w) : itF fa p δ G = some (w, es, δ1, G1) := by
  unfold itF; rw [h]; dsimp only; rw [k]; rfl
def upW (n : Nat) : Wk := ⟨n, fun i _ _ => some (.int i), fun _ _ => true⟩
theorem upW_n (n : Nat) : (upW n).n = n := rfl
theorem rng_go {n : Nat} {j : Int} {δ : De} {G : List M} (h : j = n) (hn : n ≤ 1000000) : rng1P [.v (.im (.int j))] δ G = some (upW n) := by
  subst h
  unfold rng1P
  dsimp only
  rw [if_pos (by omega)]
  rfl
theorem rng_it {n : Nat} {fa : Mo (List Ev)} {j : Int} {δ δ1 : De} {G G1 : List M} (h : fa δ G = some ([.v (.im (.int j))], δ1, G1)) (e : j = n) (hn : n ≤ 1000000) : itF fa rng1P δ G = some (upW n, [.v (.im (.int j))], δ1, G1) := it_go h (rng_go e hn)
end Q
namespace Q
open PySem L2 B
noncomputable section
def F__law_deal_w1b : SF :=
  (asgF (opF modP (opF addP (opF mulP (varF 3) (conF (.int 48271))) (opF modP (varF 4) (conF (.int 2147483629)))) (conF (.int 2147483647))) (gNm 3))
def F__law_deal : FF := runF 2 3
  (seqF (asgF (compF (itF (one (sliF (varF 0) (somePt (varF 1)) (somePt (conF (.int 63))))) seqP) [] c1 yesF (bd (consF (varF 0) (consF (opF subP (conF (.int 0)) (varF 0)) nilF)) max2P)) (gNm 2))
  (seqF (asgF (opF addP (conF (.int 7919)) (varF 1)) (gNm 3))
  (seqF (forF (itF (one (boxF (varF 2))) seqP) (gNm 4)
  F__law_deal_w1b)
  (retF (dicF (pcons (conF (.str "seed")) (varF 3) (pcons (conF (.str "number")) (conF (.int 0)) (pcons (conF (.str "left")) (boxF (unF lrevP (compF (itF (one (boxF (varF 2))) seqP) [] c1 (tstF (opF geP (varF 0) (opF powP (conF (.int 10)) (conF (.int 18))))) (varF 0)))) pnil))))))))
def F_House_init : FF := runF 1 0
  (seqF (fldS "House" "given" (varF 0) (boxF (bd nilF lstP)))
  (fldS "House" "seals" (varF 0) (boxF newT)))
def F__law_draw_w1c : Mo Bool := (andF (tstF (opF eqP (opF ixP (varF 0) (conF (.str "number"))) (conF (.int 0)))) (tstF (opF gtP (bd (consF (opF ixP (varF 0) (conF (.str "left"))) nilF) lenP) (conF (.int 0)))))
def F__law_draw_w1b : SF :=
  (putF' (varF 0) (conF (.str "number")) (unF pop0P (opF ixP (varF 0) (conF (.str "left")))))
def F__law_draw : FF := runF 2 3
  (seqF (whF F__law_draw_w1c
  F__law_draw_w1b)
  (seqF (asgF (opF ixP (varF 0) (conF (.str "number"))) (gNm 2))
  (seqF (iteF' (tstF (opF gtP (varF 2) (conF (.int 0))))
  (seqF (putF' (varF 0) (conF (.str "number")) (opF fdivP (varF 2) (varF 1)))
  (retF (opF modP (varF 2) (varF 1))))
  skipF)
  (seqF (asgF (opF modP (opF addP (opF mulP (opF ixP (varF 0) (conF (.str "seed"))) (conF (.int 48271))) (conF (.int 7919))) (conF (.int 2147483647))) (gNm 3))
  (seqF (putF' (varF 0) (conF (.str "seed")) (opF modP (opF addP (opF mulP (varF 3) (conF (.int 40692))) (conF (.int 104729))) (conF (.int 2147483399))))
  (seqF (asgF (opF modP (opF mulP (opF ixP (varF 0) (conF (.str "seed"))) (opF ixP (varF 0) (conF (.str "seed")))) (conF (.int 2147483563))) (gNm 4))
  (retF (opF modP (opF addP (opF mulP (opF modP (opF mulP (varF 3) (varF 3)) (conF (.int 2147483629))) (conF (.int 2147483563))) (varF 4)) (varF 1)))))))))
def F__law_word : FF := runF 1 0
  (retF (opF ixP (bd (consF (bd (consF (varF 0) (consF (conF (.int 3)) nilF)) (callP 2 F__law_draw)) (consF (opF subP (opF subP (conF (.int 4294967296)) (conF (.int 1))) (bd (consF (varF 0) (consF (conF (.int 3)) nilF)) (callP 2 F__law_draw))) (consF (bd (consF (varF 0) (consF (conF (.int 4294967296)) nilF)) (callP 2 F__law_draw)) nilF))) lstP) (bd (consF (varF 0) (consF (conF (.int 3)) nilF)) (callP 2 F__law_draw))))
def F__law_row : FF := runF 2 3
  (seqF (asgF (compF (itF (consF (opF addP (conF (.int 1)) (bd (consF (varF 0) (consF (conF (.int 4)) nilF)) (callP 2 F__law_draw))) nilF) rng1P) [0] c1 yesF (bd (consF (varF 1) nilF) (callP 1 F__law_word))) (gNm 2))
  (seqF (asgF (compF (itF (consF (opF shlP (conF (.int 1)) (varF 1)) nilF) rng1P) [2, 0] c1 yesF (opF ixP (varF 1) (bd (consF (varF 2) (consF (bd (consF (varF 1) nilF) lenP) nilF)) (callP 2 F__law_draw)))) (gNm 3))
  (seqF (asgF (bd (consF (varF 0) (consF (conF (.int 4)) nilF)) (callP 2 F__law_draw)) (gNm 4))
  (seqF (iteF' (andF (tstF (opF gtP (varF 1) (conF (.int 0)))) (tstF (opF eqP (varF 4) (conF (.int 0)))))
  (asgF (opF mulP (sliF (varF 3) noPt (somePt (opF fdivP (opF shlP (conF (.int 1)) (varF 1)) (conF (.int 2))))) (conF (.int 2))) (gNm 3))
  skipF)
  (seqF (iteF' (tstF (opF eqP (varF 4) (conF (.int 1))))
  (asgF (compF (itF (consF (opF shlP (conF (.int 1)) (varF 1)) nilF) rng1P) [2] c1 yesF (opF modP (opF addP (opF ixP (varF 1) (conF (.int 0))) (opF mulP (conF (.int 5)) (varF 0))) (conF (.int 4294967296)))) (gNm 3))
  skipF)
  (retF (bd (consF (varF 3) nilF) tupleP)))))))
def F_House_seal_for : FF := runF 2 0
  (seqF (iteF' (tstF (opF ninP (varF 1) (unF (fldP "House" "seals") (varF 0))))
  (seqF (dropF (bmF append1P (unF (fldP "House" "given") (varF 0)) (consF (varF 1) nilF)))
  (putF' (unF (fldP "House" "seals") (varF 0)) (varF 1) (bd (consF (unF (fldP "House" "given") (varF 0)) nilF) lenP)))
  skipF)
  (retF (opF ixP (unF (fldP "House" "seals") (varF 0)) (varF 1))))
def F_House_leaf : FF := runF 2 0
  (retF (methF "House" "seal_for" 2 F_House_seal_for (varF 0) (consF (bd (consF (conF (.str "leaf")) (consF (varF 1) nilF)) tupP) nilF)))
def F_House_pair : FF := runF 3 0
  (retF (methF "House" "seal_for" 2 F_House_seal_for (varF 0) (consF (bd (consF (conF (.str "pair")) (consF (varF 1) (consF (varF 2) nilF))) tupP) nilF)))
def F_seal_of_w1c : Mo Bool := (tstF (opF gtP (bd (consF (varF 2) nilF) lenP) (conF (.int 1))))
def F_seal_of_w1b : SF :=
  (asgF (compF (itF (consF (boxF (stpF (varF 2) noPt noPt (conF (.int 2)))) (consF (boxF (stpF (varF 2) (somePt (conF (.int 1))) noPt (conF (.int 2)))) nilF)) zipP) [0] (cN 2) yesF (methF "House" "pair" 3 F_House_pair (varF 2) (consF (varF 0) (consF (varF 1) nilF)))) (gNm 2))
def F_seal_of : FF := runF 2 1
  (seqF (asgF (compF (itF (one (varF 1)) seqP) [0] c1 yesF (methF "House" "leaf" 2 F_House_leaf (varF 1) (consF (varF 0) nilF))) (gNm 2))
  (seqF (whF F_seal_of_w1c
  F_seal_of_w1b)
  (retF (opF ixP (varF 2) (conF (.int 0))))))
def F_House_many : FF := runF 1 0
  (retF (bd (consF (unF (fldP "House" "given") (varF 0)) nilF) lenP))
def F_House_opened : FF := runF 2 0
  (seqF (iteF' (orF (tstF (opF ltP (varF 1) (conF (.int 1)))) (tstF (opF gtP (varF 1) (bd (consF (unF (fldP "House" "given") (varF 0)) nilF) lenP))))
  (retF (conF .non))
  skipF)
  (retF (opF ixP (unF (fldP "House" "given") (varF 0)) (opF subP (varF 1) (conF (.int 1))))))
def F_path_in_w1b : SF :=
  (seqF (asgF (methF "House" "opened" 2 F_House_opened (varF 0) (consF (varF 1) nilF)) (gNm 6))
  (seqF (iteF' (orF (tstF (unF (isQ true) (varF 6))) (tstF (opF eqP (opF ixP (varF 6) (conF (.int 0))) (conF (.str "leaf")))))
  (retF (conF .non))
  skipF)
  (seqF (asgF (opF andP (opF shrP (varF 3) (varF 5)) (conF (.int 1))) (gNm 7))
  (seqF (asgF (opF ixP (varF 6) (opF addP (conF (.int 1)) (varF 7))) (gNm 1))
  (dropF (bmF append1P (varF 4) (consF (opF ixP (varF 6) (opF subP (conF (.int 2)) (varF 7))) nilF)))))))
def F_path_in : FF := runF 4 4
  (seqF (asgF (bd nilF lstP) (gNm 4))
  (seqF (forF (itF (consF (opF subP (varF 2) (conF (.int 1))) (consF (unF negP (conF (.int 1))) (consF (unF negP (conF (.int 1))) nilF))) rng3P) (gNm 5)
  F_path_in_w1b)
  (seqF (asgF (methF "House" "opened" 2 F_House_opened (varF 0) (consF (varF 1) nilF)) (gNm 6))
  (seqF (iteF' (orF (tstF (unF (isQ true) (varF 6))) (tstF (opF eqP (opF ixP (varF 6) (conF (.int 0))) (conF (.str "pair")))))
  (retF (conF .non))
  skipF)
  (retF (bd (consF (opF ixP (varF 6) (conF (.int 1))) (consF (bd (consF (unF revP (varF 4)) nilF) tupleP) nilF)) tupP))))))
def F_word_in : FF := runF 4 1
  (seqF (asgF (bd (consF (varF 0) (consF (varF 1) (consF (varF 2) (consF (varF 3) nilF)))) (callP 4 F_path_in)) (gNm 4))
  (retF (ifE (tstF (unF (isQ true) (varF 4))) (conF .non) (opF ixP (varF 4) (conF (.int 0))))))
def F__law_seal : Nat → FF
  | 0 => fun _ _ => none
  | n + 1 => runF 2 2
      (seqF (iteF' (tstF (opF eqP (bd (consF (varF 1) nilF) lenP) (conF (.int 1))))
      (retF (methF "House" "leaf" 2 F_House_leaf (varF 0) (consF (opF ixP (varF 1) (conF (.int 0))) nilF)))
      skipF)
      (seqF (asgF (opF fdivP (bd (consF (varF 1) nilF) lenP) (conF (.int 2))) (gNm 2))
      (seqF (asgF (bd (consF (varF 0) (consF (sliF (varF 1) noPt (somePt (varF 2))) nilF)) (callP 2 (F__law_seal n))) (gNm 3))
      (retF (methF "House" "pair" 3 F_House_pair (varF 0) (consF (varF 3) (consF (bd (consF (varF 0) (consF (sliF (varF 1) (somePt (varF 2)) noPt) nilF)) (callP 2 (F__law_seal n))) nilF)))))))
def F__law_siblings_w1b : SF :=
  (seqF (asgF (opF shlP (conF (.int 1)) (varF 5)) (gNm 6))
  (seqF (asgF (opF mulP (opF xorP (opF fdivP (varF 3) (varF 6)) (conF (.int 1))) (varF 6)) (gNm 7))
  (dropF (bmF append1P (varF 4) (consF (bd (consF (varF 0) (consF (sliF (varF 1) (somePt (varF 7)) (somePt (opF addP (varF 7) (varF 6)))) nilF)) (callP 2 (F__law_seal 8))) nilF)))))
def F__law_siblings : FF := runF 4 4
  (seqF (asgF (bd nilF lstP) (gNm 4))
  (seqF (forF (itF (consF (varF 2) nilF) rng1P) (gNm 5)
  F__law_siblings_w1b)
  (retF (bd (consF (varF 4) nilF) tupleP))))
def F__law_uneven : Nat → FF
  | 0 => fun _ _ => none
  | n + 1 => runF 3 3
      (seqF (iteF' (orF (tstF (opF eqP (varF 2) (conF (.int 0)))) (tstF (opF eqP (bd (consF (varF 0) (consF (conF (.int 3)) nilF)) (callP 2 F__law_draw)) (conF (.int 0)))))
      (seqF (asgF (bd (consF (varF 0) nilF) (callP 1 F__law_word)) (gNm 3))
      (retF (bd (consF (conF (.str "leaf")) (consF (methF "House" "leaf" 2 F_House_leaf (varF 1) (consF (varF 3) nilF)) (consF (varF 3) nilF))) tupP)))
      skipF)
      (seqF (asgF (bd (consF (varF 0) (consF (varF 1) (consF (opF subP (varF 2) (conF (.int 1))) nilF))) (callP 3 (F__law_uneven n))) (gNm 4))
      (seqF (asgF (bd (consF (varF 0) (consF (varF 1) (consF (opF subP (varF 2) (conF (.int 1))) nilF))) (callP 3 (F__law_uneven n))) (gNm 5))
      (retF (bd (consF (conF (.str "pair")) (consF (methF "House" "pair" 3 F_House_pair (varF 1) (consF (opF ixP (varF 4) (conF (.int 1))) (consF (opF ixP (varF 5) (conF (.int 1))) nilF))) (consF (varF 4) (consF (varF 5) nilF)))) tupP)))))
def F__law_way_w1b : SF :=
  (seqF (iteF' (tstF (opF neP (opF ixP (varF 0) (conF (.int 0))) (conF (.str "pair"))))
  (retF (conF .non))
  skipF)
  (seqF (asgF (opF modP (opF shrP (varF 2) (varF 4)) (conF (.int 2))) (gNm 5))
  (seqF (asgF (opF addP (bd (consF (opF ixP (opF ixP (varF 0) (opF subP (conF (.int 3)) (varF 5))) (conF (.int 1))) nilF) tupP) (varF 3)) (gNm 3))
  (asgF (opF ixP (varF 0) (opF addP (conF (.int 2)) (varF 5))) (gNm 0)))))
def F__law_way : FF := runF 3 3
  (seqF (asgF (bd nilF tupP) (gNm 3))
  (seqF (forF (itF (consF (opF subP (varF 1) (conF (.int 1))) (consF (unF negP (conF (.int 1))) (consF (unF negP (conF (.int 1))) nilF))) rng3P) (gNm 4)
  F__law_way_w1b)
  (seqF (iteF' (tstF (opF neP (opF ixP (varF 0) (conF (.int 0))) (conF (.str "leaf"))))
  (retF (conF .non))
  skipF)
  (retF (bd (consF (opF ixP (varF 0) (conF (.int 2))) (consF (varF 3) nilF)) tupP)))))
def F_pair_above : FF := runF 4 0
  (retF (ifE (tstF (opF eqP (opF andP (varF 1) (conF (.int 1))) (conF (.int 0)))) (methF "House" "pair" 3 F_House_pair (varF 0) (consF (varF 2) (consF (varF 3) nilF))) (methF "House" "pair" 3 F_House_pair (varF 0) (consF (varF 3) (consF (varF 2) nilF)))))
def F_put_in_w1b : SF :=
  (asgF (bd (consF (varF 0) (consF (opF shrP (varF 3) (varF 7)) (consF (varF 6) (consF (varF 8) nilF)))) (callP 4 F_pair_above)) (gNm 6))
def F_put_in : FF := runF 5 4
  (seqF (asgF (bd (consF (varF 0) (consF (varF 1) (consF (varF 2) (consF (varF 3) nilF)))) (callP 4 F_path_in)) (gNm 5))
  (seqF (iteF' (tstF (unF (isQ true) (varF 5)))
  (retF (conF .non))
  skipF)
  (seqF (asgF (methF "House" "leaf" 2 F_House_leaf (varF 0) (consF (varF 4) nilF)) (gNm 6))
  (seqF (forF (itF (consF (opF ixP (varF 5) (conF (.int 1))) nilF) enumerateP) (gNms [7, 8])
  F_put_in_w1b)
  (retF (varF 6))))))
def F__law_uneven_right_w1b : SF :=
  (seqF (asgF (bd (consF (varF 0) (consF (conF (.int 7)) nilF)) (callP 2 F__law_draw)) (gNm 4))
  (seqF (asgF (bd (consF (varF 0) (consF (opF shlP (conF (.int 1)) (varF 4)) nilF)) (callP 2 F__law_draw)) (gNm 5))
  (seqF (asgF (bd (consF (varF 2) (consF (varF 4) (consF (varF 5) nilF))) (callP 3 F__law_way)) (gNm 6))
  (seqF (iteF' (orF (tstF (opF neP (bd (consF (varF 1) (consF (opF ixP (varF 2) (conF (.int 1))) (consF (varF 4) (consF (varF 5) nilF)))) (callP 4 F_path_in)) (varF 6))) (tstF (opF neP (bd (consF (varF 1) (consF (opF ixP (varF 2) (conF (.int 1))) (consF (varF 4) (consF (varF 5) nilF)))) (callP 4 F_word_in)) (opF ixP (orV (varF 6) (bd (consF (conF .non) nilF) lstP)) (conF (.int 0))))))
  (retF (conF (.bl false)))
  skipF)
  (iteF' (tstF (opF neP (unF (isQ true) (bd (consF (varF 1) (consF (opF ixP (varF 2) (conF (.int 1))) (consF (varF 4) (consF (varF 5) (consF (conF (.int 5)) nilF))))) (callP 5 F_put_in))) (unF (isQ true) (varF 6))))
  (retF (conF (.bl false)))
  skipF)))))
def F__law_uneven_right : FF := runF 2 5
  (seqF (asgF (bd (consF (conF (.str "pair")) (consF (conF (.int 0)) (consF (bd (consF (varF 0) (consF (varF 1) (consF (conF (.int 3)) nilF))) (callP 3 (F__law_uneven 8))) (consF (bd (consF (varF 0) (consF (varF 1) (consF (conF (.int 5)) nilF))) (callP 3 (F__law_uneven 8))) nilF)))) tupP) (gNm 2))
  (seqF (asgF (opF addP (bd (consF (conF (.str "pair")) (consF (methF "House" "pair" 3 F_House_pair (varF 1) (consF (opF ixP (opF ixP (varF 2) (conF (.int 2))) (conF (.int 1))) (consF (opF ixP (opF ixP (varF 2) (conF (.int 3))) (conF (.int 1))) nilF))) nilF)) tupP) (sliF (varF 2) (somePt (conF (.int 2))) noPt)) (gNm 2))
  (seqF (forF (itF (consF (conF (.int 12)) nilF) rng1P) (gNm 3)
  F__law_uneven_right_w1b)
  (retF (conF (.bl true))))))
def F__law_none : FF := runF 4 0
  (seqF (iteF' (orF (tstF (unF (isQ false) (bd (consF (varF 0) (consF (varF 1) (consF (varF 2) (consF (varF 3) nilF)))) (callP 4 F_word_in)))) (tstF (unF (isQ false) (bd (consF (varF 0) (consF (varF 1) (consF (varF 2) (consF (varF 3) nilF)))) (callP 4 F_path_in)))))
  (retF (conF (.bl false)))
  skipF)
  (retF (unF (isQ true) (bd (consF (varF 0) (consF (varF 1) (consF (varF 2) (consF (varF 3) (consF (conF (.int 5)) nilF))))) (callP 5 F_put_in)))))
def F_law_w1b : SF :=
  (seqF (asgF (opF ixP (bd (consF (conF (.int 0)) (consF (unF negP (conF (.int 1))) (consF (opF addP (opF powP (conF (.int 10)) (conF (.int 12))) (bd (consF (boxF (varF 1)) (consF (opF powP (conF (.int 10)) (conF (.int 9))) nilF)) (callP 2 F__law_draw))) (consF (opF subP (conF (.int 0)) (bd (consF (boxF (varF 1)) (consF (opF powP (conF (.int 10)) (conF (.int 9))) nilF)) (callP 2 F__law_draw))) nilF)))) lstP) (bd (consF (boxF (varF 1)) (consF (conF (.int 4)) nilF)) (callP 2 F__law_draw))) (gNm 10))
  (seqF (asgF (bd (consF (boxF (varF 1)) (consF (conF (.int 6)) nilF)) (callP 2 F__law_draw)) (gNm 11))
  (seqF (iteF' (orF (notF (bd (bd (consF (varF 2) (consF (varF 10) (consF (varF 11) (consF (bd (consF (boxF (varF 1)) (consF (opF shlP (conF (.int 1)) (varF 11)) nilF)) (callP 2 F__law_draw)) nilF)))) (callP 4 F__law_none)) truE)) (tstF (unF (isQ false) (methF "House" "opened" 2 F_House_opened (varF 2) (consF (varF 10) nilF)))))
  (retF (conF (.bl false)))
  skipF)
  (seqF (asgF (bd (consF (conF (.int 6)) (consF (opF ixP (bd (consF (opF addP (varF 3) (conF (.int 1))) (consF (bd (consF (conF (.int 0)) (consF (opF subP (varF 3) (conF (.int 1))) nilF)) max2P) (consF (opF addP (varF 3) (conF (.int 2))) nilF))) lstP) (bd (consF (boxF (varF 1)) (consF (conF (.int 3)) nilF)) (callP 2 F__law_draw))) nilF)) min2P) (gNm 11))
  (iteF' (andF (tstF (opF neP (varF 11) (varF 3))) (notF (bd (bd (consF (varF 2) (consF (varF 5) (consF (varF 11) (consF (bd (consF (boxF (varF 1)) (consF (opF shlP (conF (.int 1)) (varF 11)) nilF)) (callP 2 F__law_draw)) nilF)))) (callP 4 F__law_none)) truE)))
  (retF (conF (.bl false)))
  skipF)))))
def F_law_w2b : SF :=
  (seqF (asgF (bd (consF (opF ixP (varF 4) (varF 7)) (consF (bd (consF (varF 2) (consF (varF 4) (consF (varF 3) (consF (varF 7) nilF)))) (callP 4 F__law_siblings)) nilF)) tupP) (gNm 8))
  (iteF' (orF (tstF (opF neP (bd (consF (varF 2) (consF (varF 5) (consF (varF 3) (consF (varF 7) nilF)))) (callP 4 F_word_in)) (opF ixP (varF 4) (varF 7)))) (tstF (opF neP (bd (consF (varF 2) (consF (varF 5) (consF (varF 3) (consF (varF 7) nilF)))) (callP 4 F_path_in)) (varF 8))))
  (retF (conF (.bl false)))
  skipF))
def F_law : FF := runF 1 11
  (seqF (asgF (bd (consF (varF 0) (consF (conF (.int 0)) nilF)) (callP 2 F__law_deal)) (gNm 1))
  (seqF (asgF (bd nilF (makeP "House" 1 F_House_init)) (gNm 2))
  (seqF (iteF' (tstF (opF eqP (bd (consF (boxF (varF 1)) (consF (conF (.int 2)) nilF)) (callP 2 F__law_draw)) (conF (.int 0))))
  (dropF (bd (consF (varF 2) (consF (bd (consF (boxF (varF 1)) (consF (bd (consF (boxF (varF 1)) (consF (conF (.int 5)) nilF)) (callP 2 F__law_draw)) nilF)) (callP 2 F__law_row)) nilF)) (callP 2 F_seal_of)))
  skipF)
  (seqF (asgF (opF ixP (bd (consF (conF (.int 0)) (consF (conF (.int 1)) (consF (conF (.int 2)) (consF (conF (.int 3)) (consF (conF (.int 5)) (consF (conF (.int 6)) nilF)))))) lstP) (bd (consF (boxF (varF 1)) (consF (conF (.int 6)) nilF)) (callP 2 F__law_draw))) (gNm 3))
  (seqF (asgF (bd (consF (boxF (varF 1)) (consF (varF 3) nilF)) (callP 2 F__law_row)) (gNm 4))
  (seqF (asgF (bd (consF (varF 2) (consF (varF 4) nilF)) (callP 2 F_seal_of)) (gNm 5))
  (seqF (asgF (methF "House" "many" 1 F_House_many (varF 2) nilF) (gNm 6))
  (seqF (forF (itF (consF (opF shlP (conF (.int 1)) (varF 3)) nilF) rng1P) (gNm 7)
  F_law_w2b)
  (seqF (iteF' (orF (tstF (opF neP (methF "House" "many" 1 F_House_many (varF 2) nilF) (varF 6))) (notF (bd (bd (consF (boxF (varF 1)) (consF (varF 2) nilF)) (callP 2 F__law_uneven_right)) truE)))
  (retF (conF (.bl false)))
  skipF)
  (seqF (forF (itF (consF (conF (.int 6)) nilF) rng1P) (gNm 9)
  F_law_w1b)
  (retF (opF eqP (bd (consF (varF 2) (consF (varF 5) (consF (varF 3) (consF (conF (.int 0)) nilF)))) (callP 4 F_word_in)) (opF ixP (varF 4) (conF (.int 0)))))))))))))))
end
end Q
namespace Q
open PySem L2 B
theorem s_sn : ¬ (("seed" : Str) = "number") := by decide +kernel
theorem s_sl : ¬ (("seed" : Str) = "left") := by decide +kernel
theorem s_nl : ¬ (("number" : Str) = "left") := by decide +kernel
theorem s_ns : ¬ (("number" : Str) = "seed") := by decide +kernel
theorem s_ls : ¬ (("left" : Str) = "seed") := by decide +kernel
theorem s_ln : ¬ (("left" : Str) = "number") := by decide +kernel
theorem b_sn : ((Sum.inr ("seed" : Str) : Key) = Sum.inr ("number" : Str)) = False := by simp; decide +kernel
theorem b_sl : ((Sum.inr ("seed" : Str) : Key) = Sum.inr ("left" : Str)) = False := by simp; decide +kernel
theorem b_nl : ((Sum.inr ("number" : Str) : Key) = Sum.inr ("left" : Str)) = False := by simp; decide +kernel
def dealI (a n : Int) (l : Nat) : List (Key × I) := [(.inr "seed", .int a), (.inr "number", .int n), (.inr "left", .ref l)]
theorem deal_s (a n : Int) (l : Nat) : valI (dealI a n l) (Sum.inr ("seed" : Str)) = some (.int a) := by simp [dealI, valI]
theorem deal_n (a n : Int) (l : Nat) : valI (dealI a n l) (Sum.inr ("number" : Str)) = some (.int n) := by simp only [dealI, valI, b_sn, if_false, if_true]
theorem deal_l (a n : Int) (l : Nat) : valI (dealI a n l) (Sum.inr ("left" : Str)) = some (.ref l) := by simp only [dealI, valI, b_sl, b_nl, if_false, if_true]
theorem put_n (a n m : Int) (l : Nat) : putD (dealI a n l) (Sum.inr ("number" : Str)) (.int m) = dealI a m l := by simp [putD, hasI, dealI, s_sn, s_ln, s_nl, s_ns]
theorem put_s (a n m : Int) (l : Nat) : putD (dealI a n l) (Sum.inr ("seed" : Str)) (.int m) = dealI m n l := by simp [putD, hasI, dealI, s_ns, s_ls]
theorem deal_len (a n : Int) (l : Nat) : (dealI a n l).length < 1000000 := by show 3 < 1000000; decide
structure DC (G : List M) (d l : Nat) (a n : Int) (ms : List Int) : Prop where
  dc : G[d]? = some (.dic (dealI a n l))
  lc : G[l]? = some (.lst (ms.map I.int))
  ne : d ≠ l
  a0 : 0 ≤ a
  a1 : a < 2147483647
  n0 : 0 ≤ n
  m0 : ∀ m ∈ ms, 0 ≤ m
def DG (G : List M) (d l : Nat) : Prop := ∃ a n ms, DC G d l a n ms
/-- but these two all is as it was -/
structure Oth (d l : Nat) (G G' : List M) : Prop where
  len : G'.length = G.length
  at_ : ∀ k, k ≠ d → k ≠ l → G'[k]? = G[k]?
theorem Oth.refl (d l : Nat) (G : List M) : Oth d l G G := ⟨rfl, fun _ _ _ => rfl⟩
theorem Oth.trans {d l : Nat} {G G1 G2 : List M} (x : Oth d l G G1) (y : Oth d l G1 G2) : Oth d l G G2 := ⟨y.len.trans x.len, fun k h1 h2 => (y.at_ k h1 h2).trans (x.at_ k h1 h2)⟩
theorem Oth.setD {d l : Nat} {G : List M} {m : M} : Oth d l G (G.set d m) := ⟨List.length_set, fun k h1 _ => List.getElem?_set_ne (Ne.symm h1)⟩
theorem Oth.setL {d l : Nat} {G : List M} {m : M} : Oth d l G (G.set l m) := ⟨List.length_set, fun k _ h1 => List.getElem?_set_ne (Ne.symm h1)⟩
theorem set_at {G : List M} {k : Nat} {m m' : M} (h : G[k]? = some m') : (G.set k m)[k]? = some m := List.getElem?_set_self (List.getElem?_eq_some_iff.mp h).1
def drD (d : Nat) (many : Int) : De := [some (.im (.ref d)), some (.im (.int many)), none, none, none]
theorem draw_c {G : List M} {d l : Nat} {a n : Int} {ms : List Int} {many : Int} (D : DC G d l a n ms) : F__law_draw_w1c (drD d many) G = some (decide (n = 0) && decide (0 < ms.length), drD d many, G) := by
  by_cases h : n = 0
  · by_cases h2 : 0 < ms.length
    · simp [F__law_draw_w1c, drD, runF,seqF,iteF',orF,andF,notF,tstF,opF,unF,bd,varF,conF,rt,consF,nilF,fldP,lenP,sq,pk,pkS,blE,ltP,leP,gtP,geP,intP,retF,retN,movF,boxF,bxE,mvE,skipF,dropF,asgF,gNm,ixP,orP,ixS,ixD,getD',subP,addP,addI,mulP,mulI,fdivP,modP,powP,shlP,shrP,negP,callP,vlA,methF,makeP,tupP,lstP,imA,imE,bmF,isLst,append1P,pop0P,fldS,putF',putQ,keyI,keyT,keysI,valI,ifE,isQ,slOk,truE,eqP,neP,eqE,mixI,eqD,flI,eqFl,tpl,newK,newT,one, D.dc, D.lc, deal_n, deal_l, h, h2]
    · simp [F__law_draw_w1c, drD, runF,seqF,iteF',orF,andF,notF,tstF,opF,unF,bd,varF,conF,rt,consF,nilF,fldP,lenP,sq,pk,pkS,blE,ltP,leP,gtP,geP,intP,retF,retN,movF,boxF,bxE,mvE,skipF,dropF,asgF,gNm,ixP,orP,ixS,ixD,getD',subP,addP,addI,mulP,mulI,fdivP,modP,powP,shlP,shrP,negP,callP,vlA,methF,makeP,tupP,lstP,imA,imE,bmF,isLst,append1P,pop0P,fldS,putF',putQ,keyI,keyT,keysI,valI,ifE,isQ,slOk,truE,eqP,neP,eqE,mixI,eqD,flI,eqFl,tpl,newK,newT,one, D.dc, D.lc, deal_n, deal_l, h, h2]
  · simp [F__law_draw_w1c, drD, runF,seqF,iteF',orF,andF,notF,tstF,opF,unF,bd,varF,conF,rt,consF,nilF,fldP,lenP,sq,pk,pkS,blE,ltP,leP,gtP,geP,intP,retF,retN,movF,boxF,bxE,mvE,skipF,dropF,asgF,gNm,ixP,orP,ixS,ixD,getD',subP,addP,addI,mulP,mulI,fdivP,modP,powP,shlP,shrP,negP,callP,vlA,methF,makeP,tupP,lstP,imA,imE,bmF,isLst,append1P,pop0P,fldS,putF',putQ,keyI,keyT,keysI,valI,ifE,isQ,slOk,truE,eqP,neP,eqE,mixI,eqD,flI,eqFl,tpl,newK,newT,one, D.dc, D.lc, deal_n, deal_l, h]
theorem draw_b {G : List M} {d l : Nat} {a n : Int} {ms : List Int} {many y : Int} (D : DC G d l a n ms) (hy : ms[ms.length - 1]? = some y) : ∃ G', F__law_draw_w1b (drD d many) G = some (.nx (drD d many) G') ∧ DC G' d l a y ms.dropLast ∧ Oth d l G G' := by
  have h1 : (G.set l (.lst (ms.map I.int).dropLast))[d]? = some (.dic (dealI a n l)) := by rw [List.getElem?_set_ne D.ne.symm]; exact D.dc
  refine ⟨(G.set l (.lst (ms.map I.int).dropLast)).set d (.dic (dealI a y l)), ?_, ⟨set_at h1, ?_, D.ne, D.a0, D.a1, D.m0 y (List.mem_of_getElem? hy), fun m hm => D.m0 m (List.dropLast_subset _ hm)⟩, Oth.setL.trans Oth.setD⟩
  · simp [F__law_draw_w1b, drD, runF,seqF,iteF',orF,andF,notF,tstF,opF,unF,bd,varF,conF,rt,consF,nilF,fldP,lenP,sq,pk,pkS,blE,ltP,leP,gtP,geP,intP,retF,retN,movF,boxF,bxE,mvE,skipF,dropF,asgF,gNm,ixP,orP,ixS,ixD,getD',subP,addP,addI,mulP,mulI,fdivP,modP,powP,shlP,shrP,negP,callP,vlA,methF,makeP,tupP,lstP,imA,imE,bmF,isLst,append1P,pop0P,fldS,putF',putQ,keyI,keyT,keysI,valI,ifE,isQ,slOk,truE,eqP,neP,eqE,mixI,eqD,flI,eqFl,tpl,newK,newT,one, D.dc, D.lc, deal_l, hy, h1, deal_len, put_n]
  · rw [List.getElem?_set_ne D.ne, set_at D.lc, List.map_dropLast]
theorem draw_w {d l : Nat} {a : Int} {many : Int} : ∀ (k : Nat) {G : List M} {n : Int} {ms : List Int}, ms.length = k → DC G d l a n ms → ∃ G' n' ms', whF F__law_draw_w1c F__law_draw_w1b (drD d many) G = some (.nx (drD d many) G') ∧ DC G' d l a n' ms' ∧ Oth d l G G' := by
  intro k
  induction k with
  | zero =>
    intro G n ms hk D
    refine ⟨G, n, ms, whF_done ?_, D, Oth.refl _ _ _⟩
    rw [draw_c D]
    simp [hk]
  | succ k ih =>
    intro G n ms hk D
    by_cases h : n = 0
    · obtain ⟨y, hy⟩ : ∃ y, ms[ms.length - 1]? = some y := ⟨_, List.getElem?_eq_getElem (by omega)⟩
      obtain ⟨G1, e1, D1, o1⟩ := draw_b (many := many) D hy
      obtain ⟨G2, n2, ms2, e2, D2, o2⟩ := ih (by rw [List.length_dropLast]; omega) D1
      refine ⟨G2, n2, ms2, ?_, D2, o1.trans o2⟩
      rw [whF_next (by rw [draw_c D]; simp [h, hk]) e1]
      exact e2
    · refine ⟨G, n, ms, whF_done ?_, D, Oth.refl _ _ _⟩
      rw [draw_c D]
      simp [h]
theorem draw_ok {G : List M} {d l : Nat} {many : Int} (D : DG G d l) (h0 : 0 < many) (h1 : many < 2 ^ 100) : ∃ r G', F__law_draw [.im (.ref d), .im (.int many)] G = some (.im (.int r), G') ∧ 0 ≤ r ∧ r < many ∧ DG G' d l ∧ Oth d l G G' := by
  obtain ⟨a, n, ms, D⟩ := D
  obtain ⟨G1, n1, ms1, e1, D1, o1⟩ := draw_w (many := many) _ rfl D
  have e1' : whF F__law_draw_w1c F__law_draw_w1b [some (.im (.ref d)), some (.im (.int many)), none, none, none] G = some (.nx [some (.im (.ref d)), some (.im (.int many)), none, none, none] G1) := e1
  by_cases hn : 0 < n1
  · refine ⟨n1 % many, G1.set d (.dic (dealI a (n1 / many) l)), ?_, Int.emod_nonneg _ (by omega), Int.emod_lt_of_pos _ h0, ⟨a, n1 / many, ms1, set_at D1.dc, by rw [List.getElem?_set_ne D1.ne]; exact D1.lc, D1.ne, D1.a0, D1.a1, Int.ediv_nonneg D1.n0 (by omega), D1.m0⟩, o1.trans Oth.setD⟩
    have h2 : many < 2 ^ 200 := Int.lt_trans h1 (by decide)
    have h3 : (many < 1606938044258990275541962092341162602522202993782792835301376) := h2
    simp [F__law_draw, runF,seqF,iteF',orF,andF,notF,tstF,opF,unF,bd,varF,conF,rt,consF,nilF,fldP,lenP,sq,pk,pkS,blE,ltP,leP,gtP,geP,intP,retF,retN,movF,boxF,bxE,mvE,skipF,dropF,asgF,gNm,ixP,orP,ixS,ixD,getD',subP,addP,addI,mulP,mulI,fdivP,modP,powP,shlP,shrP,negP,callP,vlA,methF,makeP,tupP,lstP,imA,imE,bmF,isLst,append1P,pop0P,fldS,putF',putQ,keyI,keyT,keysI,valI,ifE,isQ,slOk,truE,eqP,neP,eqE,mixI,eqD,flI,eqFl,tpl,newK,newT,one, e1', D1.dc, deal_n, hn, h0, h3, deal_len, put_n]
  · have q1 : 0 ≤ (a * 48271 + 7919) % 2147483647 := Int.emod_nonneg _ (by decide)
    have q2 : (a * 48271 + 7919) % 2147483647 < 2147483647 := Int.emod_lt_of_pos _ (by decide)
    have q3 : 0 ≤ ((a * 48271 + 7919) % 2147483647 * 40692 + 104729) % 2147483399 := Int.emod_nonneg _ (by decide)
    have q4 : ((a * 48271 + 7919) % 2147483647 * 40692 + 104729) % 2147483399 < 2147483399 := Int.emod_lt_of_pos _ (by decide)
    obtain ⟨o, ho⟩ : ∃ o, (a * 48271 + 7919) % 2147483647 = o := ⟨_, rfl⟩
    rw [ho] at q1 q2 q3 q4
    obtain ⟨b, hb⟩ : ∃ b, (o * 40692 + 104729) % 2147483399 = b := ⟨_, rfl⟩
    rw [hb] at q3 q4
    have D2 : (G1.set d (.dic (dealI b n1 l)))[d]? = some (.dic (dealI b n1 l)) := set_at D1.dc
    have c1 : -18446744073709551616 < b ∧ b < 18446744073709551616 := ⟨by omega, by omega⟩
    have c2 : -18446744073709551616 < o ∧ o < 18446744073709551616 := ⟨by omega, by omega⟩
    refine ⟨(o * o % 2147483629 * 2147483563 + b * b % 2147483563) % many, G1.set d (.dic (dealI b n1 l)), ?_, Int.emod_nonneg _ (by omega), Int.emod_lt_of_pos _ h0, ⟨b, n1, ms1, D2, by rw [List.getElem?_set_ne D1.ne]; exact D1.lc, D1.ne, q3, by omega, D1.n0, D1.m0⟩, o1.trans Oth.setD⟩
    simp [F__law_draw, runF,seqF,iteF',orF,andF,notF,tstF,opF,unF,bd,varF,conF,rt,consF,nilF,fldP,lenP,sq,pk,pkS,blE,ltP,leP,gtP,geP,intP,retF,retN,movF,boxF,bxE,mvE,skipF,dropF,asgF,gNm,ixP,orP,ixS,ixD,getD',subP,addP,addI,mulP,mulI,fdivP,modP,powP,shlP,shrP,negP,callP,vlA,methF,makeP,tupP,lstP,imA,imE,bmF,isLst,append1P,pop0P,fldS,putF',putQ,keyI,keyT,keysI,valI,ifE,isQ,slOk,truE,eqP,neP,eqE,mixI,eqD,flI,eqFl,tpl,newK,newT,one, e1', D1.dc, D2, deal_n, deal_s, hn, h0, deal_len, put_s, ho, hb, c1, c2]
end Q
namespace Q
open PySem L2 B
inductive Mk where
  | leaf (w : Int) | pair (a b : Int)
  deriving DecidableEq
def Mk.i : Mk → I
  | .leaf w => .tup [.str "leaf", .int w]
  | .pair a b => .tup [.str "pair", .int a, .int b]
def Mk.k : Mk → List Key
  | .leaf w => [.inr "leaf", .inl w]
  | .pair a b => [.inr "pair", .inl a, .inl b]
theorem Mk.key (m : Mk) : keyT m.i = some m.k := by cases m <;> simp [Mk.i, Mk.k, keyT, keysI, keyI]
theorem s_lp : ¬ (("leaf" : Str) = "pair") := by decide +kernel
theorem s_pl : ¬ (("pair" : Str) = "leaf") := by decide +kernel
theorem Mk.inj {m m' : Mk} (h : m.k = m'.k) : m = m' := by
  cases m <;> cases m' <;> simp [Mk.k, s_lp, s_pl] at h <;> simp [h]
/-- the seals given, numbered from o + 1 on -/
def num (o : Nat) : List Mk → List (List Key × I)
  | [] => []
  | m :: r => (m.k, .int ((o : Int) + 1)) :: num (o + 1) r
theorem num_len : ∀ (o : Nat) (gs : List Mk), (num o gs).length = gs.length
  | _, [] => rfl
  | o, m :: r => by show (num (o + 1) r).length + 1 = r.length + 1; rw [num_len]
theorem num_has : ∀ (o : Nat) (gs : List Mk) (m : Mk), hasI (num o gs) m.k = decide (m ∈ gs)
  | _, [], _ => by simp [num, hasI]
  | o, g :: r, m => by
    have ih := num_has (o + 1) r m
    show (decide (g.k = m.k) || hasI (num (o + 1) r) m.k) = _
    rw [ih]
    by_cases e : g = m
    · subst e; simp
    · have : ¬ (g.k = m.k) := fun z => e (Mk.inj z)
      simp [this, e, Ne.symm e, List.mem_cons]
theorem num_val : ∀ {o : Nat} {gs : List Mk} {m : Mk}, m ∈ gs → ∃ j : Nat, valI (num o gs) m.k = some (.int ((o : Int) + j + 1)) ∧ gs[j]? = some m
  | _, [], _, h => by cases h
  | o, g :: r, m, h => by
    by_cases e : g = m
    · subst e; exact ⟨0, by simp [num, valI], rfl⟩
    · rcases List.mem_cons.mp h with z | z
      · exact absurd z.symm e
      · obtain ⟨j, h1, h2⟩ := num_val (o := o + 1) z
        have : ¬ (g.k = m.k) := fun z => e (Mk.inj z)
        refine ⟨j + 1, ?_, h2⟩
        simp only [num, valI, if_neg this, h1]
        congr 2; push_cast; omega
theorem num_none : ∀ {o : Nat} {gs : List Mk} {m : Mk}, m ∉ gs → valI (num o gs) m.k = none
  | _, [], _, _ => rfl
  | o, g :: r, m, h => by
    rw [List.mem_cons, not_or] at h
    have : ¬ (g.k = m.k) := fun z => h.1 (Mk.inj z).symm
    simp only [num, valI, if_neg this]
    exact num_none h.2
theorem num_snoc : ∀ (o : Nat) (gs : List Mk) (m : Mk), num o (gs ++ [m]) = num o gs ++ [(m.k, .int ((o : Int) + gs.length + 1))]
  | o, [], m => by simp [num]
  | o, g :: r, m => by
    show (g.k, I.int ((o : Int) + 1)) :: num (o + 1) (r ++ [m]) = (g.k, I.int ((o : Int) + 1)) :: (num (o + 1) r ++ _)
    rw [num_snoc (o + 1) r m]
    have : ((o + 1 : Nat) : Int) + r.length + 1 = (o : Int) + (g :: r).length + 1 := by simp only [List.length_cons]; push_cast; omega
    rw [this]
def hsI (g s : Nat) : List (Str × I) := [("given", .ref g), ("seals", .ref s)]
theorem s_sg : (("seals" : Str) == "given") = false := by decide +kernel
theorem lk_g (g s : Nat) : (hsI g s).lookup ("given" : Str) = some (.ref g) := by simp [hsI, List.lookup]
theorem lk_s (g s : Nat) : (hsI g s).lookup ("seals" : Str) = some (.ref s) := by simp [hsI, List.lookup, s_sg]
theorem m1 : (("seal_for" : Str) == "given") = false := by decide +kernel
theorem m2 : (("seal_for" : Str) == "seals") = false := by decide +kernel
theorem m3 : (("leaf" : Str) == "given") = false := by decide +kernel
theorem m4 : (("leaf" : Str) == "seals") = false := by decide +kernel
theorem m5 : (("pair" : Str) == "given") = false := by decide +kernel
theorem m6 : (("pair" : Str) == "seals") = false := by decide +kernel
theorem m7 : (("opened" : Str) == "given") = false := by decide +kernel
theorem m8 : (("opened" : Str) == "seals") = false := by decide +kernel
theorem m9 : (("many" : Str) == "given") = false := by decide +kernel
theorem m10 : (("many" : Str) == "seals") = false := by decide +kernel
theorem n_for (g s : Nat) : (hsI g s).lookup ("seal_for" : Str) = none := by simp [hsI, List.lookup, m1, m2]
theorem n_leaf (g s : Nat) : (hsI g s).lookup ("leaf" : Str) = none := by simp [hsI, List.lookup, m3, m4]
theorem n_pair (g s : Nat) : (hsI g s).lookup ("pair" : Str) = none := by simp [hsI, List.lookup, m5, m6]
theorem n_open (g s : Nat) : (hsI g s).lookup ("opened" : Str) = none := by simp [hsI, List.lookup, m7, m8]
theorem n_many (g s : Nat) : (hsI g s).lookup ("many" : Str) = none := by simp [hsI, List.lookup, m9, m10]
structure HG (G : List M) (h g s : Nat) (gs : List Mk) : Prop where
  ob : G[h]? = some (.obj "House" (hsI g s))
  gl : G[g]? = some (.lst (gs.map Mk.i))
  sd : G[s]? = some (.dit (num 0 gs))
  n1 : h ≠ g
  n2 : h ≠ s
  n3 : g ≠ s
  nd : gs.Nodup
/-- m is the n-th -/
def At (gs : List Mk) (n : Int) (m : Mk) : Prop := ∃ j : Nat, n = (j : Int) + 1 ∧ gs[j]? = some m
theorem At.app {gs : List Mk} {n : Int} {m : Mk} (h : At gs n m) (r : List Mk) : At (gs ++ r) n m := by
  obtain ⟨j, e, h⟩ := h
  exact ⟨j, e, by rw [List.getElem?_append_left (List.getElem?_eq_some_iff.mp h).1]; exact h⟩
theorem At.uniq {gs : List Mk} {n n' : Int} {m : Mk} (nd : gs.Nodup) (h : At gs n m) (h' : At gs n' m) : n = n' := by
  obtain ⟨j, rfl, h⟩ := h
  obtain ⟨j', rfl, h'⟩ := h'
  have a1 := List.getElem?_eq_some_iff.mp h
  have a2 := List.getElem?_eq_some_iff.mp h'
  obtain ⟨l1, e1⟩ := a1
  obtain ⟨l2, e2⟩ := a2
  have := (List.getElem_inj (i := j) (j := j') (h₀ := l1) (h₁ := l2) nd).mp (e1.trans e2.symm)
  subst this; rfl
theorem seal_for_ok {G : List M} {h g s : Nat} {gs : List Mk} {m : Mk} (S : HG G h g s gs) (hl : gs.length < 100000) : ∃ n gs' G', F_House_seal_for [.im (.ref h), .im m.i] G = some (.im (.int n), G') ∧ HG G' h g s gs' ∧ At gs' n m ∧ (gs' = gs ∨ gs' = gs ++ [m]) ∧ Oth g s G G' := by
  have hk := m.key
  by_cases hm : m ∈ gs
  · obtain ⟨j, hv, hj⟩ := num_val (o := 0) hm
    refine ⟨(j : Int) + 1, gs, G, ?_, S, ⟨j, rfl, hj⟩, .inl rfl, Oth.refl _ _ _⟩
    have hv : valI (num 0 gs) m.k = some (.int ((j : Int) + 1)) := by rw [hv]; simp
    have hi : inL true [.v (.im m.i), .v (.im (.ref s))] [some (.im (.ref h)), some (.im m.i)] G = none := by
      cases m <;> simp [inL, sq, pk, S.sd, Mk.i]
    have hq : ixS [.v (.im (.ref s)), .v (.im m.i)] [some (.im (.ref h)), some (.im m.i)] G = none := by cases m <;> simp [ixS, Mk.i]
    simp [F_House_seal_for, runF, seqF, iteF', tstF, opF, unF, bd, varF, rt, fldP, ninP, orP, inD', getD', pk, blE, retF, movF, mvE, skipF, ixP, ixD, S.ob, S.sd, lk_s, lk_g, hk, hv, hi, hq]
  · have hv := num_none (o := 0) hm
    have hh : hasI (num 0 gs) m.k = false := by rw [num_has]; simp [hm]
    have hi : inL true [.v (.im m.i), .v (.im (.ref s))] [some (.im (.ref h)), some (.im m.i)] G = none := by
      cases m <;> simp [inL, sq, pk, S.sd, Mk.i]
    have g1 : (G.set g (.lst (gs.map Mk.i ++ [m.i])))[h]? = some (.obj "House" (hsI g s)) := by rw [List.getElem?_set_ne S.n1.symm]; exact S.ob
    have g2 : (G.set g (.lst (gs.map Mk.i ++ [m.i])))[s]? = some (.dit (num 0 gs)) := by rw [List.getElem?_set_ne S.n3]; exact S.sd
    have g3 : (G.set g (.lst (gs.map Mk.i ++ [m.i])))[g]? = some (.lst (gs.map Mk.i ++ [m.i])) := set_at S.gl
    have e1 : num 0 (gs ++ [m]) = num 0 gs ++ [(m.k, .int ((gs.length : Int) + 1))] := by rw [num_snoc]; simp
    have e2 : putD (num 0 gs) m.k (.int ((gs.length : Int) + 1)) = num 0 (gs ++ [m]) := by rw [e1]; unfold putD; rw [hh]; rfl
    have l1 : gs.length < 1000000 := by omega
    have l2 : (num 0 gs).length < 1000000 := by rw [num_len]; exact l1
    have k1 : ((G.set g (.lst (gs.map Mk.i ++ [m.i]))).set s (.dit (num 0 (gs ++ [m]))))[h]? = some (.obj "House" (hsI g s)) := by rw [List.getElem?_set_ne S.n2.symm]; exact g1
    have k2 : ((G.set g (.lst (gs.map Mk.i ++ [m.i]))).set s (.dit (num 0 (gs ++ [m]))))[s]? = some (.dit (num 0 (gs ++ [m]))) := set_at g2
    have hq : ∀ G', ixS [.v (.im (.ref s)), .v (.im m.i)] [some (.im (.ref h)), some (.im m.i)] G' = none := fun G' => by cases m <;> simp [ixS, Mk.i]
    have hmem : m ∈ gs ++ [m] := by simp
    have nd' : (gs ++ [m]).Nodup := by
      rw [List.nodup_append]
      exact ⟨S.nd, by simp, fun a ha b hb => by simp at hb; subst hb; exact fun z => hm (z ▸ ha)⟩
    have val : valI (num 0 (gs ++ [m])) m.k = some (.int ((gs.length : Int) + 1)) := by
      obtain ⟨j, hv', hj⟩ := num_val (o := 0) hmem
      rw [hv']
      have a2 : (gs ++ [m])[gs.length]? = some m := by simp
      obtain ⟨l1, e1⟩ := List.getElem?_eq_some_iff.mp hj
      obtain ⟨l2, e2⟩ := List.getElem?_eq_some_iff.mp a2
      have := (List.getElem_inj (h₀ := l1) (h₁ := l2) nd').mp (e1.trans e2.symm)
      subst this
      simp
    refine ⟨(gs.length : Int) + 1, gs ++ [m], (G.set g (.lst (gs.map Mk.i ++ [m.i]))).set s (.dit (num 0 (gs ++ [m]))), ?_, ⟨k1, ?_, k2, S.n1, S.n2, S.n3, nd'⟩, ⟨gs.length, rfl, by simp⟩, .inr rfl, Oth.setD.trans Oth.setL⟩
    · simp [F_House_seal_for, runF, seqF, iteF', tstF, opF, unF, bd, varF, rt, consF, nilF, fldP, ninP, orP, inD', getD', pk, pkS, sq, lenP, blE, retF, movF, mvE, skipF, dropF, bmF, isLst, append1P, putF', putQ, ixP, ixD, S.ob, S.sd, S.gl, lk_s, lk_g, hk, hv, hi, hq, g1, g2, g3, l1, l2, e2, k1, k2, val]
    · rw [List.getElem?_set_ne S.n3.symm, g3, List.map_append]; rfl
end Q
namespace Q
open PySem L2 B
theorem cT_inv {w : Wk} {c : I → Option (List I)} {tt : Mo Bool} {te : Mo Ev} {di δ : De} (P : Nat → List I → List M → Prop)
    (step : ∀ i acc G, i < w.n → P i acc G → ∃ d ds δa Ga y δb Gb, w.at_ i δ G = some d ∧ c d = some ds ∧ tt ((ds.map fun d => some (Vl.im d)) ++ di) G = some (true, δa, Ga) ∧ te δa Ga = some (.v (.im y), δb, Gb) ∧ P (i + 1) (acc ++ [y]) Gb)
    (fin : ∀ acc G, P w.n acc G → w.fin δ G = true) : ∀ (r i : Nat) (acc : List I) (G : List M), i + r = w.n → P i acc G → ∃ ds G', cTurns w c tt te di i r acc δ G = some (ds, G') ∧ P w.n ds G'
  | 0, i, acc, G, h, p => by
    have : i = w.n := by omega
    subst this
    exact ⟨acc, G, by unfold cTurns; rw [fin acc G p]; rfl, p⟩
  | r + 1, i, acc, G, h, p => by
    obtain ⟨d, ds, δa, Ga, y, δb, Gb, h1, h2, h3, h4, p'⟩ := step i acc G (by omega) p
    obtain ⟨ds', G', e, q⟩ := cT_inv P step fin r (i + 1) (acc ++ [y]) Gb (by omega) p'
    refine ⟨ds', G', ?_, q⟩
    unfold cTurns
    rw [h1]; dsimp only; rw [h2]; dsimp only; rw [h3]; dsimp only; rw [h4]
    exact e
theorem fT_inv {w : Wk} {g : GF} {b : SF} (P : Nat → De → List M → Prop)
    (step : ∀ i δ G, i < w.n → P i δ G → ∃ d δ1 G1 δ2 G2, w.at_ i δ G = some d ∧ g (.im d) δ G = some (δ1, G1) ∧ b δ1 G1 = some (.nx δ2 G2) ∧ P (i + 1) δ2 G2)
    (fin : ∀ δ G, P w.n δ G → w.fin δ G = true) : ∀ (r i : Nat) (δ : De) (G : List M), i + r = w.n → P i δ G → ∃ δ' G', fTurns w g b i r δ G = some (.nx δ' G') ∧ P w.n δ' G'
  | 0, i, δ, G, h, p => by
    have : i = w.n := by omega
    subst this
    exact ⟨δ, G, by unfold fTurns; rw [fin δ G p]; rfl, p⟩
  | r + 1, i, δ, G, h, p => by
    obtain ⟨d, δ1, G1, δ2, G2, h1, h2, h3, p'⟩ := step i δ G (by omega) p
    obtain ⟨δ', G', e, q⟩ := fT_inv P step fin r (i + 1) δ2 G2 (by omega) p'
    refine ⟨δ', G', ?_, q⟩
    unfold fTurns
    rw [h1]; dsimp only; rw [h2]; dsimp only; rw [h3]
    exact e
def Ext (k : Nat) (gs gs' : List Mk) : Prop := ∃ r, gs' = gs ++ r ∧ r.length ≤ k
theorem Ext.refl (gs : List Mk) : Ext 0 gs gs := ⟨[], by simp, by simp⟩
theorem Ext.trans {a b : Nat} {gs g1 g2 : List Mk} (x : Ext a gs g1) (y : Ext b g1 g2) : Ext (a + b) gs g2 := by
  obtain ⟨r, rfl, h1⟩ := x
  obtain ⟨r', rfl, h2⟩ := y
  exact ⟨r ++ r', by simp, by rw [List.length_append]; omega⟩
theorem Ext.le {a b : Nat} {gs g1 : List Mk} (x : Ext a gs g1) (h : a ≤ b) : Ext b gs g1 := by
  obtain ⟨r, e, l⟩ := x; exact ⟨r, e, by omega⟩
theorem Ext.len {a : Nat} {gs g1 : List Mk} (x : Ext a gs g1) : g1.length ≤ gs.length + a := by
  obtain ⟨r, rfl, l⟩ := x; rw [List.length_append]; omega
theorem At.ext {a : Nat} {gs g1 : List Mk} {n : Int} {m : Mk} (h : At gs n m) (x : Ext a gs g1) : At g1 n m := by
  obtain ⟨r, rfl, _⟩ := x; exact h.app r
theorem ext_of {gs gs' : List Mk} {m : Mk} (h : gs' = gs ∨ gs' = gs ++ [m]) : Ext 1 gs gs' := by
  rcases h with h | h
  · exact ⟨[], by simp [h], by simp⟩
  · exact ⟨[m], h, by simp⟩
theorem leaf_ok {G : List M} {h g s : Nat} {gs : List Mk} {w : Int} (S : HG G h g s gs) (hl : gs.length < 100000) : ∃ n gs' G', F_House_leaf [.im (.ref h), .im (.int w)] G = some (.im (.int n), G') ∧ HG G' h g s gs' ∧ At gs' n (.leaf w) ∧ Ext 1 gs gs' ∧ Oth g s G G' := by
  obtain ⟨n, gs', G', e, S', a, x, o⟩ := seal_for_ok (m := .leaf w) S hl
  have e : F_House_seal_for [.im (.ref h), .im (.tup [.str "leaf", .int w])] G = some (.im (.int n), G') := e
  refine ⟨n, gs', G', ?_, S', a, ext_of x, o⟩
  simp [F_House_leaf, runF,seqF,iteF',orF,andF,notF,tstF,opF,unF,bd,varF,conF,rt,consF,nilF,fldP,lenP,sq,pk,pkS,blE,ltP,leP,gtP,geP,intP,retF,retN,movF,boxF,bxE,mvE,skipF,dropF,asgF,gNm,ixP,orP,ixS,ixD,getD',subP,addP,addI,mulP,mulI,fdivP,modP,powP,shlP,shrP,negP,callP,vlA,methF,makeP,tupP,lstP,imA,imE,bmF,isLst,append1P,pop0P,fldS,putF',putQ,keyI,keyT,keysI,valI,ifE,isQ,slOk,truE,eqP,neP,eqE,mixI,eqD,flI,eqFl,tpl,newK,newT,one, S.ob, n_for, e]
theorem pair_ok {G : List M} {h g s : Nat} {gs : List Mk} {a b : Int} (S : HG G h g s gs) (hl : gs.length < 100000) : ∃ n gs' G', F_House_pair [.im (.ref h), .im (.int a), .im (.int b)] G = some (.im (.int n), G') ∧ HG G' h g s gs' ∧ At gs' n (.pair a b) ∧ Ext 1 gs gs' ∧ Oth g s G G' := by
  obtain ⟨n, gs', G', e, S', at_, x, o⟩ := seal_for_ok (m := .pair a b) S hl
  have e : F_House_seal_for [.im (.ref h), .im (.tup [.str "pair", .int a, .int b])] G = some (.im (.int n), G') := e
  refine ⟨n, gs', G', ?_, S', at_, ext_of x, o⟩
  simp [F_House_pair, runF,seqF,iteF',orF,andF,notF,tstF,opF,unF,bd,varF,conF,rt,consF,nilF,fldP,lenP,sq,pk,pkS,blE,ltP,leP,gtP,geP,intP,retF,retN,movF,boxF,bxE,mvE,skipF,dropF,asgF,gNm,ixP,orP,ixS,ixD,getD',subP,addP,addI,mulP,mulI,fdivP,modP,powP,shlP,shrP,negP,callP,vlA,methF,makeP,tupP,lstP,imA,imE,bmF,isLst,append1P,pop0P,fldS,putF',putQ,keyI,keyT,keysI,valI,ifE,isQ,slOk,truE,eqP,neP,eqE,mixI,eqD,flI,eqFl,tpl,newK,newT,one, S.ob, n_for, e]
theorem opened_no {G : List M} {h g s : Nat} {gs : List Mk} {n : Int} (S : HG G h g s gs) (hn : n < 1 ∨ (gs.length : Int) < n) : F_House_opened [.im (.ref h), .im (.int n)] G = some (.im .non, G) := by
  by_cases h0 : n < 1
  · simp [F_House_opened, runF,seqF,iteF',orF,andF,notF,tstF,opF,unF,bd,varF,conF,rt,consF,nilF,fldP,lenP,sq,pk,pkS,blE,ltP,leP,gtP,geP,intP,retF,retN,movF,boxF,bxE,mvE,skipF,dropF,asgF,gNm,ixP,orP,ixS,ixD,getD',subP,addP,addI,mulP,mulI,fdivP,modP,powP,shlP,shrP,negP,callP,vlA,methF,makeP,tupP,lstP,imA,imE,bmF,isLst,append1P,pop0P,fldS,putF',putQ,keyI,keyT,keysI,valI,ifE,isQ,slOk,truE,eqP,neP,eqE,mixI,eqD,flI,eqFl,tpl,newK,newT,one, h0]
  · have h1 : (gs.length : Int) < n := by omega
    simp [F_House_opened, runF,seqF,iteF',orF,andF,notF,tstF,opF,unF,bd,varF,conF,rt,consF,nilF,fldP,lenP,sq,pk,pkS,blE,ltP,leP,gtP,geP,intP,retF,retN,movF,boxF,bxE,mvE,skipF,dropF,asgF,gNm,ixP,orP,ixS,ixD,getD',subP,addP,addI,mulP,mulI,fdivP,modP,powP,shlP,shrP,negP,callP,vlA,methF,makeP,tupP,lstP,imA,imE,bmF,isLst,append1P,pop0P,fldS,putF',putQ,keyI,keyT,keysI,valI,ifE,isQ,slOk,truE,eqP,neP,eqE,mixI,eqD,flI,eqFl,tpl,newK,newT,one, h0, S.ob, S.gl, lk_g, h1]
theorem opened_at {G : List M} {h g s : Nat} {gs : List Mk} {n : Int} {m : Mk} (S : HG G h g s gs) (hn : At gs n m) : F_House_opened [.im (.ref h), .im (.int n)] G = some (.im m.i, G) := by
  obtain ⟨j, rfl, hj⟩ := hn
  have hl : j < gs.length := (List.getElem?_eq_some_iff.mp hj).1
  have h0 : ¬ ((j : Int) + 1 < 1) := by omega
  have h3 : ¬ ((gs.length : Int) < (j : Int) + 1) := by omega
  have h4 : atI (gs.map Mk.i) (j : Int) = some m.i := atI_nat (by rw [List.getElem?_map, hj]; rfl)
  have h5 : (j : Int) + 1 - 1 = j := by omega
  simp [F_House_opened, runF,seqF,iteF',orF,andF,notF,tstF,opF,unF,bd,varF,conF,rt,consF,nilF,fldP,lenP,sq,pk,pkS,blE,ltP,leP,gtP,geP,intP,retF,retN,movF,boxF,bxE,mvE,skipF,dropF,asgF,gNm,ixP,orP,ixS,ixD,getD',subP,addP,addI,mulP,mulI,fdivP,modP,powP,shlP,shrP,negP,callP,vlA,methF,makeP,tupP,lstP,imA,imE,bmF,isLst,append1P,pop0P,fldS,putF',putQ,keyI,keyT,keysI,valI,ifE,isQ,slOk,truE,eqP,neP,eqE,mixI,eqD,flI,eqFl,tpl,newK,newT,one, h0, S.ob, S.gl, lk_g, h3, h4, h5]
theorem many_ok {G : List M} {h g s : Nat} {gs : List Mk} (S : HG G h g s gs) : F_House_many [.im (.ref h)] G = some (.im (.int gs.length), G) := by
  simp [F_House_many, runF,seqF,iteF',orF,andF,notF,tstF,opF,unF,bd,varF,conF,rt,consF,nilF,fldP,lenP,sq,pk,pkS,blE,ltP,leP,gtP,geP,intP,retF,retN,movF,boxF,bxE,mvE,skipF,dropF,asgF,gNm,ixP,orP,ixS,ixD,getD',subP,addP,addI,mulP,mulI,fdivP,modP,powP,shlP,shrP,negP,callP,vlA,methF,makeP,tupP,lstP,imA,imE,bmF,isLst,append1P,pop0P,fldS,putF',putQ,keyI,keyT,keysI,valI,ifE,isQ,slOk,truE,eqP,neP,eqE,mixI,eqD,flI,eqFl,tpl,newK,newT,one, S.ob, S.gl, lk_g]
theorem s_gs : ¬ (("given" : Str) = "seals") := by decide +kernel
theorem init_ok {G : List M} : F_House_init [.im (.ref G.length)] (G ++ [.obj "House" []]) = some (.im .non, G ++ [.obj "House" (hsI (G.length + 1) (G.length + 2)), .lst [], .dit []]) := by
  simp [F_House_init, runF,seqF,iteF',orF,andF,notF,tstF,opF,unF,bd,varF,conF,rt,consF,nilF,fldP,lenP,sq,pk,pkS,blE,ltP,leP,gtP,geP,intP,retF,retN,movF,boxF,bxE,mvE,skipF,dropF,asgF,gNm,ixP,orP,ixS,ixD,getD',subP,addP,addI,mulP,mulI,fdivP,modP,powP,shlP,shrP,negP,callP,vlA,methF,makeP,tupP,lstP,imA,imE,bmF,isLst,append1P,pop0P,fldS,putF',putQ,keyI,keyT,keysI,valI,ifE,isQ,slOk,truE,eqP,neP,eqE,mixI,eqD,flI,eqFl,tpl,newK,newT,one, putI, hsI, s_gs]
def Sl (gs : List Mk) : Nat → Int → List Int → Prop
  | 0, n, ws => ∃ w, ws = [w] ∧ At gs n (.leaf w)
  | d + 1, n, ws => ∃ a b l r, ws = l ++ r ∧ l.length = 2 ^ d ∧ r.length = 2 ^ d ∧ At gs n (.pair a b) ∧ Sl gs d a l ∧ Sl gs d b r
theorem Sl.ext {k : Nat} {gs g1 : List Mk} (x : Ext k gs g1) : ∀ {d : Nat} {n : Int} {ws : List Int}, Sl gs d n ws → Sl g1 d n ws
  | 0, _, _, ⟨w, e, h⟩ => ⟨w, e, h.ext x⟩
  | d + 1, _, _, ⟨a, b, l, r, e, h1, h2, h3, h4, h5⟩ => ⟨a, b, l, r, e, h1, h2, h3.ext x, Sl.ext x h4, Sl.ext x h5⟩
theorem Sl.len {gs : List Mk} : ∀ {d : Nat} {n : Int} {ws : List Int}, Sl gs d n ws → ws.length = 2 ^ d
  | 0, _, _, ⟨w, e, h⟩ => by rw [e]; rfl
  | d + 1, _, _, ⟨a, b, l, r, e, h1, h2, h3, h4, h5⟩ => by rw [e, List.length_append, h1, h2, Nat.pow_succ]; omega
/-- seals of a row's parts, each of depth j -/
inductive Blk (gs : List Mk) (j : Nat) : List Int → List Int → Prop
  | nil : Blk gs j [] []
  | cons {n : Int} {ns ws vs : List Int} : Sl gs j n ws → Blk gs j ns vs → Blk gs j (n :: ns) (ws ++ vs)
theorem Blk.ext {k : Nat} {gs g1 : List Mk} (x : Ext k gs g1) {j : Nat} : ∀ {ns ws : List Int}, Blk gs j ns ws → Blk g1 j ns ws
  | _, _, .nil => .nil
  | _, _, .cons h r => .cons (h.ext x) (r.ext x)
theorem Blk.snoc {gs : List Mk} {j : Nat} : ∀ {ns ws : List Int} {n : Int} {vs : List Int}, Blk gs j ns ws → Sl gs j n vs → Blk gs j (ns ++ [n]) (ws ++ vs)
  | _, _, n, vs, .nil, h => by have := Blk.cons h (.nil (gs := gs) (j := j)); simpa using this
  | _, _, n, vs, .cons h0 r, h => by
    have := Blk.cons h0 (r.snoc h)
    simpa using this
theorem Blk.len {gs : List Mk} {j : Nat} : ∀ {ns ws : List Int}, Blk gs j ns ws → ws.length = ns.length * 2 ^ j
  | _, _, .nil => by simp
  | _, _, .cons h r => by rw [List.length_append, h.len, r.len, List.length_cons, Nat.succ_mul]; omega
theorem Blk.two {gs : List Mk} {j : Nat} {n n' : Int} {ns ws : List Int} (h : Blk gs j (n :: n' :: ns) ws) : ∃ l r t, ws = l ++ (r ++ t) ∧ Sl gs j n l ∧ Sl gs j n' r ∧ Blk gs j ns t := by
  cases h with
  | cons h1 h2 => cases h2 with
    | cons h2 h3 => exact ⟨_, _, _, rfl, h1, h2, h3⟩
end Q
namespace Q
open PySem L2 B
theorem pickI_even {xs : List I} {m : Nat} (h : xs.length = 2 * m) : (pickI xs none none (some 2)).length = m ∧ ∀ k, k < m → (pickI xs none none (some 2))[k]? = xs[2 * k]? := by
  have e : pickI xs none none (some 2) = ((List.range m).map fun k => 2 * k).filterMap (xs[·]?) := by
    unfold pickI sliceRange
    have c : (if (2 : Int) > 0 then (if (0 : Int) < (xs.length : Int) then ((xs.length : Int) - 0 + 2 - 1) / 2 else 0) else (if (0 : Int) > (xs.length : Int) then (0 - (xs.length : Int) - 2 - 1) / (-2) else 0)).toNat = m := by
      rw [if_pos (by decide), h]
      split <;> omega
    show ((List.range (if (2 : Int) > 0 then (if (0 : Int) < (xs.length : Int) then ((xs.length : Int) - 0 + 2 - 1) / 2 else 0) else (if (0 : Int) > (xs.length : Int) then (0 - (xs.length : Int) - 2 - 1) / (-2) else 0)).toNat).map fun (k : Nat) => (0 + 2 * (k : Int)).toNat).filterMap (xs[·]?) = _
    rw [c]
    congr 2
    funext k
    omega
  rw [e]
  exact pick_of fun k hk => by omega
theorem pickI_odd {xs : List I} {m : Nat} (h : xs.length = 2 * m) (hm : 0 < m) : (pickI xs (some 1) none (some 2)).length = m ∧ ∀ k, k < m → (pickI xs (some 1) none (some 2))[k]? = xs[2 * k + 1]? := by
  have e : pickI xs (some 1) none (some 2) = ((List.range m).map fun k => 2 * k + 1).filterMap (xs[·]?) := by
    unfold pickI
    have b1 : (sliceBounds (some 1) none (some 2) xs.length) = (1, (xs.length : Int), 2) := by
      unfold sliceBounds
      show (max 0 (min (if (1 : Int) < 0 then 1 + (xs.length : Int) else 1) (xs.length : Int)), (xs.length : Int), (2 : Int)) = _
      rw [if_neg (by decide)]
      congr 1
      omega
    rw [b1]
    unfold sliceRange
    have c : (if (2 : Int) > 0 then (if (1 : Int) < (xs.length : Int) then ((xs.length : Int) - 1 + 2 - 1) / 2 else 0) else (if (1 : Int) > (xs.length : Int) then (1 - (xs.length : Int) - 2 - 1) / (-2) else 0)).toNat = m := by
      rw [if_pos (by decide), h]
      split <;> omega
    show ((List.range (if (2 : Int) > 0 then (if (1 : Int) < (xs.length : Int) then ((xs.length : Int) - 1 + 2 - 1) / 2 else 0) else (if (1 : Int) > (xs.length : Int) then (1 - (xs.length : Int) - 2 - 1) / (-2) else 0)).toNat).map fun (k : Nat) => (1 + 2 * (k : Int)).toNat).filterMap (xs[·]?) = _
    rw [c]
    congr 2
    funext k
    omega
  rw [e]
  exact pick_of fun k hk => by omega
structure Mor (g s : Nat) (G G' : List M) : Prop where
  len : G.length ≤ G'.length
  at_ : ∀ k, k < G.length → k ≠ g → k ≠ s → G'[k]? = G[k]?
theorem Mor.refl (g s : Nat) (G : List M) : Mor g s G G := ⟨Nat.le_refl _, fun _ _ _ _ => rfl⟩
theorem Mor.trans {g s : Nat} {G G1 G2 : List M} (x : Mor g s G G1) (y : Mor g s G1 G2) : Mor g s G G2 := ⟨Nat.le_trans x.len y.len, fun k h h1 h2 => (y.at_ k (Nat.lt_of_lt_of_le h x.len) h1 h2).trans (x.at_ k h h1 h2)⟩
theorem Oth.mor {g s : Nat} {G G' : List M} (o : Oth g s G G') : Mor g s G G' := ⟨by rw [o.len]; exact Nat.le_refl _, fun k _ h1 h2 => o.at_ k h1 h2⟩
theorem Mor.app {g s : Nat} {G : List M} (T : List M) : Mor g s G (G ++ T) := ⟨by rw [List.length_append]; omega, fun k h _ _ => List.getElem?_append_left h⟩
theorem HG.lt {G : List M} {h g s : Nat} {gs : List Mk} (S : HG G h g s gs) : h < G.length ∧ g < G.length ∧ s < G.length := ⟨(List.getElem?_eq_some_iff.mp S.ob).1, (List.getElem?_eq_some_iff.mp S.gl).1, (List.getElem?_eq_some_iff.mp S.sd).1⟩
theorem HG.app {G : List M} {h g s : Nat} {gs : List Mk} (S : HG G h g s gs) (T : List M) : HG (G ++ T) h g s gs := by
  obtain ⟨l1, l2, l3⟩ := S.lt
  exact ⟨by rw [List.getElem?_append_left l1]; exact S.ob, by rw [List.getElem?_append_left l2]; exact S.gl, by rw [List.getElem?_append_left l3]; exact S.sd, S.n1, S.n2, S.n3, S.nd⟩
theorem lsW_n (e : Ev) (n : Nat) : (lsW e n).n = n := rfl
theorem zipW_n (a b : Ev) (n : Nat) : (zipW a b n).n = n := rfl
theorem seal_leaves {G : List M} {h g s : Nat} {gs : List Mk} {ws : List Int} (S : HG G h g s gs) (hl : gs.length + ws.length < 90000) : ∃ ns gs' G',
    compF (itF (one (varF 1)) seqP) [0] c1 yesF (methF "House" "leaf" 2 F_House_leaf (varF 1) (consF (varF 0) nilF)) [some (.im (.ref h)), some (.im (.tup (ws.map I.int))), none] G = some (.v (.ow (.lst (ns.map I.int))), [some (.im (.ref h)), some (.im (.tup (ws.map I.int))), none], G') ∧
    HG G' h g s gs' ∧ Ext ws.length gs gs' ∧ Blk gs' 0 ns ws ∧ Oth g s G G' := by
  obtain ⟨ds, G', e, ns, gs', S', x, ed, bl, o⟩ := cT_inv (w := lsW (.v (.im (.tup (ws.map I.int)))) (ws.map I.int).length) (c := c1) (tt := yesF) (te := methF "House" "leaf" 2 F_House_leaf (varF 1) (consF (varF 0) nilF)) (di := [some (.im (.ref h))]) (δ := [some (.im (.ref h)), some (.im (.tup (ws.map I.int))), none])
    (fun i acc G' => ∃ ns gs', HG G' h g s gs' ∧ Ext i gs gs' ∧ acc = ns.map I.int ∧ Blk gs' 0 ns (ws.take i) ∧ Oth g s G G')
    (fun i acc G1 hi ⟨ns, gs1, S1, x1, ea, bl, o⟩ => by
      have hi' : i < ws.length := by simpa [lsW] using hi
      have x1l := x1.len
      obtain ⟨n, gs2, G2, e2, S2, a2, x2, o2⟩ := leaf_ok (w := ws[i]) S1 (by omega)
      refine ⟨.int ws[i], [.int ws[i]], _, _, .int n, [some (.im (.int ws[i])), some (.im (.ref h))], G2, ?_, rfl, rfl, ?_, ns ++ [n], gs2, S2, x1.trans x2, by rw [ea, List.map_append]; rfl, ?_, o.trans o2⟩
      · simp [lsW, sq, hi']
      · simp [runF,seqF,iteF',orF,andF,notF,tstF,opF,unF,bd,varF,conF,rt,consF,nilF,fldP,lenP,sq,pk,pkS,blE,ltP,leP,gtP,geP,intP,retF,retN,movF,boxF,bxE,mvE,skipF,dropF,asgF,gNm,ixP,orP,ixS,ixD,getD',subP,addP,addI,mulP,mulI,fdivP,modP,powP,shlP,shrP,negP,callP,vlA,methF,makeP,tupP,lstP,imA,imE,bmF,isLst,append1P,pop0P,fldS,putF',putQ,keyI,keyT,keysI,valI,ifE,isQ,slOk,truE,eqP,neP,eqE,mixI,eqD,flI,eqFl,tpl,newK,newT,one, S1.ob, n_leaf, e2]
      · rw [List.take_add_one, List.getElem?_eq_getElem hi']
        exact (bl.ext x2).snoc ⟨ws[i], rfl, a2⟩)
    (fun acc G' _ => by simp [lsW, sq]) ws.length 0 [] G (by simp [lsW]) ⟨[], gs, S, Ext.refl gs, rfl, by simpa using Blk.nil, Oth.refl _ _ _⟩
  have hw : (lsW (.v (.im (.tup (ws.map I.int)))) (ws.map I.int).length).n = ws.length := by simp [lsW]
  rw [hw] at x bl
  rw [List.take_length] at bl
  refine ⟨ns, gs', G', ?_, S', x, bl, o⟩
  rw [ed] at e
  have hle : ws.length ≤ 100000 := by omega
  simp only [List.length_map] at e
  simp [compF, boxS, itF, one, bd, varF, rt, seqP, lsP, isL, tpP, lsW_n, hle, inD, inD1, e]
theorem seal_level {G : List M} {h g s j m : Nat} {gs : List Mk} {ns ws : List Int} {v : I} (S : HG G h g s gs) (bl : Blk gs j ns ws) (hm : ns.length = 2 * m) (m0 : 0 < m) (hl : gs.length + m < 90000) : ∃ ms gs' G',
    F_seal_of_w1b [some (.im (.ref h)), some (.im v), some (.ow (.lst (ns.map I.int)))] G = some (.nx [some (.im (.ref h)), some (.im v), some (.ow (.lst (ms.map I.int)))] G') ∧
    HG G' h g s gs' ∧ Ext m gs gs' ∧ Blk gs' (j + 1) ms ws ∧ ms.length = m ∧ Mor g s G G' := by
  obtain ⟨l1, l2, l3⟩ := S.lt
  have pe := pickI_even (xs := ns.map I.int) (m := m) (by simpa using hm)
  have po := pickI_odd (xs := ns.map I.int) (m := m) (by simpa using hm) m0
  obtain ⟨ev, hev⟩ : ∃ ev, pickI (ns.map I.int) none none (some 2) = ev := ⟨_, rfl⟩
  obtain ⟨od, hod⟩ : ∃ od, pickI (ns.map I.int) (some 1) none (some 2) = od := ⟨_, rfl⟩
  rw [hev] at pe
  rw [hod] at po
  have G0e : (G ++ [.lst ev] ++ [.lst od])[G.length]? = some (.lst ev) := by simp
  have G0o : (G ++ [.lst ev] ++ [.lst od])[G.length + 1]? = some (.lst od) := by simp
  obtain ⟨ds, G', e, ms, gs', dn, td, S', x, ed, ew, b1, b2, lm, o⟩ := cT_inv (w := zipW (.v (.im (.ref G.length))) (.v (.im (.ref (G.length + 1)))) m) (c := cN 2) (tt := yesF) (te := methF "House" "pair" 3 F_House_pair (varF 2) (consF (varF 0) (consF (varF 1) nilF))) (di := [some (.im (.ref h))]) (δ := [some (.im (.ref h)), some (.im v), some (.ow (.lst (ns.map I.int)))])
    (fun i acc G' => ∃ ms gs' dn td, HG G' h g s gs' ∧ Ext i gs gs' ∧ acc = ms.map I.int ∧ ws = dn ++ td ∧ Blk gs' (j + 1) ms dn ∧ Blk gs' j (ns.drop (2 * i)) td ∧ ms.length = i ∧ Oth g s (G ++ [.lst ev] ++ [.lst od]) G')
    (fun i acc G1 hi ⟨ms, gs1, dn, td, S1, x1, ea, ew, b1, b2, lm, o⟩ => by
      have hi' : i < m := hi
      have x1l := x1.len
      have i1 : 2 * i < ns.length := by omega
      have i2 : 2 * i + 1 < ns.length := by omega
      have ed : ns.drop (2 * i) = ns[2 * i] :: ns[2 * i + 1] :: ns.drop (2 * (i + 1)) := by
        rw [List.drop_eq_getElem_cons i1, List.drop_eq_getElem_cons i2]
        congr 3
      rw [ed] at b2
      obtain ⟨l, r, t, et, s1, s2, bt⟩ := b2.two
      obtain ⟨n, gs2, G2, e2, S2, a2, x2, o2⟩ := pair_ok (a := ns[2 * i]) (b := ns[2 * i + 1]) S1 (by omega)
      have oe : G1[G.length]? = some (.lst ev) := by rw [o.at_ _ (by omega) (by omega)]; exact G0e
      have oo : G1[G.length + 1]? = some (.lst od) := by rw [o.at_ _ (by omega) (by omega)]; exact G0o
      have ve : ev[i]? = some (.int ns[2 * i]) := by rw [pe.2 i hi', List.getElem?_map, List.getElem?_eq_getElem i1]; rfl
      have vo : od[i]? = some (.int ns[2 * i + 1]) := by rw [po.2 i hi', List.getElem?_map, List.getElem?_eq_getElem i2]; rfl
      refine ⟨.tup [.int ns[2 * i], .int ns[2 * i + 1]], [.int ns[2 * i], .int ns[2 * i + 1]], _, _, .int n, [some (.im (.int ns[2 * i])), some (.im (.int ns[2 * i + 1])), some (.im (.ref h))], G2, ?_, rfl, rfl, ?_, ms ++ [n], gs2, dn ++ (l ++ r), t, S2, x1.trans x2, by rw [ea, List.map_append]; rfl, by rw [ew, et]; simp, ?_, bt.ext x2, by rw [List.length_append, lm]; rfl, o.trans o2⟩
      · simp [zipW, sq, pk, oe, oo, ve, vo]
      · simp [runF,seqF,iteF',orF,andF,notF,tstF,opF,unF,bd,varF,conF,rt,consF,nilF,fldP,lenP,sq,pk,pkS,blE,ltP,leP,gtP,geP,intP,retF,retN,movF,boxF,bxE,mvE,skipF,dropF,asgF,gNm,ixP,orP,ixS,ixD,getD',subP,addP,addI,mulP,mulI,fdivP,modP,powP,shlP,shrP,negP,callP,vlA,methF,makeP,tupP,lstP,imA,imE,bmF,isLst,append1P,pop0P,fldS,putF',putQ,keyI,keyT,keysI,valI,ifE,isQ,slOk,truE,eqP,neP,eqE,mixI,eqD,flI,eqFl,tpl,newK,newT,one, S1.ob, n_pair, e2]
      · exact (b1.ext x2).snoc ⟨_, _, l, r, rfl, s1.len, s2.len, a2, s1.ext x2, s2.ext x2⟩)
    (fun acc G1 ⟨ms, gs1, dn, td, S1, x1, ea, ew, b1, b2, lm, o⟩ => by
      have oe : G1[G.length]? = some (.lst ev) := by rw [o.at_ _ (by omega) (by omega)]; exact G0e
      have oo : G1[G.length + 1]? = some (.lst od) := by rw [o.at_ _ (by omega) (by omega)]; exact G0o
      simp [zipW, sq, pk, oe, oo, pe.1, po.1]) m 0 [] (G ++ [.lst ev] ++ [.lst od]) (by simp [zipW])
    ⟨[], gs, [], ws, (S.app _).app _, Ext.refl gs, rfl, rfl, .nil, bl, rfl, Oth.refl _ _ _⟩
  rw [zipW_n] at x b2 lm
  have hd : ns.drop (2 * m) = [] := by rw [List.drop_eq_nil_iff]; omega
  rw [hd] at b2
  have htd : td = [] := by cases b2; rfl
  subst htd
  rw [List.append_nil] at ew
  subst ew
  refine ⟨ms, gs', G', ?_, S', x, b1, lm, ?_⟩
  · rw [ed] at e
    have hle : m ≤ 100000 := by omega
    have e2 : min ev.length od.length = m := by rw [pe.1, po.1, Nat.min_self]
    have e : cTurns (zipW (.v (.im (.ref G.length))) (.v (.im (.ref (G.length + 1)))) m) (cN 2) yesF (methF "House" "pair" 3 F_House_pair (varF 2) (consF (varF 0) (consF (varF 1) nilF))) [some (.im (.ref h))] 0 m [] [some (.im (.ref h)), some (.im v), some (.ow (.lst (ns.map I.int)))] (G ++ [.lst ev, .lst od]) = some (ms.map I.int, G') := by simpa using e
    simp only [consF, nilF] at e
    simp [F_seal_of_w1b, asgF, movF, gNm, mvE, compF, boxS, itF, consF, nilF, boxF, bxE, stpF, one, noPt, somePt, conF, ptE, notT, bd, varF, rt, zipP, isL, sq, pk, zipW_n, hle, inD, inD1, hev, hod, e2, e]
  · have q : Mor g s G (G ++ [.lst ev] ++ [.lst od]) := by rw [List.append_assoc]; exact Mor.app _
    exact q.trans o.mor
theorem seal_wh {h g s : Nat} {v : I} {ws : List Int} : ∀ (k : Nat) {G : List M} {j : Nat} {gs : List Mk} {ns : List Int}, HG G h g s gs → Blk gs j ns ws → ns.length = 2 ^ k → gs.length + 2 ^ k < 90000 → ∃ n gs' G', whF F_seal_of_w1c F_seal_of_w1b [some (.im (.ref h)), some (.im v), some (.ow (.lst (ns.map I.int)))] G = some (.nx [some (.im (.ref h)), some (.im v), some (.ow (.lst [.int n]))] G') ∧ HG G' h g s gs' ∧ Ext (2 ^ k) gs gs' ∧ Sl gs' (j + k) n ws ∧ Mor g s G G'
  | 0, G, j, gs, ns, S, bl, hn, hl => by
    match ns, hn with
    | [n], _ =>
      cases bl with
      | cons s1 b1 =>
        cases b1
        refine ⟨n, gs, G, whF_done ?_, S, (Ext.refl gs).le (by simp), by rw [List.append_nil]; exact s1, Mor.refl _ _ _⟩
        simp [F_seal_of_w1c, runF,seqF,iteF',orF,andF,notF,tstF,opF,unF,bd,varF,conF,rt,consF,nilF,fldP,lenP,sq,pk,pkS,blE,ltP,leP,gtP,geP,intP,retF,retN,movF,boxF,bxE,mvE,skipF,dropF,asgF,gNm,ixP,orP,ixS,ixD,getD',subP,addP,addI,mulP,mulI,fdivP,modP,powP,shlP,shrP,negP,callP,vlA,methF,makeP,tupP,lstP,imA,imE,bmF,isLst,append1P,pop0P,fldS,putF',putQ,keyI,keyT,keysI,valI,ifE,isQ,slOk,truE,eqP,neP,eqE,mixI,eqD,flI,eqFl,tpl,newK,newT,one]
  | k + 1, G, j, gs, ns, S, bl, hn, hl => by
    have p0 : 0 < 2 ^ k := Nat.two_pow_pos k
    have hn2 : ns.length = 2 * 2 ^ k := by rw [hn, Nat.pow_succ]; omega
    rw [Nat.pow_succ] at hl
    obtain ⟨ms, g1, G1, e1, S1, x1, b1, lm, o1⟩ := seal_level (v := v) S bl hn2 p0 (by omega)
    have x1l := x1.len
    obtain ⟨n, g2, G2, e2, S2, x2, sl, o2⟩ := seal_wh k S1 b1 lm (by omega)
    refine ⟨n, g2, G2, ?_, S2, (x1.trans x2).le (by rw [Nat.pow_succ]; omega), by rw [show j + (k + 1) = j + 1 + k by omega]; exact sl, o1.trans o2⟩
    rw [whF_next ?_ e1]
    · exact e2
    · have : (1 : Int) < (ns.length : Int) := by omega
      simp [F_seal_of_w1c, runF,seqF,iteF',orF,andF,notF,tstF,opF,unF,bd,varF,conF,rt,consF,nilF,fldP,lenP,sq,pk,pkS,blE,ltP,leP,gtP,geP,intP,retF,retN,movF,boxF,bxE,mvE,skipF,dropF,asgF,gNm,ixP,orP,ixS,ixD,getD',subP,addP,addI,mulP,mulI,fdivP,modP,powP,shlP,shrP,negP,callP,vlA,methF,makeP,tupP,lstP,imA,imE,bmF,isLst,append1P,pop0P,fldS,putF',putQ,keyI,keyT,keysI,valI,ifE,isQ,slOk,truE,eqP,neP,eqE,mixI,eqD,flI,eqFl,tpl,newK,newT,one, this]
theorem seal_of_ok {G : List M} {h g s d : Nat} {gs : List Mk} {ws : List Int} (S : HG G h g s gs) (hw : ws.length = 2 ^ d) (hd : d ≤ 6) (hl : gs.length < 80000) : ∃ n gs' G', F_seal_of [.im (.ref h), .im (.tup (ws.map I.int))] G = some (.im (.int n), G') ∧ HG G' h g s gs' ∧ Ext 128 gs gs' ∧ Sl gs' d n ws ∧ Mor g s G G' := by
  have p6 : (2 : Nat) ^ d ≤ 2 ^ 6 := Nat.pow_le_pow_right (by decide) hd
  have p6 : 2 ^ d ≤ 64 := p6
  obtain ⟨ns, g1, G1, e1, S1, x1, b1, o1⟩ := seal_leaves (ws := ws) S (by omega)
  have x1l := x1.len
  have ln : ns.length = 2 ^ d := by have := b1.len; simp at this; omega
  obtain ⟨n, g2, G2, e2, S2, x2, sl, o2⟩ := seal_wh (v := .tup (ws.map I.int)) d S1 b1 ln (by omega)
  refine ⟨n, g2, G2, ?_, S2, (x1.trans x2).le (by omega), by simpa using sl, o1.mor.trans o2⟩
  have h4 : atI [I.int n] 0 = some (.int n) := rfl
  simp [F_seal_of, runF, seqF, asgF, movF, bd, mvE, rt, gNm, e1, e2, retF, opF, ixP, orP, ixS, sq, pk, varF, conF, h4]
end Q
namespace Q
open PySem L2 B
def look (gs : List Mk) (n : Int) : Option Mk := if n < 1 then none else gs[(n - 1).toNat]?
theorem look_at {gs : List Mk} {n : Int} {m : Mk} (h : At gs n m) : look gs n = some m := by
  obtain ⟨j, rfl, h⟩ := h
  unfold look
  rw [if_neg (by omega), show ((j : Int) + 1 - 1).toNat = j by omega]; exact h
theorem at_look {gs : List Mk} {n : Int} {m : Mk} (h : look gs n = some m) : At gs n m := by
  unfold look at h
  split at h
  · cases h
  · exact ⟨(n - 1).toNat, by omega, h⟩
theorem opened_ok {G : List M} {h g s : Nat} {gs : List Mk} {n : Int} (S : HG G h g s gs) : F_House_opened [.im (.ref h), .im (.int n)] G = some (.im (match look gs n with | some m => m.i | none => .non), G) := by
  cases e : look gs n with
  | some m => exact opened_at S (at_look e)
  | none =>
    refine opened_no S ?_
    unfold look at e
    split at e
    · exact .inl (by assumption)
    · have := List.getElem?_eq_none_iff.mp e
      exact .inr (by omega)
/-- down r steps: the seal there, and those beside, from the top -/
def desc (gs : List Mk) (k : Nat) : Nat → Int → Option (Int × List Int)
  | 0, n => some (n, [])
  | r + 1, n => match look gs n with
    | some (.pair a b) => if k / 2 ^ r % 2 = 0 then (desc gs k r a).map fun p => (p.1, b :: p.2) else (desc gs k r b).map fun p => (p.1, a :: p.2)
    | _ => none
def way (gs : List Mk) (d : Nat) (n : Int) (k : Nat) : Option (Int × List Int) := match desc gs k d n with
  | some (n', ss) => match look gs n' with
    | some (.leaf w) => some (w, ss.reverse)
    | _ => none
  | none => none
def wayI : Option (Int × List Int) → I
  | some (w, ss) => .tup [.int w, .tup (ss.map I.int)]
  | none => .non
theorem b_lp : (("leaf" : Str) == "pair") = false := by decide +kernel
theorem b_pl : (("pair" : Str) == "leaf") = false := by decide +kernel
theorem at0 {α : Type} (x : α) (r : List α) : atI (x :: r) 0 = some x := atI_nat (j := 0) rfl
theorem at1 {α : Type} (x y : α) (r : List α) : atI (x :: y :: r) 1 = some y := atI_nat (j := 1) rfl
theorem at2 {α : Type} (x y z : α) (r : List α) : atI (x :: y :: z :: r) 2 = some z := atI_nat (j := 2) rfl
theorem bit1 (k r : Nat) : Builtin.bitAnd ((k : Int) / 2 ^ r) 1 = ((k / 2 ^ r % 2 : Nat) : Int) := by
  rw [PyProof.Rows.bitAnd_m1]
  push_cast
  rfl
theorem path_turn {G : List M} {h g s : Nat} {gs : List Mk} {n : Int} {sib : List Int} {dp : I} {k r : Nat} {v6 v7 : Option Vl} (S : HG G h g s gs) (hl : sib.length < 1000) :
    F_path_in_w1b [some (.im (.ref h)), some (.im (.int n)), some (.im dp), some (.im (.int k)), some (.ow (.lst (sib.map I.int))), some (.im (.int r)), v6, v7] G =
    match look gs n with
    | some (.pair a b) => some (.nx [some (.im (.ref h)), some (.im (.int (if k / 2 ^ r % 2 = 0 then a else b))), some (.im dp), some (.im (.int k)), some (.ow (.lst ((sib ++ [if k / 2 ^ r % 2 = 0 then b else a]).map I.int))), some (.im (.int r)), some (.im (.tup [.str "pair", .int a, .int b])), some (.im (.int (k / 2 ^ r % 2 : Nat)))] G)
    | _ => some (.rt (.im .non) G) := by
  have e := opened_ok (n := n) S
  cases q : look gs n with
  | none =>
    rw [q] at e
    simp [F_path_in_w1b, runF,seqF,iteF',orF,andF,notF,tstF,opF,unF,bd,varF,conF,rt,consF,nilF,fldP,lenP,sq,pk,pkS,blE,ltP,leP,gtP,geP,intP,retF,retN,movF,boxF,bxE,mvE,skipF,dropF,asgF,gNm,ixP,orP,ixS,ixD,getD',subP,addP,addI,mulP,mulI,fdivP,modP,powP,shlP,shrP,negP,callP,vlA,methF,makeP,tupP,lstP,imA,imE,bmF,isLst,append1P,pop0P,fldS,putF',putQ,keyI,keyT,keysI,valI,ifE,isQ,slOk,truE,eqP,neP,eqE,mixI,eqD,flI,eqFl,tpl,newK,newT,one, S.ob, n_open, e]
  | some m =>
    rw [q] at e
    cases m with
    | leaf w =>
      have e : F_House_opened [.im (.ref h), .im (.int n)] G = some (.im (.tup [.str "leaf", .int w]), G) := e
      simp [F_path_in_w1b, runF,seqF,iteF',orF,andF,notF,tstF,opF,unF,bd,varF,conF,rt,consF,nilF,fldP,lenP,sq,pk,pkS,blE,ltP,leP,gtP,geP,intP,retF,retN,movF,boxF,bxE,mvE,skipF,dropF,asgF,gNm,ixP,orP,ixS,ixD,getD',subP,addP,addI,mulP,mulI,fdivP,modP,powP,shlP,shrP,negP,callP,vlA,methF,makeP,tupP,lstP,imA,imE,bmF,isLst,append1P,pop0P,fldS,putF',putQ,keyI,keyT,keysI,valI,ifE,isQ,slOk,truE,eqP,neP,eqE,mixI,eqD,flI,eqFl,tpl,newK,newT,one, S.ob, n_open, e, at0]
    | pair a b =>
      have e : F_House_opened [.im (.ref h), .im (.int n)] G = some (.im (.tup [.str "pair", .int a, .int b]), G) := e
      have hl' : sib.length < 1000000 := by omega
      have hr0 : (0 : Int) ≤ (r : Int) := by omega
      have bt := bit1 k r
      rcases (show k / 2 ^ r % 2 = 0 ∨ k / 2 ^ r % 2 = 1 by omega) with z | z
      · rw [z] at bt
        simp [F_path_in_w1b, runF,seqF,iteF',orF,andF,notF,tstF,opF,unF,bd,varF,conF,rt,consF,nilF,fldP,lenP,sq,pk,pkS,blE,ltP,leP,gtP,geP,intP,retF,retN,movF,boxF,bxE,mvE,skipF,dropF,asgF,gNm,ixP,orP,ixS,ixD,getD',subP,addP,addI,mulP,mulI,fdivP,modP,powP,shlP,shrP,negP,callP,vlA,methF,makeP,tupP,lstP,imA,imE,bmF,isLst,append1P,pop0P,fldS,putF',putQ,keyI,keyT,keysI,valI,ifE,isQ,slOk,truE,eqP,neP,eqE,mixI,eqD,flI,eqFl,tpl,newK,newT,one, andP, S.ob, n_open, e, at0, at1, at2, b_pl, hr0, bt, z, hl']
      · rw [z] at bt
        simp [F_path_in_w1b, runF,seqF,iteF',orF,andF,notF,tstF,opF,unF,bd,varF,conF,rt,consF,nilF,fldP,lenP,sq,pk,pkS,blE,ltP,leP,gtP,geP,intP,retF,retN,movF,boxF,bxE,mvE,skipF,dropF,asgF,gNm,ixP,orP,ixS,ixD,getD',subP,addP,addI,mulP,mulI,fdivP,modP,powP,shlP,shrP,negP,callP,vlA,methF,makeP,tupP,lstP,imA,imE,bmF,isLst,append1P,pop0P,fldS,putF',putQ,keyI,keyT,keysI,valI,ifE,isQ,slOk,truE,eqP,neP,eqE,mixI,eqD,flI,eqFl,tpl,newK,newT,one, andP, S.ob, n_open, e, at0, at1, at2, b_pl, hr0, bt, z, hl']
def downW (d : Nat) : Wk := ⟨d, fun k _ _ => some (.int ((d : Int) - 1 - k)), fun _ _ => true⟩
theorem path_loop {G : List M} {h g s d : Nat} {gs : List Mk} {dp : I} {k : Nat} (S : HG G h g s gs) (hd : d ≤ 100) : ∀ (r i : Nat) (n : Int) (sib : List Int) (v5 v6 v7 : Option Vl), i + r = d → sib.length ≤ i →
    match desc gs k r n with
    | some (n', ss) => ∃ v5' v6' v7', fTurns (downW d) (gNm 5) F_path_in_w1b i r [some (.im (.ref h)), some (.im (.int n)), some (.im dp), some (.im (.int k)), some (.ow (.lst (sib.map I.int))), v5, v6, v7] G = some (.nx [some (.im (.ref h)), some (.im (.int n')), some (.im dp), some (.im (.int k)), some (.ow (.lst ((sib ++ ss).map I.int))), v5', v6', v7'] G)
    | none => fTurns (downW d) (gNm 5) F_path_in_w1b i r [some (.im (.ref h)), some (.im (.int n)), some (.im dp), some (.im (.int k)), some (.ow (.lst (sib.map I.int))), v5, v6, v7] G = some (.rt (.im .non) G)
  | 0, i, n, sib, v5, v6, v7, h1, h2 => by
    show ∃ _, _
    exact ⟨v5, v6, v7, by unfold fTurns; simp [downW]⟩
  | r + 1, i, n, sib, v5, v6, v7, h1, h2 => by
    have ei : (d : Int) - 1 - i = r := by omega
    have t := path_turn (n := n) (sib := sib) (dp := dp) (k := k) (r := r) (v6 := v6) (v7 := v7) S (by omega)
    have hat : (downW d).at_ i [some (.im (.ref h)), some (.im (.int n)), some (.im dp), some (.im (.int k)), some (.ow (.lst (sib.map I.int))), v5, v6, v7] G = some (.int r) := by simp [downW, ei]
    have hg : gNm 5 (.im (.int r)) [some (.im (.ref h)), some (.im (.int n)), some (.im dp), some (.im (.int k)), some (.ow (.lst (sib.map I.int))), v5, v6, v7] G = some ([some (.im (.ref h)), some (.im (.int n)), some (.im dp), some (.im (.int k)), some (.ow (.lst (sib.map I.int))), some (.im (.int r)), v6, v7], G) := rfl
    unfold desc
    cases q : look gs n with
    | none =>
      rw [q] at t
      dsimp only
      unfold fTurns
      rw [hat]; dsimp only; rw [hg]; dsimp only; rw [t]
    | some m =>
      rw [q] at t
      cases m with
      | leaf w =>
        dsimp only
        unfold fTurns
        rw [hat]; dsimp only; rw [hg]; dsimp only; rw [t]
      | pair a b =>
        dsimp only at t ⊢
        by_cases z : k / 2 ^ r % 2 = 0
        · simp only [z, if_true] at t ⊢
          have ih := path_loop (dp := dp) (k := k) S hd r (i + 1) a (sib ++ [b]) (some (.im (.int r))) (some (.im (.tup [.str "pair", .int a, .int b]))) (some (.im (.int (0 : Nat)))) (by omega) (by rw [List.length_append]; simp; omega)
          cases e : desc gs k r a with
          | none =>
            rw [e] at ih
            show _ = _
            unfold fTurns
            rw [hat]; dsimp only; rw [hg]; dsimp only; rw [t]
            exact ih
          | some p =>
            rw [e] at ih
            obtain ⟨n', ss⟩ := p
            obtain ⟨w5, w6, w7, ih⟩ := ih
            refine ⟨w5, w6, w7, ?_⟩
            unfold fTurns
            rw [hat]; dsimp only; rw [hg]; dsimp only; rw [t]
            have : sib ++ [b] ++ ss = sib ++ b :: ss := by simp
            rw [this] at ih
            exact ih
        · simp only [z, if_false] at t ⊢
          have ih := path_loop (dp := dp) (k := k) S hd r (i + 1) b (sib ++ [a]) (some (.im (.int r))) (some (.im (.tup [.str "pair", .int a, .int b]))) (some (.im (.int (k / 2 ^ r % 2 : Nat)))) (by omega) (by rw [List.length_append]; simp; omega)
          cases e : desc gs k r b with
          | none =>
            rw [e] at ih
            show _ = _
            unfold fTurns
            rw [hat]; dsimp only; rw [hg]; dsimp only; rw [t]
            exact ih
          | some p =>
            rw [e] at ih
            obtain ⟨n', ss⟩ := p
            obtain ⟨w5, w6, w7, ih⟩ := ih
            refine ⟨w5, w6, w7, ?_⟩
            unfold fTurns
            rw [hat]; dsimp only; rw [hg]; dsimp only; rw [t]
            have : sib ++ [a] ++ ss = sib ++ a :: ss := by simp
            rw [this] at ih
            exact ih
theorem path_ok {G : List M} {h g s d : Nat} {gs : List Mk} {k : Nat} {n : Int} (S : HG G h g s gs) (hd : d ≤ 100) : F_path_in [.im (.ref h), .im (.int n), .im (.int d), .im (.int k)] G = some (.im (wayI (way gs d n k)), G) := by
  have lp := path_loop (dp := .int d) (k := k) S hd d 0 n [] none none none (by omega) (by simp)
  have b1 : (d : Int) - 1 < 4611686018427387904 := by omega
  have b2 : -4611686018427387904 ≤ (d : Int) - 1 := by omega
  have e0 : ((d : Int) - 1 - -1).toNat = d := by omega
  have ew : (⟨d, fun k _ _ => some (.int ((d : Int) - 1 - k)), fun _ _ => true⟩ : Wk) = downW d := rfl
  unfold way
  cases e : desc gs k d n with
  | none =>
    rw [e] at lp
    have lp : fTurns (downW d) (gNm 5) F_path_in_w1b 0 d [some (.im (.ref h)), some (.im (.int n)), some (.im (.int d)), some (.im (.int k)), some (.ow (.lst [])), none, none, none] G = some (.rt (.im .non) G) := lp
    have hn : (downW d).n = d := rfl
    simp [F_path_in, runF,seqF,iteF',orF,andF,notF,tstF,opF,unF,bd,varF,conF,rt,consF,nilF,fldP,lenP,sq,pk,pkS,blE,ltP,leP,gtP,geP,intP,retF,retN,movF,boxF,bxE,mvE,skipF,dropF,asgF,gNm,ixP,orP,ixS,ixD,getD',subP,addP,addI,mulP,mulI,fdivP,modP,powP,shlP,shrP,negP,callP,vlA,methF,makeP,tupP,lstP,imA,imE,bmF,isLst,append1P,pop0P,fldS,putF',putQ,keyI,keyT,keysI,valI,ifE,isQ,slOk,truE,eqP,neP,eqE,mixI,eqD,flI,eqFl,tpl,newK,newT,one, forF, itF, rng3P, b1, b2, e0, ew, hn, lp, wayI]
  | some p =>
    obtain ⟨n', ss⟩ := p
    rw [e] at lp
    obtain ⟨v5, v6, v7, lp⟩ := lp
    have lp : fTurns (downW d) (gNm 5) F_path_in_w1b 0 d [some (.im (.ref h)), some (.im (.int n)), some (.im (.int d)), some (.im (.int k)), some (.ow (.lst [])), none, none, none] G = some (.nx [some (.im (.ref h)), some (.im (.int n')), some (.im (.int d)), some (.im (.int k)), some (.ow (.lst (ss.map I.int))), v5, v6, v7] G) := lp
    have hn : (downW d).n = d := rfl
    have op := opened_ok (n := n') S
    cases q : look gs n' with
    | none =>
      rw [q] at op
      simp [F_path_in, runF,seqF,iteF',orF,andF,notF,tstF,opF,unF,bd,varF,conF,rt,consF,nilF,fldP,lenP,sq,pk,pkS,blE,ltP,leP,gtP,geP,intP,retF,retN,movF,boxF,bxE,mvE,skipF,dropF,asgF,gNm,ixP,orP,ixS,ixD,getD',subP,addP,addI,mulP,mulI,fdivP,modP,powP,shlP,shrP,negP,callP,vlA,methF,makeP,tupP,lstP,imA,imE,bmF,isLst,append1P,pop0P,fldS,putF',putQ,keyI,keyT,keysI,valI,ifE,isQ,slOk,truE,eqP,neP,eqE,mixI,eqD,flI,eqFl,tpl,newK,newT,one, forF, itF, rng3P, b1, b2, e0, ew, hn, lp, wayI, q, S.ob, n_open, op]
    | some m =>
      rw [q] at op
      cases m with
      | pair a b =>
        have op : F_House_opened [.im (.ref h), .im (.int n')] G = some (.im (.tup [.str "pair", .int a, .int b]), G) := op
        simp [F_path_in, runF,seqF,iteF',orF,andF,notF,tstF,opF,unF,bd,varF,conF,rt,consF,nilF,fldP,lenP,sq,pk,pkS,blE,ltP,leP,gtP,geP,intP,retF,retN,movF,boxF,bxE,mvE,skipF,dropF,asgF,gNm,ixP,orP,ixS,ixD,getD',subP,addP,addI,mulP,mulI,fdivP,modP,powP,shlP,shrP,negP,callP,vlA,methF,makeP,tupP,lstP,imA,imE,bmF,isLst,append1P,pop0P,fldS,putF',putQ,keyI,keyT,keysI,valI,ifE,isQ,slOk,truE,eqP,neP,eqE,mixI,eqD,flI,eqFl,tpl,newK,newT,one, forF, itF, rng3P, b1, b2, e0, ew, hn, lp, wayI, q, S.ob, n_open, op, at0]
      | leaf w =>
        have op : F_House_opened [.im (.ref h), .im (.int n')] G = some (.im (.tup [.str "leaf", .int w]), G) := op
        simp [F_path_in, runF,seqF,iteF',orF,andF,notF,tstF,opF,unF,bd,varF,conF,rt,consF,nilF,fldP,lenP,sq,pk,pkS,blE,ltP,leP,gtP,geP,intP,retF,retN,movF,boxF,bxE,mvE,skipF,dropF,asgF,gNm,ixP,orP,ixS,ixD,getD',subP,addP,addI,mulP,mulI,fdivP,modP,powP,shlP,shrP,negP,callP,vlA,methF,makeP,tupP,lstP,imA,imE,bmF,isLst,append1P,pop0P,fldS,putF',putQ,keyI,keyT,keysI,valI,ifE,isQ,slOk,truE,eqP,neP,eqE,mixI,eqD,flI,eqFl,tpl,newK,newT,one, forF, itF, rng3P, b1, b2, e0, ew, hn, lp, wayI, q, S.ob, n_open, op, at0, at1, b_lp, revP, notT, tupleP]
end Q
namespace Q
open PySem L2 B
theorem cut_lo {xs : List I} {m : Nat} : cutI xs none (some (m : Int)) = xs.take m := by
  unfold cutI
  rw [HT.sIx_none, HT.sIx_nat, List.drop_zero, Nat.sub_zero]
  by_cases h : m ≤ xs.length
  · rw [Nat.min_eq_left h]
  · rw [Nat.min_eq_right (by omega), List.take_of_length_le (Nat.le_refl _), List.take_of_length_le (by omega)]
theorem cut_hi {xs : List I} {m : Nat} (h : m ≤ xs.length) : cutI xs (some (m : Int)) none = xs.drop m := by
  unfold cutI
  rw [HT.sIx_none, HT.sIx_nat, Nat.min_eq_left h]
  rw [List.take_of_length_le (by rw [List.length_drop]; omega)]
theorem cut_mid {xs : List I} {m k : Nat} (h : m + k ≤ xs.length) : cutI xs (some (m : Int)) (some ((m + k : Nat) : Int)) = (xs.drop m).take k := by
  unfold cutI
  rw [HT.sIx_nat, HT.sIx_nat, Nat.min_eq_left h, Nat.min_eq_left (by omega)]
  congr 1; omega
theorem DG.lt {d l : Nat} {G : List M} (D : DG G d l) : d < G.length ∧ l < G.length := by
  obtain ⟨a, n, ms, D⟩ := D
  exact ⟨(List.getElem?_eq_some_iff.mp D.dc).1, (List.getElem?_eq_some_iff.mp D.lc).1⟩
theorem DG.app {d l : Nat} {G : List M} (D : DG G d l) (T : List M) : DG (G ++ T) d l := by
  obtain ⟨l1, l2⟩ := D.lt
  obtain ⟨a, n, ms, D⟩ := D
  exact ⟨a, n, ms, by rw [List.getElem?_append_left l1]; exact D.dc, by rw [List.getElem?_append_left l2]; exact D.lc, D.ne, D.a0, D.a1, D.n0, D.m0⟩
theorem word_ok {G : List M} {d l : Nat} (D : DG G d l) : ∃ w G', F__law_word [.im (.ref d)] G = some (.im (.int w), G') ∧ DG G' d l ∧ Oth d l G G' := by
  obtain ⟨r1, G1, e1, _, _, D1, o1⟩ := draw_ok (many := 3) D (by decide) (by decide)
  obtain ⟨r2, G2, e2, _, _, D2, o2⟩ := draw_ok (many := 3) D1 (by decide) (by decide)
  obtain ⟨r3, G3, e3, _, _, D3, o3⟩ := draw_ok (many := 4294967296) D2 (by decide) (by decide)
  obtain ⟨r4, G4, e4, p0, p1, D4, o4⟩ := draw_ok (many := 3) D3 (by decide) (by decide)
  have o := ((o1.trans o2).trans o3).trans o4
  rcases (show r4 = 0 ∨ r4 = 1 ∨ r4 = 2 by omega) with z | z | z
  · subst z
    exact ⟨r1, G4, by simp [F__law_word, runF,seqF,iteF',orF,andF,notF,tstF,opF,unF,bd,varF,conF,rt,consF,nilF,fldP,lenP,sq,pk,pkS,blE,ltP,leP,gtP,geP,intP,retF,retN,movF,boxF,bxE,mvE,skipF,dropF,asgF,gNm,ixP,orP,ixS,ixD,getD',subP,addP,addI,mulP,mulI,fdivP,modP,powP,shlP,shrP,negP,callP,vlA,methF,makeP,tupP,lstP,imA,imE,bmF,isLst,append1P,pop0P,fldS,putF',putQ,keyI,keyT,keysI,valI,ifE,isQ,slOk,truE,eqP,neP,eqE,mixI,eqD,flI,eqFl,tpl,newK,newT,one, e1, e2, e3, e4, at0], D4, o⟩
  · subst z
    exact ⟨_, G4, by simp [F__law_word, runF,seqF,iteF',orF,andF,notF,tstF,opF,unF,bd,varF,conF,rt,consF,nilF,fldP,lenP,sq,pk,pkS,blE,ltP,leP,gtP,geP,intP,retF,retN,movF,boxF,bxE,mvE,skipF,dropF,asgF,gNm,ixP,orP,ixS,ixD,getD',subP,addP,addI,mulP,mulI,fdivP,modP,powP,shlP,shrP,negP,callP,vlA,methF,makeP,tupP,lstP,imA,imE,bmF,isLst,append1P,pop0P,fldS,putF',putQ,keyI,keyT,keysI,valI,ifE,isQ,slOk,truE,eqP,neP,eqE,mixI,eqD,flI,eqFl,tpl,newK,newT,one, e1, e2, e3, e4, at1]; rfl, D4, o⟩
  · subst z
    exact ⟨r3, G4, by simp [F__law_word, runF,seqF,iteF',orF,andF,notF,tstF,opF,unF,bd,varF,conF,rt,consF,nilF,fldP,lenP,sq,pk,pkS,blE,ltP,leP,gtP,geP,intP,retF,retN,movF,boxF,bxE,mvE,skipF,dropF,asgF,gNm,ixP,orP,ixS,ixD,getD',subP,addP,addI,mulP,mulI,fdivP,modP,powP,shlP,shrP,negP,callP,vlA,methF,makeP,tupP,lstP,imA,imE,bmF,isLst,append1P,pop0P,fldS,putF',putQ,keyI,keyT,keysI,valI,ifE,isQ,slOk,truE,eqP,neP,eqE,mixI,eqD,flI,eqFl,tpl,newK,newT,one, e1, e2, e3, e4, at2], D4, o⟩
theorem row_few {G : List M} {d l : Nat} {n : Nat} {δ : De} (D : DG G d l) : ∃ (fs : List Int) (G' : List M), cTurns (upW n) c1 yesF (bd (consF (varF 1) nilF) (callP 1 F__law_word)) [some (.im (.ref d))] 0 n [] δ G = some (fs.map I.int, G') ∧ fs.length = n ∧ DG G' d l ∧ Oth d l G G' := by
  obtain ⟨ds, G', e, fs, ed, lf, D', o⟩ := cT_inv (w := upW n) (c := c1) (tt := yesF) (te := bd (consF (varF 1) nilF) (callP 1 F__law_word)) (di := [some (.im (.ref d))]) (δ := δ)
    (fun i acc G' => ∃ fs : List Int, acc = fs.map I.int ∧ fs.length = i ∧ DG G' d l ∧ Oth d l G G')
    (fun i acc G1 hi ⟨fs, ea, lf, D1, o⟩ => by
      obtain ⟨w, G2, e2, D2, o2⟩ := word_ok D1
      refine ⟨.int i, [.int i], _, _, .int w, [some (.im (.int i)), some (.im (.ref d))], G2, rfl, rfl, rfl, ?_, fs ++ [w], by rw [ea, List.map_append]; rfl, by rw [List.length_append, lf]; rfl, D2, o.trans o2⟩
      simp [runF,seqF,iteF',orF,andF,notF,tstF,opF,unF,bd,varF,conF,rt,consF,nilF,fldP,lenP,sq,pk,pkS,blE,ltP,leP,gtP,geP,intP,retF,retN,movF,boxF,bxE,mvE,skipF,dropF,asgF,gNm,ixP,orP,ixS,ixD,getD',subP,addP,addI,mulP,mulI,fdivP,modP,powP,shlP,shrP,negP,callP,vlA,methF,makeP,tupP,lstP,imA,imE,bmF,isLst,append1P,pop0P,fldS,putF',putQ,keyI,keyT,keysI,valI,ifE,isQ,slOk,truE,eqP,neP,eqE,mixI,eqD,flI,eqFl,tpl,newK,newT,one, e2])
    (fun _ _ _ => rfl) n 0 [] G (by simp [upW]) ⟨[], rfl, rfl, D, Oth.refl _ _ _⟩
  exact ⟨fs, G', by rw [ed] at e; exact e, lf, D', o⟩
theorem row_found {G : List M} {d l f : Nat} {n : Nat} {δ : De} {few : List Int} (D : DG G d l) (hf : G[f]? = some (.lst (few.map I.int))) (h0 : 0 < few.length) (h1 : few.length ≤ 1000) (nd : f ≠ d) (nl : f ≠ l) : ∃ (fs : List Int) (G' : List M), cTurns (upW n) c1 yesF (opF ixP (varF 1) (bd (consF (varF 2) (consF (bd (consF (varF 1) nilF) lenP) nilF)) (callP 2 F__law_draw))) [some (.im (.ref f)), some (.im (.ref d))] 0 n [] δ G = some (fs.map I.int, G') ∧ fs.length = n ∧ DG G' d l ∧ Oth d l G G' := by
  obtain ⟨ds, G', e, fs, ed, lf, D', o⟩ := cT_inv (w := upW n) (c := c1) (tt := yesF) (te := opF ixP (varF 1) (bd (consF (varF 2) (consF (bd (consF (varF 1) nilF) lenP) nilF)) (callP 2 F__law_draw))) (di := [some (.im (.ref f)), some (.im (.ref d))]) (δ := δ)
    (fun i acc G' => ∃ fs : List Int, acc = fs.map I.int ∧ fs.length = i ∧ DG G' d l ∧ Oth d l G G')
    (fun i acc G1 hi ⟨fs, ea, lf, D1, o⟩ => by
      obtain ⟨r, G2, e2, r0, r1, D2, o2⟩ := draw_ok (many := few.length) D1 (by omega) (Int.lt_of_le_of_lt (Int.ofNat_le.mpr h1) (by decide))
      have f1 : G1[f]? = some (.lst (few.map I.int)) := by rw [o.at_ f nd nl]; exact hf
      have f2 : G2[f]? = some (.lst (few.map I.int)) := by rw [o2.at_ f nd nl]; exact f1
      obtain ⟨j, rfl⟩ := Int.eq_ofNat_of_zero_le r0
      have hj : j < few.length := by omega
      have ha : atI (few.map I.int) (j : Int) = some (.int few[j]) := atI_nat (by rw [List.getElem?_map, List.getElem?_eq_getElem hj]; rfl)
      refine ⟨.int i, [.int i], _, _, .int few[j], [some (.im (.int i)), some (.im (.ref f)), some (.im (.ref d))], G2, rfl, rfl, rfl, ?_, fs ++ [few[j]], by rw [ea, List.map_append]; rfl, by rw [List.length_append, lf]; rfl, D2, o.trans o2⟩
      simp [runF,seqF,iteF',orF,andF,notF,tstF,opF,unF,bd,varF,conF,rt,consF,nilF,fldP,lenP,sq,pk,pkS,blE,ltP,leP,gtP,geP,intP,retF,retN,movF,boxF,bxE,mvE,skipF,dropF,asgF,gNm,ixP,orP,ixS,ixD,getD',subP,addP,addI,mulP,mulI,fdivP,modP,powP,shlP,shrP,negP,callP,vlA,methF,makeP,tupP,lstP,imA,imE,bmF,isLst,append1P,pop0P,fldS,putF',putQ,keyI,keyT,keysI,valI,ifE,isQ,slOk,truE,eqP,neP,eqE,mixI,eqD,flI,eqFl,tpl,newK,newT,one, f1, f2, e2, ha])
    (fun _ _ _ => rfl) n 0 [] G (by simp [upW]) ⟨[], rfl, rfl, D, Oth.refl _ _ _⟩
  exact ⟨fs, G', by rw [ed] at e; exact e, lf, D', o⟩
theorem row_form {G : List M} {f : Nat} {n : Nat} {δ : De} {few : List Int} {w0 : Int} (hf : G[f]? = some (.lst (few.map I.int))) (h0 : few[0]? = some w0) : ∃ fs : List Int, cTurns (upW n) c1 yesF (opF modP (opF addP (opF ixP (varF 1) (conF (.int 0))) (opF mulP (conF (.int 5)) (varF 0))) (conF (.int 4294967296))) [some (.im (.ref f))] 0 n [] δ G = some (fs.map I.int, G) ∧ fs.length = n := by
  obtain ⟨ds, G', e, fs, ed, lf, eg⟩ := cT_inv (w := upW n) (c := c1) (tt := yesF) (te := opF modP (opF addP (opF ixP (varF 1) (conF (.int 0))) (opF mulP (conF (.int 5)) (varF 0))) (conF (.int 4294967296))) (di := [some (.im (.ref f))]) (δ := δ)
    (fun i acc G' => ∃ fs : List Int, acc = fs.map I.int ∧ fs.length = i ∧ G' = G)
    (fun i acc G1 hi ⟨fs, ea, lf, o⟩ => by
      subst o
      have ha : atI (few.map I.int) 0 = some (.int w0) := atI_nat (j := 0) (by rw [List.getElem?_map, h0]; rfl)
      refine ⟨.int i, [.int i], _, _, .int ((w0 + 5 * i) % 4294967296), [some (.im (.int i)), some (.im (.ref f))], G1, rfl, rfl, rfl, ?_, fs ++ [(w0 + 5 * i) % 4294967296], by rw [ea, List.map_append]; rfl, by rw [List.length_append, lf]; rfl, rfl⟩
      simp [runF,seqF,iteF',orF,andF,notF,tstF,opF,unF,bd,varF,conF,rt,consF,nilF,fldP,lenP,sq,pk,pkS,blE,ltP,leP,gtP,geP,intP,retF,retN,movF,boxF,bxE,mvE,skipF,dropF,asgF,gNm,ixP,orP,ixS,ixD,getD',subP,addP,addI,mulP,mulI,fdivP,modP,powP,shlP,shrP,negP,callP,vlA,methF,makeP,tupP,lstP,imA,imE,bmF,isLst,append1P,pop0P,fldS,putF',putQ,keyI,keyT,keysI,valI,ifE,isQ,slOk,truE,eqP,neP,eqE,mixI,eqD,flI,eqFl,tpl,newK,newT,one, hf, ha])
    (fun _ _ _ => rfl) n 0 [] G (by simp [upW]) ⟨[], rfl, rfl, rfl⟩
  exact ⟨fs, by rw [ed, eg] at e; exact e, lf⟩
theorem row_ok {G : List M} {d l dp : Nat} (D : DG G d l) (hd : dp ≤ 6) : ∃ (ws : List Int) (G' : List M), F__law_row [.im (.ref d), .im (.int dp)] G = some (.im (.tup (ws.map I.int)), G') ∧ ws.length = 2 ^ dp ∧ DG G' d l ∧ Mor d l G G' := by
  obtain ⟨N, hN⟩ : ∃ N, 2 ^ dp = N := ⟨_, rfl⟩
  obtain ⟨r0, G0, e0, z0, z1, D0, o0⟩ := draw_ok (many := 4) D (by decide) (by decide)
  obtain ⟨c, rfl⟩ := Int.eq_ofNat_of_zero_le z0
  obtain ⟨few, G1, e1, lf, D1, o1⟩ := row_few (n := 1 + c) (δ := [some (.im (.ref d)), some (.im (.int dp)), none, none, none]) D0
  obtain ⟨k1, k2⟩ := D1.lt
  have hf : (G1 ++ [.lst (few.map I.int)])[G1.length]? = some (.lst (few.map I.int)) := by simp
  obtain ⟨fs, G2, e2, l2, D2, o2⟩ := row_found (n := N) (δ := [some (.im (.ref d)), some (.im (.int dp)), some (.im (.ref G1.length)), none, none]) (D1.app [.lst (few.map I.int)]) hf (by omega) (by omega) (by omega) (by omega)
  obtain ⟨r3, G3, e3, y0, y1, D3, o3⟩ := draw_ok (many := 4) D2 (by decide) (by decide)
  have o : Mor d l G G3 := ((o0.trans o1).mor.trans (Mor.app _)).trans (o2.trans o3).mor
  have hf3 : G3[G1.length]? = some (.lst (few.map I.int)) := by rw [(o2.trans o3).at_ _ (by omega) (by omega)]; exact hf
  have p6 : (2 : Nat) ^ dp ≤ 2 ^ 6 := Nat.pow_le_pow_right (by decide) hd
  have p6 : 2 ^ dp ≤ 64 := p6
  rw [hN] at p6 ⊢
  have q1 : (2 : Int) ^ dp = (N : Int) := by rw [← hN]; push_cast; rfl
  have q5 : (dp : Int) ≤ 1000000 := by omega
  have sh : ∀ (δ : De) (G : List M), opF shlP (conF (.int 1)) (varF 1) (some (.im (.ref d)) :: some (.im (.int dp)) :: δ) G = some (.v (.im (.int (N : Int))), some (.im (.ref d)) :: some (.im (.int dp)) :: δ, G) := fun δ G => by
    simp [runF,seqF,iteF',orF,andF,notF,tstF,opF,unF,bd,varF,conF,rt,consF,nilF,fldP,lenP,sq,pk,pkS,blE,ltP,leP,gtP,geP,intP,retF,retN,movF,boxF,bxE,mvE,skipF,dropF,asgF,gNm,ixP,orP,ixS,ixD,getD',subP,addP,addI,mulP,mulI,fdivP,modP,powP,shlP,shrP,negP,callP,vlA,methF,makeP,tupP,lstP,imA,imE,bmF,isLst,append1P,pop0P,fldS,putF',putQ,keyI,keyT,keysI,valI,ifE,isQ,slOk,truE,eqP,neP,eqE,mixI,eqD,flI,eqFl,tpl,newK,newT,one, q5, q1]
  have go : ∀ (fs' : List Int), fs'.length = N → (iteF' (andF (tstF (opF gtP (varF 1) (conF (.int 0)))) (tstF (opF eqP (varF 4) (conF (.int 0)))))
      (asgF (opF mulP (sliF (varF 3) noPt (somePt (opF fdivP (opF shlP (conF (.int 1)) (varF 1)) (conF (.int 2))))) (conF (.int 2))) (gNm 3)) skipF) [some (.im (.ref d)), some (.im (.int dp)), some (.im (.ref G1.length)), some (.ow (.lst (fs.map I.int))), some (.im (.int r3))] G3 = some (.nx [some (.im (.ref d)), some (.im (.int dp)), some (.im (.ref G1.length)), some (.ow (.lst (fs'.map I.int))), some (.im (.int r3))] G3) → ∃ (ws : List Int) (G' : List M), F__law_row [.im (.ref d), .im (.int dp)] G = some (.im (.tup (ws.map I.int)), G') ∧ ws.length = N ∧ DG G' d l ∧ Mor d l G G' := fun fs' lfs' hfs => by
    have head : ∀ (ws : List Int), seqF (iteF' (tstF (opF eqP (varF 4) (conF (.int 1))))
        (asgF (compF (itF (consF (opF shlP (conF (.int 1)) (varF 1)) nilF) rng1P) [2] c1 yesF (opF modP (opF addP (opF ixP (varF 1) (conF (.int 0))) (opF mulP (conF (.int 5)) (varF 0))) (conF (.int 4294967296)))) (gNm 3))
        skipF)
        (retF (bd (consF (varF 3) nilF) tupleP)) [some (.im (.ref d)), some (.im (.int dp)), some (.im (.ref G1.length)), some (.ow (.lst (fs'.map I.int))), some (.im (.int r3))] G3 = some (.rt (.im (.tup (ws.map I.int))) G3) → F__law_row [.im (.ref d), .im (.int dp)] G = some (.im (.tup (ws.map I.int)), G3) := fun ws hw => by
      refine run_rt rfl ?_
      refine seq_go (asg_go (comp_go (δ0 := [some (.im (.ref d)), some (.im (.int dp)), none, none, none]) (by rfl) (rng_it (n := 1 + c) (j := 1 + (c : Int)) (δ1 := [some (.im (.ref d)), some (.im (.int dp)), none, none, none]) (G1 := G0) ?_ (by omega) (by omega)) (by rw [upW_n]; omega) e1) rfl) ?_
      · simp [runF,seqF,iteF',orF,andF,notF,tstF,opF,unF,bd,varF,conF,rt,consF,nilF,fldP,lenP,sq,pk,pkS,blE,ltP,leP,gtP,geP,intP,retF,retN,movF,boxF,bxE,mvE,skipF,dropF,asgF,gNm,ixP,orP,ixS,ixD,getD',subP,addP,addI,mulP,mulI,fdivP,modP,powP,shlP,shrP,negP,callP,vlA,methF,makeP,tupP,lstP,imA,imE,bmF,isLst,append1P,pop0P,fldS,putF',putQ,keyI,keyT,keysI,valI,ifE,isQ,slOk,truE,eqP,neP,eqE,mixI,eqD,flI,eqFl,tpl,newK,newT,one, e0]
      refine seq_go (asg_go (comp_go (δ0 := [some (.im (.ref d)), some (.im (.int dp)), some (.im (.ref G1.length)), none, none]) (by rfl) (rng_it (n := N) (j := (N : Int)) (δ1 := [some (.im (.ref d)), some (.im (.int dp)), some (.im (.ref G1.length)), none, none]) (G1 := G1 ++ [M.lst (few.map I.int)]) ?_ rfl (by omega)) (by rw [upW_n]; omega) e2) rfl) ?_
      · exact bd_go (sh _ _) rfl
      refine seq_go (asg_go (x := .im (.int r3)) (δ1 := [some (.im (.ref d)), some (.im (.int dp)), some (.im (.ref G1.length)), some (.ow (.lst (fs.map I.int))), none]) (G1 := G3) ?_ rfl) ?_
      · simp [runF,seqF,iteF',orF,andF,notF,tstF,opF,unF,bd,varF,conF,rt,consF,nilF,fldP,lenP,sq,pk,pkS,blE,ltP,leP,gtP,geP,intP,retF,retN,movF,boxF,bxE,mvE,skipF,dropF,asgF,gNm,ixP,orP,ixS,ixD,getD',subP,addP,addI,mulP,mulI,fdivP,modP,powP,shlP,shrP,negP,callP,vlA,methF,makeP,tupP,lstP,imA,imE,bmF,isLst,append1P,pop0P,fldS,putF',putQ,keyI,keyT,keysI,valI,ifE,isQ,slOk,truE,eqP,neP,eqE,mixI,eqD,flI,eqFl,tpl,newK,newT,one, e3]
      exact seq_go hfs hw
    by_cases f1 : r3 = 1
    · obtain ⟨w0, hw0⟩ : ∃ w0, few[0]? = some w0 := ⟨_, List.getElem?_eq_getElem (by omega)⟩
      obtain ⟨gs, e4, l4⟩ := row_form (n := N) (δ := [some (.im (.ref d)), some (.im (.int dp)), some (.im (.ref G1.length)), some (.ow (.lst (fs'.map I.int))), some (.im (.int r3))]) hf3 hw0
      refine ⟨gs, G3, head gs ?_, l4, D3, o⟩
      refine seq_go (ite_t (δ1 := [some (.im (.ref d)), some (.im (.int dp)), some (.im (.ref G1.length)), some (.ow (.lst (fs'.map I.int))), some (.im (.int r3))]) (G1 := G3) (by simp [runF,seqF,iteF',orF,andF,notF,tstF,opF,unF,bd,varF,conF,rt,consF,nilF,fldP,lenP,sq,pk,pkS,blE,ltP,leP,gtP,geP,intP,retF,retN,movF,boxF,bxE,mvE,skipF,dropF,asgF,gNm,ixP,orP,ixS,ixD,getD',subP,addP,addI,mulP,mulI,fdivP,modP,powP,shlP,shrP,negP,callP,vlA,methF,makeP,tupP,lstP,imA,imE,bmF,isLst,append1P,pop0P,fldS,putF',putQ,keyI,keyT,keysI,valI,ifE,isQ,slOk,truE,eqP,neP,eqE,mixI,eqD,flI,eqFl,tpl,newK,newT,one, f1]) (asg_go (comp_go (δ0 := [some (.im (.ref d)), some (.im (.int dp)), some (.im (.ref G1.length)), some (.ow (.lst (fs'.map I.int))), some (.im (.int r3))]) (by rfl) (rng_it (n := N) (j := (N : Int)) (bd_go (sh _ _) rfl) rfl (by omega)) (by rw [upW_n]; omega) e4) rfl)) ?_
      simp [runF,seqF,iteF',orF,andF,notF,tstF,opF,unF,bd,varF,conF,rt,consF,nilF,fldP,lenP,sq,pk,pkS,blE,ltP,leP,gtP,geP,intP,retF,retN,movF,boxF,bxE,mvE,skipF,dropF,asgF,gNm,ixP,orP,ixS,ixD,getD',subP,addP,addI,mulP,mulI,fdivP,modP,powP,shlP,shrP,negP,callP,vlA,methF,makeP,tupP,lstP,imA,imE,bmF,isLst,append1P,pop0P,fldS,putF',putQ,keyI,keyT,keysI,valI,ifE,isQ,slOk,truE,eqP,neP,eqE,mixI,eqD,flI,eqFl,tpl,newK,newT,one, tupleP]
    · refine ⟨fs', G3, head fs' ?_, lfs', D3, o⟩
      refine seq_go (ite_f (δ1 := [some (.im (.ref d)), some (.im (.int dp)), some (.im (.ref G1.length)), some (.ow (.lst (fs'.map I.int))), some (.im (.int r3))]) (G1 := G3) (by simp [runF,seqF,iteF',orF,andF,notF,tstF,opF,unF,bd,varF,conF,rt,consF,nilF,fldP,lenP,sq,pk,pkS,blE,ltP,leP,gtP,geP,intP,retF,retN,movF,boxF,bxE,mvE,skipF,dropF,asgF,gNm,ixP,orP,ixS,ixD,getD',subP,addP,addI,mulP,mulI,fdivP,modP,powP,shlP,shrP,negP,callP,vlA,methF,makeP,tupP,lstP,imA,imE,bmF,isLst,append1P,pop0P,fldS,putF',putQ,keyI,keyT,keysI,valI,ifE,isQ,slOk,truE,eqP,neP,eqE,mixI,eqD,flI,eqFl,tpl,newK,newT,one, f1]) rfl) ?_
      simp [runF,seqF,iteF',orF,andF,notF,tstF,opF,unF,bd,varF,conF,rt,consF,nilF,fldP,lenP,sq,pk,pkS,blE,ltP,leP,gtP,geP,intP,retF,retN,movF,boxF,bxE,mvE,skipF,dropF,asgF,gNm,ixP,orP,ixS,ixD,getD',subP,addP,addI,mulP,mulI,fdivP,modP,powP,shlP,shrP,negP,callP,vlA,methF,makeP,tupP,lstP,imA,imE,bmF,isLst,append1P,pop0P,fldS,putF',putQ,keyI,keyT,keysI,valI,ifE,isQ,slOk,truE,eqP,neP,eqE,mixI,eqD,flI,eqFl,tpl,newK,newT,one, tupleP]
  by_cases f0 : (0 < dp ∧ r3 = 0)
  · obtain ⟨f0, rfl⟩ := f0
    obtain ⟨q, hq⟩ : ∃ q, N = 2 * q := ⟨2 ^ (dp - 1), by rw [← hN]; rw [show dp = (dp - 1) + 1 by omega, Nat.pow_succ]; simp; omega⟩
    have hc : cutI (fs.map I.int) none (some ((q : Int))) = (fs.take q).map I.int := by rw [cut_lo, List.map_take]
    refine go (fs.take q ++ fs.take q) (by rw [List.length_append, List.length_take, l2]; omega) ?_
    refine ite_t (δ1 := [some (.im (.ref d)), some (.im (.int dp)), some (.im (.ref G1.length)), some (.ow (.lst (fs.map I.int))), some (.im (.int 0))]) (G1 := G3) (by simp [runF,seqF,iteF',orF,andF,notF,tstF,opF,unF,bd,varF,conF,rt,consF,nilF,fldP,lenP,sq,pk,pkS,blE,ltP,leP,gtP,geP,intP,retF,retN,movF,boxF,bxE,mvE,skipF,dropF,asgF,gNm,ixP,orP,ixS,ixD,getD',subP,addP,addI,mulP,mulI,fdivP,modP,powP,shlP,shrP,negP,callP,vlA,methF,makeP,tupP,lstP,imA,imE,bmF,isLst,append1P,pop0P,fldS,putF',putQ,keyI,keyT,keysI,valI,ifE,isQ,slOk,truE,eqP,neP,eqE,mixI,eqD,flI,eqFl,tpl,newK,newT,one, f0]) ?_
    refine asg_go (δ1 := [some (.im (.ref d)), some (.im (.int dp)), some (.im (.ref G1.length)), some (.ow (.lst (fs.map I.int))), some (.im (.int 0))]) (G1 := G3) (x := .ow (.lst ((fs.take q ++ fs.take q).map I.int))) ?_ rfl
    have hl : min q fs.length ≤ 1000 := by omega
    refine op_go (x := .v (.ow (.lst ((fs.take q).map I.int)))) (δ1 := [some (.im (.ref d)), some (.im (.int dp)), some (.im (.ref G1.length)), some (.ow (.lst (fs.map I.int))), some (.im (.int 0))]) (G1 := G3) ?_ rfl (by simp [runF,seqF,iteF',orF,andF,notF,tstF,opF,unF,bd,varF,conF,rt,consF,nilF,fldP,lenP,sq,pk,pkS,blE,ltP,leP,gtP,geP,intP,retF,retN,movF,boxF,bxE,mvE,skipF,dropF,asgF,gNm,ixP,orP,ixS,ixD,getD',subP,addP,addI,mulP,mulI,fdivP,modP,powP,shlP,shrP,negP,callP,vlA,methF,makeP,tupP,lstP,imA,imE,bmF,isLst,append1P,pop0P,fldS,putF',putQ,keyI,keyT,keysI,valI,ifE,isQ,slOk,truE,eqP,neP,eqE,mixI,eqD,flI,eqFl,tpl,newK,newT,one, repL, hl])
    refine bd_go rfl (bd_go rfl (bd_go (a := [.v (.im (.int q))]) (δ1 := [some (.im (.ref d)), some (.im (.int dp)), some (.im (.ref G1.length)), some (.ow (.lst (fs.map I.int))), some (.im (.int 0))]) (G1 := G3) (bd_go (op_go (sh _ _) rfl (by unfold fdivP intP; dsimp only; rw [if_pos (by decide), show ((N : Int) / 2) = (q : Int) by omega])) rfl) ?_))
    simp [sliQ, ptE, notT, hc, sq, pk]
  · by_cases f2 : 0 < dp
    · have f3 : ¬ (r3 = 0) := by omega
      exact go fs l2 (by simp [runF,seqF,iteF',orF,andF,notF,tstF,opF,unF,bd,varF,conF,rt,consF,nilF,fldP,lenP,sq,pk,pkS,blE,ltP,leP,gtP,geP,intP,retF,retN,movF,boxF,bxE,mvE,skipF,dropF,asgF,gNm,ixP,orP,ixS,ixD,getD',subP,addP,addI,mulP,mulI,fdivP,modP,powP,shlP,shrP,negP,callP,vlA,methF,makeP,tupP,lstP,imA,imE,bmF,isLst,append1P,pop0P,fldS,putF',putQ,keyI,keyT,keysI,valI,ifE,isQ,slOk,truE,eqP,neP,eqE,mixI,eqD,flI,eqFl,tpl,newK,newT,one, f2, beq_eq_false_iff_ne.mpr f3])
    · exact go fs l2 (by simp [runF,seqF,iteF',orF,andF,notF,tstF,opF,unF,bd,varF,conF,rt,consF,nilF,fldP,lenP,sq,pk,pkS,blE,ltP,leP,gtP,geP,intP,retF,retN,movF,boxF,bxE,mvE,skipF,dropF,asgF,gNm,ixP,orP,ixS,ixD,getD',subP,addP,addI,mulP,mulI,fdivP,modP,powP,shlP,shrP,negP,callP,vlA,methF,makeP,tupP,lstP,imA,imE,bmF,isLst,append1P,pop0P,fldS,putF',putQ,keyI,keyT,keysI,valI,ifE,isQ,slOk,truE,eqP,neP,eqE,mixI,eqD,flI,eqFl,tpl,newK,newT,one, f2])
end Q
namespace Q
open PySem L2 B
theorem cT_tst {w : Wk} {c : I → Option (List I)} {tt : Mo Bool} {te : Mo Ev} {di δ : De} (P : Nat → List I → List M → Prop)
    (step : ∀ i acc G, i < w.n → P i acc G → ∃ d ds δa Ga, w.at_ i δ G = some d ∧ c d = some ds ∧ ((tt ((ds.map fun d => some (Vl.im d)) ++ di) G = some (false, δa, Ga) ∧ P (i + 1) acc Ga) ∨ ∃ y δb Gb, tt ((ds.map fun d => some (Vl.im d)) ++ di) G = some (true, δa, Ga) ∧ te δa Ga = some (.v (.im y), δb, Gb) ∧ P (i + 1) (acc ++ [y]) Gb))
    (fin : ∀ acc G, P w.n acc G → w.fin δ G = true) : ∀ (r i : Nat) (acc : List I) (G : List M), i + r = w.n → P i acc G → ∃ ds G', cTurns w c tt te di i r acc δ G = some (ds, G') ∧ P w.n ds G'
  | 0, i, acc, G, h, p => by
    have : i = w.n := by omega
    subst this
    exact ⟨acc, G, by unfold cTurns; rw [fin acc G p]; rfl, p⟩
  | r + 1, i, acc, G, h, p => by
    obtain ⟨d, ds, δa, Ga, h1, h2, z⟩ := step i acc G (by omega) p
    rcases z with ⟨h3, p'⟩ | ⟨y, δb, Gb, h3, h4, p'⟩
    · obtain ⟨ds', G', e, q⟩ := cT_tst P step fin r (i + 1) acc Ga (by omega) p'
      refine ⟨ds', G', ?_, q⟩
      unfold cTurns
      rw [h1]; dsimp only; rw [h2]; dsimp only; rw [h3]
      exact e
    · obtain ⟨ds', G', e, q⟩ := cT_tst P step fin r (i + 1) (acc ++ [y]) Gb (by omega) p'
      refine ⟨ds', G', ?_, q⟩
      unfold cTurns
      rw [h1]; dsimp only; rw [h2]; dsimp only; rw [h3]; dsimp only; rw [h4]
      exact e
theorem cut_map (ns : List Int) (lo hi : Option Int) : ∃ ms : List Int, cutI (ns.map I.int) lo hi = ms.map I.int ∧ ms.length ≤ ns.length := by
  refine ⟨(ns.drop (HT.sIx ns.length 0 lo)).take (HT.sIx ns.length ns.length hi - HT.sIx ns.length 0 lo), ?_, ?_⟩
  · unfold cutI; rw [List.length_map, List.map_take, List.map_drop]
  · rw [List.length_take, List.length_drop]; omega
theorem deal_some {ms : List Int} {δ : De} {G : List M} : ∃ so : List Int, cTurns (lsW (.v (.ow (.lst (ms.map I.int)))) ms.length) c1 yesF (bd (consF (varF 0) (consF (opF subP (conF (.int 0)) (varF 0)) nilF)) max2P) [] 0 ms.length [] δ G = some (so.map I.int, G) ∧ so.length = ms.length ∧ ∀ m ∈ so, 0 ≤ m := by
  obtain ⟨ds, G', e, so, ed, ls, hp, eg⟩ := cT_inv (w := lsW (.v (.ow (.lst (ms.map I.int)))) ms.length) (c := c1) (tt := yesF) (te := bd (consF (varF 0) (consF (opF subP (conF (.int 0)) (varF 0)) nilF)) max2P) (di := []) (δ := δ)
    (fun i acc G' => ∃ so : List Int, acc = so.map I.int ∧ so.length = i ∧ (∀ m ∈ so, 0 ≤ m) ∧ G' = G)
    (fun i acc G1 hi ⟨so, ea, ls, hp, o⟩ => by
      have hi : i < ms.length := hi
      subst o
      obtain ⟨y, hy⟩ : ∃ y, (if 0 - ms[i] > ms[i] then 0 - ms[i] else ms[i]) = y := ⟨_, rfl⟩
      refine ⟨.int ms[i], [.int ms[i]], _, _, .int y, [some (.im (.int ms[i]))], G1, ?_, rfl, rfl, ?_, so ++ [y], by rw [ea, List.map_append]; rfl, by rw [List.length_append, ls]; rfl, fun m hm => ?_, rfl⟩
      · simp [lsW, sq, pk, hi]
      · subst hy; simp [runF,seqF,iteF',orF,andF,notF,tstF,opF,unF,bd,varF,conF,rt,consF,nilF,fldP,lenP,sq,pk,pkS,blE,ltP,leP,gtP,geP,intP,retF,retN,movF,boxF,bxE,mvE,skipF,dropF,asgF,gNm,ixP,orP,ixS,ixD,getD',subP,addP,addI,mulP,mulI,fdivP,modP,powP,shlP,shrP,negP,callP,vlA,methF,makeP,tupP,lstP,imA,imE,bmF,isLst,append1P,pop0P,fldS,putF',putQ,keyI,keyT,keysI,valI,ifE,isQ,slOk,truE,eqP,neP,eqE,mixI,eqD,flI,eqFl,tpl,newK,newT,one, max2P]
      · rcases List.mem_append.mp hm with z | z
        · exact hp m z
        · have : m = y := by simpa using z
          subst this; subst hy; split <;> omega)
    (fun _ _ _ => by simp [lsW, sq, pk]) ms.length 0 [] G (by simp [lsW]) ⟨[], rfl, rfl, fun _ h => (by cases h), rfl⟩
  exact ⟨so, by rw [ed, eg] at e; exact e, ls, hp⟩
theorem deal_left {so : List Int} {δ : De} {G : List M} {k : Nat} (hk : G[k]? = some (.lst (so.map I.int))) (hp : ∀ m ∈ so, 0 ≤ m) : ∃ le : List Int, cTurns (lsW (.v (.im (.ref k))) so.length) c1 (tstF (opF geP (varF 0) (opF powP (conF (.int 10)) (conF (.int 18))))) (varF 0) [] 0 so.length [] δ G = some (le.map I.int, G) ∧ ∀ m ∈ le, 0 ≤ m := by
  obtain ⟨ds, G', e, so', ed, hp, eg⟩ := cT_tst (w := lsW (.v (.im (.ref k))) so.length) (c := c1) (tt := tstF (opF geP (varF 0) (opF powP (conF (.int 10)) (conF (.int 18))))) (te := varF 0) (di := []) (δ := δ)
    (fun i acc G' => ∃ le : List Int, acc = le.map I.int ∧ (∀ m ∈ le, 0 ≤ m) ∧ G' = G)
    (fun i acc G1 hi ⟨le, ea, hp', o⟩ => by
      have hi : i < so.length := hi
      subst o
      refine ⟨.int so[i], [.int so[i]], [some (.im (.int so[i]))], G1, by simp [lsW, sq, pk, hk, hi], rfl, ?_⟩
      by_cases z : (1000000000000000000 : Int) ≤ so[i]
      · refine .inr ⟨.int so[i], [some (.im (.int so[i]))], G1, by simp [runF,seqF,iteF',orF,andF,notF,tstF,opF,unF,bd,varF,conF,rt,consF,nilF,fldP,lenP,sq,pk,pkS,blE,ltP,leP,gtP,geP,intP,retF,retN,movF,boxF,bxE,mvE,skipF,dropF,asgF,gNm,ixP,orP,ixS,ixD,getD',subP,addP,addI,mulP,mulI,fdivP,modP,powP,shlP,shrP,negP,callP,vlA,methF,makeP,tupP,lstP,imA,imE,bmF,isLst,append1P,pop0P,fldS,putF',putQ,keyI,keyT,keysI,valI,ifE,isQ,slOk,truE,eqP,neP,eqE,mixI,eqD,flI,eqFl,tpl,newK,newT,one, z], by simp [runF,seqF,iteF',orF,andF,notF,tstF,opF,unF,bd,varF,conF,rt,consF,nilF,fldP,lenP,sq,pk,pkS,blE,ltP,leP,gtP,geP,intP,retF,retN,movF,boxF,bxE,mvE,skipF,dropF,asgF,gNm,ixP,orP,ixS,ixD,getD',subP,addP,addI,mulP,mulI,fdivP,modP,powP,shlP,shrP,negP,callP,vlA,methF,makeP,tupP,lstP,imA,imE,bmF,isLst,append1P,pop0P,fldS,putF',putQ,keyI,keyT,keysI,valI,ifE,isQ,slOk,truE,eqP,neP,eqE,mixI,eqD,flI,eqFl,tpl,newK,newT,one], le ++ [so[i]], by rw [ea, List.map_append]; rfl, fun m hm => ?_, rfl⟩
        rcases List.mem_append.mp hm with y | y
        · exact hp' m y
        · have : m = so[i] := by simpa using y
          subst this; exact hp _ (List.getElem_mem hi)
      · exact .inl ⟨by simp [runF,seqF,iteF',orF,andF,notF,tstF,opF,unF,bd,varF,conF,rt,consF,nilF,fldP,lenP,sq,pk,pkS,blE,ltP,leP,gtP,geP,intP,retF,retN,movF,boxF,bxE,mvE,skipF,dropF,asgF,gNm,ixP,orP,ixS,ixD,getD',subP,addP,addI,mulP,mulI,fdivP,modP,powP,shlP,shrP,negP,callP,vlA,methF,makeP,tupP,lstP,imA,imE,bmF,isLst,append1P,pop0P,fldS,putF',putQ,keyI,keyT,keysI,valI,ifE,isQ,slOk,truE,eqP,neP,eqE,mixI,eqD,flI,eqFl,tpl,newK,newT,one]; omega, le, ea, hp', rfl⟩)
    (fun _ G1 ⟨_, _, _, eg⟩ => by subst eg; simp [lsW, sq, pk, hk]) so.length 0 [] G (by simp [lsW]) ⟨[], rfl, fun _ h => (by cases h), rfl⟩
  exact ⟨so', by rw [ed, eg] at e; exact e, hp⟩
theorem deal_for {so : List Int} {s1 s2 s3 v : Option Vl} {G : List M} {k : Nat} {a : Int} (hk : G[k]? = some (.lst (so.map I.int))) (h0 : 0 ≤ a) (h1 : a < 2147483647) : ∃ a' v', fTurns (lsW (.v (.im (.ref k))) so.length) (gNm 4) F__law_deal_w1b 0 so.length [s1, s2, s3, some (.im (.int a)), v] G = some (.nx [s1, s2, s3, some (.im (.int a')), v'] G) ∧ 0 ≤ a' ∧ a' < 2147483647 := by
  obtain ⟨δ', G', e, a', v', ed, p0, p1, eg⟩ := fT_inv (w := lsW (.v (.im (.ref k))) so.length) (g := gNm 4) (b := F__law_deal_w1b)
    (fun i δ G' => ∃ (a : Int) (v : Option Vl), δ = [s1, s2, s3, some (.im (.int a)), v] ∧ 0 ≤ a ∧ a < 2147483647 ∧ G' = G)
    (fun i δ G1 hi ⟨a, v, ea, p0, p1, o⟩ => by
      have hi : i < so.length := hi
      subst o
      subst ea
      refine ⟨.int so[i], [s1, s2, s3, some (.im (.int a)), some (.im (.int so[i]))], G1, [s1, s2, s3, some (.im (.int ((a * 48271 + so[i] % 2147483629) % 2147483647))), some (.im (.int so[i]))], G1, by simp [lsW, sq, pk, hk, hi], rfl, ?_, _, _, rfl, Int.emod_nonneg _ (by decide), Int.emod_lt_of_pos _ (by decide), rfl⟩
      simp [F__law_deal_w1b, runF,seqF,iteF',orF,andF,notF,tstF,opF,unF,bd,varF,conF,rt,consF,nilF,fldP,lenP,sq,pk,pkS,blE,ltP,leP,gtP,geP,intP,retF,retN,movF,boxF,bxE,mvE,skipF,dropF,asgF,gNm,ixP,orP,ixS,ixD,getD',subP,addP,addI,mulP,mulI,fdivP,modP,powP,shlP,shrP,negP,callP,vlA,methF,makeP,tupP,lstP,imA,imE,bmF,isLst,append1P,pop0P,fldS,putF',putQ,keyI,keyT,keysI,valI,ifE,isQ,slOk,truE,eqP,neP,eqE,mixI,eqD,flI,eqFl,tpl,newK,newT,one])
    (fun _ G1 ⟨_, _, _, _, _, eg⟩ => by subst eg; simp [lsW, sq, pk, hk]) so.length 0 [s1, s2, s3, some (.im (.int a)), v] G (by simp [lsW]) ⟨a, v, rfl, h0, h1, rfl⟩
  exact ⟨a', v', by rw [ed, eg] at e; exact e, p0, p1⟩
theorem seq_it {fe : Mo Ev} {e : Ev} {xs : List I} {n : Nat} {δ δ1 : De} {G G1 : List M} (h : fe δ G = some (e, δ1, G1)) (hl : isL δ1 G1 e = true) (hs : sq δ1 G1 e = some xs) (hn : xs.length = n) : itF (one fe) seqP δ G = some (lsW e n, [e], δ1, G1) := by
  subst hn
  refine it_go (bd_go h rfl) ?_
  unfold seqP lsP
  dsimp only
  rw [if_pos hl, hs]
  rfl
theorem deal_ok {ns : List Int} {b : Nat} {G : List M} (h : ns.length ≤ 63) (hb : b ≤ 1000) : ∃ (a : Int) (so le : List Int), F__law_deal [.im (.fro (ns.map I.int)), .im (.int b)] G = some (.ow (.dic (dealI a 0 (G.length + 1))), G ++ [.lst (so.map I.int), .lst (le.map I.int)]) ∧ 0 ≤ a ∧ a < 2147483647 ∧ ∀ m ∈ le, 0 ≤ m := by
  obtain ⟨ms, hc, lm⟩ := cut_map ns (some (b : Int)) (some 63)
  obtain ⟨so, e1, l1, p1⟩ := deal_some (ms := ms) (δ := [some (.im (.fro (ns.map I.int))), some (.im (.int b)), none, none, none]) (G := G)
  have hk : (G ++ [M.lst (so.map I.int)])[G.length]? = some (.lst (so.map I.int)) := by simp
  obtain ⟨a, v, e2, a0, a1⟩ := deal_for (s1 := some (.im (.fro (ns.map I.int)))) (s2 := some (.im (.int b))) (s3 := some (.im (.ref G.length))) (v := none) (a := 7919 + (b : Int)) hk (by omega) (by omega)
  obtain ⟨le, e3, p3⟩ := deal_left (δ := [some (.im (.fro (ns.map I.int))), some (.im (.int b)), some (.im (.ref G.length)), some (.im (.int a)), v]) hk p1
  refine ⟨a, so, le.reverse, ?_, a0, a1, fun m hm => p3 m (List.mem_reverse.mp hm)⟩
  refine run_rt rfl ?_
  refine seq_go (asg_go (comp_go (δ0 := [some (.im (.fro (ns.map I.int))), some (.im (.int b)), none, none, none]) (by rfl) (seq_it (e := .v (.ow (.lst (ms.map I.int)))) (n := ms.length) (δ1 := [some (.im (.fro (ns.map I.int))), some (.im (.int b)), none, none, none]) (G1 := G) ?_ rfl rfl (by simp)) (by show ms.length ≤ 100000; omega) e1) rfl) ?_
  · simp [sliF, runF,seqF,iteF',orF,andF,notF,tstF,opF,unF,bd,varF,conF,rt,consF,nilF,fldP,lenP,sq,pk,pkS,blE,ltP,leP,gtP,geP,intP,retF,retN,movF,boxF,bxE,mvE,skipF,dropF,asgF,gNm,ixP,orP,ixS,ixD,getD',subP,addP,addI,mulP,mulI,fdivP,modP,powP,shlP,shrP,negP,callP,vlA,methF,makeP,tupP,lstP,imA,imE,bmF,isLst,append1P,pop0P,fldS,putF',putQ,keyI,keyT,keysI,valI,ifE,isQ,slOk,truE,eqP,neP,eqE,mixI,eqD,flI,eqFl,tpl,newK,newT,one, somePt, ptE, sliQ, notT, hc]
  refine seq_go (asg_go (x := .im (.int (7919 + (b : Int)))) (δ1 := [some (.im (.fro (ns.map I.int))), some (.im (.int b)), some (.ow (.lst (so.map I.int))), none, none]) (G1 := G) (by simp [runF,seqF,iteF',orF,andF,notF,tstF,opF,unF,bd,varF,conF,rt,consF,nilF,fldP,lenP,sq,pk,pkS,blE,ltP,leP,gtP,geP,intP,retF,retN,movF,boxF,bxE,mvE,skipF,dropF,asgF,gNm,ixP,orP,ixS,ixD,getD',subP,addP,addI,mulP,mulI,fdivP,modP,powP,shlP,shrP,negP,callP,vlA,methF,makeP,tupP,lstP,imA,imE,bmF,isLst,append1P,pop0P,fldS,putF',putQ,keyI,keyT,keysI,valI,ifE,isQ,slOk,truE,eqP,neP,eqE,mixI,eqD,flI,eqFl,tpl,newK,newT,one]) rfl) ?_
  refine seq_go (for_go (seq_it (e := .v (.im (.ref G.length))) (n := so.length) (δ1 := [some (.im (.fro (ns.map I.int))), some (.im (.int b)), some (.im (.ref G.length)), some (.im (.int (7919 + (b : Int)))), none]) (G1 := G ++ [M.lst (so.map I.int)]) (xs := so.map I.int) (by simp [runF,seqF,iteF',orF,andF,notF,tstF,opF,unF,bd,varF,conF,rt,consF,nilF,fldP,lenP,sq,pk,pkS,blE,ltP,leP,gtP,geP,intP,retF,retN,movF,boxF,bxE,mvE,skipF,dropF,asgF,gNm,ixP,orP,ixS,ixD,getD',subP,addP,addI,mulP,mulI,fdivP,modP,powP,shlP,shrP,negP,callP,vlA,methF,makeP,tupP,lstP,imA,imE,bmF,isLst,append1P,pop0P,fldS,putF',putQ,keyI,keyT,keysI,valI,ifE,isQ,slOk,truE,eqP,neP,eqE,mixI,eqD,flI,eqFl,tpl,newK,newT,one]) rfl (by simp [sq, pk]) (by simp)) e2) ?_
  refine ret_go (δ1 := [some (.im (.fro (ns.map I.int))), some (.im (.int b)), some (.im (.ref G.length)), some (.im (.int a)), v]) ?_
  have e4 : compF (itF (one (boxF (varF 2))) seqP) [] c1 (tstF (opF geP (varF 0) (opF powP (conF (.int 10)) (conF (.int 18))))) (varF 0) [some (.im (.fro (ns.map I.int))), some (.im (.int b)), some (.im (.ref G.length)), some (.im (.int a)), v] (G ++ [M.lst (so.map I.int)]) = some (.v (.ow (.lst (le.map I.int))), [some (.im (.fro (ns.map I.int))), some (.im (.int b)), some (.im (.ref G.length)), some (.im (.int a)), v], G ++ [M.lst (so.map I.int)]) := by
    refine comp_go (by rfl) (seq_it (e := .v (.im (.ref G.length))) (n := so.length) (δ1 := [some (.im (.fro (ns.map I.int))), some (.im (.int b)), some (.im (.ref G.length)), some (.im (.int a)), v]) (G1 := G ++ [M.lst (so.map I.int)]) (xs := so.map I.int) (by simp [runF,seqF,iteF',orF,andF,notF,tstF,opF,unF,bd,varF,conF,rt,consF,nilF,fldP,lenP,sq,pk,pkS,blE,ltP,leP,gtP,geP,intP,retF,retN,movF,boxF,bxE,mvE,skipF,dropF,asgF,gNm,ixP,orP,ixS,ixD,getD',subP,addP,addI,mulP,mulI,fdivP,modP,powP,shlP,shrP,negP,callP,vlA,methF,makeP,tupP,lstP,imA,imE,bmF,isLst,append1P,pop0P,fldS,putF',putQ,keyI,keyT,keysI,valI,ifE,isQ,slOk,truE,eqP,neP,eqE,mixI,eqD,flI,eqFl,tpl,newK,newT,one]) rfl (by simp [sq, pk]) (by simp)) (by show so.length ≤ 100000; omega) e3
  have e5 : boxF (unF lrevP (compF (itF (one (boxF (varF 2))) seqP) [] c1 (tstF (opF geP (varF 0) (opF powP (conF (.int 10)) (conF (.int 18))))) (varF 0))) [some (.im (.fro (ns.map I.int))), some (.im (.int b)), some (.im (.ref G.length)), some (.im (.int a)), v] (G ++ [M.lst (so.map I.int)]) = some (.v (.im (.ref (G.length + 1))), [some (.im (.fro (ns.map I.int))), some (.im (.int b)), some (.im (.ref G.length)), some (.im (.int a)), v], G ++ [M.lst (so.map I.int), M.lst (le.reverse.map I.int)]) := by
    refine bd_go (un_go e4 (r := some (.v (.ow (.lst (le.reverse.map I.int))), [some (.im (.fro (ns.map I.int))), some (.im (.int b)), some (.im (.ref G.length)), some (.im (.int a)), v], G ++ [M.lst (so.map I.int)])) (by simp [lrevP, notT, sq, pk])) ?_
    simp [bxE]
  refine bd_go (a := [.v (.im (.str "seed")), .v (.im (.int a)), .v (.im (.str "number")), .v (.im (.int 0)), .v (.im (.str "left")), .v (.im (.ref (G.length + 1)))]) (δ1 := [some (.im (.fro (ns.map I.int))), some (.im (.int b)), some (.im (.ref G.length)), some (.im (.int a)), v]) (G1 := G ++ [M.lst (so.map I.int), M.lst (le.reverse.map I.int)]) ?_ ?_
  · refine bd_go rfl (bd_go rfl (bd_go (a := [.v (.im (.str "number")), .v (.im (.int 0)), .v (.im (.str "left")), .v (.im (.ref (G.length + 1)))]) (bd_go rfl (bd_go rfl (bd_go (a := [.v (.im (.str "left")), .v (.im (.ref (G.length + 1)))]) (bd_go rfl (bd_go e5 (bd_go rfl rfl))) rfl))) rfl))
  · simp [pairsE, keyI, mergeI, putD, hasI, s_sn, s_sl, s_nl, dealI]
end Q
namespace Q
open PySem L2 B
theorem word_in_ok {G : List M} {h g s d : Nat} {gs : List Mk} {k : Nat} {n : Int} (S : HG G h g s gs) (hd : d ≤ 100) : F_word_in [.im (.ref h), .im (.int n), .im (.int d), .im (.int k)] G = some (.im (match way gs d n k with | some (w, _) => .int w | none => .non), G) := by
  have e := path_ok (n := n) (k := k) S hd
  cases q : way gs d n k with
  | none =>
    rw [q] at e
    have e : F_path_in [.im (.ref h), .im (.int n), .im (.int d), .im (.int k)] G = some (.im .non, G) := e
    simp [F_word_in, runF,seqF,iteF',orF,andF,notF,tstF,opF,unF,bd,varF,conF,rt,consF,nilF,fldP,lenP,sq,pk,pkS,blE,ltP,leP,gtP,geP,intP,retF,retN,movF,boxF,bxE,mvE,skipF,dropF,asgF,gNm,ixP,orP,ixS,ixD,getD',subP,addP,addI,mulP,mulI,fdivP,modP,powP,shlP,shrP,negP,callP,vlA,methF,makeP,tupP,lstP,imA,imE,bmF,isLst,append1P,pop0P,fldS,putF',putQ,keyI,keyT,keysI,valI,ifE,isQ,slOk,truE,eqP,neP,eqE,mixI,eqD,flI,eqFl,tpl,newK,newT,one, e]
  | some p =>
    obtain ⟨w, ss⟩ := p
    rw [q] at e
    have e : F_path_in [.im (.ref h), .im (.int n), .im (.int d), .im (.int k)] G = some (.im (.tup [.int w, .tup (ss.map I.int)]), G) := e
    simp [F_word_in, runF,seqF,iteF',orF,andF,notF,tstF,opF,unF,bd,varF,conF,rt,consF,nilF,fldP,lenP,sq,pk,pkS,blE,ltP,leP,gtP,geP,intP,retF,retN,movF,boxF,bxE,mvE,skipF,dropF,asgF,gNm,ixP,orP,ixS,ixD,getD',subP,addP,addI,mulP,mulI,fdivP,modP,powP,shlP,shrP,negP,callP,vlA,methF,makeP,tupP,lstP,imA,imE,bmF,isLst,append1P,pop0P,fldS,putF',putQ,keyI,keyT,keysI,valI,ifE,isQ,slOk,truE,eqP,neP,eqE,mixI,eqD,flI,eqFl,tpl,newK,newT,one, e, at0]
theorem desc_len {gs : List Mk} {k : Nat} : ∀ {r : Nat} {n n' : Int} {ss : List Int}, desc gs k r n = some (n', ss) → ss.length = r
  | 0, n, n', ss, h => by cases h; rfl
  | r + 1, n, n', ss, h => by
    unfold desc at h
    split at h
    · split at h
      · rename_i a b _ _
        cases q : desc gs k r a with
        | none => rw [q] at h; cases h
        | some p => rw [q] at h; cases h; exact congrArg (· + 1) (desc_len q)
      · rename_i a b _ _
        cases q : desc gs k r b with
        | none => rw [q] at h; cases h
        | some p => rw [q] at h; cases h; exact congrArg (· + 1) (desc_len q)
    · cases h
theorem way_len {gs : List Mk} {k d : Nat} {n w : Int} {ss : List Int} (h : way gs d n k = some (w, ss)) : ss.length = d := by
  unfold way at h
  split at h
  · rename_i n' ss' q
    split at h
    · cases h; rw [List.length_reverse]; exact desc_len q
    · cases h
  · cases h
theorem above_ok {G : List M} {h g s : Nat} {gs : List Mk} {p a b : Int} (S : HG G h g s gs) (hl : gs.length < 100000) : ∃ n gs' G', F_pair_above [.im (.ref h), .im (.int p), .im (.int a), .im (.int b)] G = some (.im (.int n), G') ∧ HG G' h g s gs' ∧ Ext 1 gs gs' ∧ Oth g s G G' := by
  have bt : Builtin.bitAnd p 1 = p % 2 := PyProof.Rows.bitAnd_m1 p
  by_cases z : p % 2 = 0
  · obtain ⟨n, gs', G', e, S', _, x, o⟩ := pair_ok (a := a) (b := b) S hl
    exact ⟨n, gs', G', by simp [F_pair_above, runF,seqF,iteF',orF,andF,notF,tstF,opF,unF,bd,varF,conF,rt,consF,nilF,fldP,lenP,sq,pk,pkS,blE,ltP,leP,gtP,geP,intP,retF,retN,movF,boxF,bxE,mvE,skipF,dropF,asgF,gNm,ixP,orP,ixS,ixD,getD',subP,addP,addI,mulP,mulI,fdivP,modP,powP,shlP,shrP,negP,callP,vlA,methF,makeP,tupP,lstP,imA,imE,bmF,isLst,append1P,pop0P,fldS,putF',putQ,keyI,keyT,keysI,valI,ifE,isQ,slOk,truE,eqP,neP,eqE,mixI,eqD,flI,eqFl,tpl,newK,newT,one, andP, bt, z, S.ob, n_pair, e], S', x, o⟩
  · obtain ⟨n, gs', G', e, S', _, x, o⟩ := pair_ok (a := b) (b := a) S hl
    exact ⟨n, gs', G', by simp [F_pair_above, runF,seqF,iteF',orF,andF,notF,tstF,opF,unF,bd,varF,conF,rt,consF,nilF,fldP,lenP,sq,pk,pkS,blE,ltP,leP,gtP,geP,intP,retF,retN,movF,boxF,bxE,mvE,skipF,dropF,asgF,gNm,ixP,orP,ixS,ixD,getD',subP,addP,addI,mulP,mulI,fdivP,modP,powP,shlP,shrP,negP,callP,vlA,methF,makeP,tupP,lstP,imA,imE,bmF,isLst,append1P,pop0P,fldS,putF',putQ,keyI,keyT,keysI,valI,ifE,isQ,slOk,truE,eqP,neP,eqE,mixI,eqD,flI,eqFl,tpl,newK,newT,one, andP, bt, beq_eq_false_iff_ne.mpr z, S.ob, n_pair, e], S', x, o⟩
theorem put_none {G : List M} {h g s d : Nat} {gs : List Mk} {k : Nat} {n : Int} {v : I} (S : HG G h g s gs) (hd : d ≤ 100) (hw : way gs d n k = none) : F_put_in [.im (.ref h), .im (.int n), .im (.int d), .im (.int k), .im v] G = some (.im .non, G) := by
  have e := path_ok (n := n) (k := k) S hd
  rw [hw] at e
  have e : F_path_in [.im (.ref h), .im (.int n), .im (.int d), .im (.int k)] G = some (.im .non, G) := e
  simp [F_put_in, runF,seqF,iteF',orF,andF,notF,tstF,opF,unF,bd,varF,conF,rt,consF,nilF,fldP,lenP,sq,pk,pkS,blE,ltP,leP,gtP,geP,intP,retF,retN,movF,boxF,bxE,mvE,skipF,dropF,asgF,gNm,ixP,orP,ixS,ixD,getD',subP,addP,addI,mulP,mulI,fdivP,modP,powP,shlP,shrP,negP,callP,vlA,methF,makeP,tupP,lstP,imA,imE,bmF,isLst,append1P,pop0P,fldS,putF',putQ,keyI,keyT,keysI,valI,ifE,isQ,slOk,truE,eqP,neP,eqE,mixI,eqD,flI,eqFl,tpl,newK,newT,one, e]
theorem put_some {G : List M} {h g s d : Nat} {gs : List Mk} {k : Nat} {n w v : Int} {ss : List Int} (S : HG G h g s gs) (hd : d ≤ 100) (hw : way gs d n k = some (w, ss)) (hl : gs.length < 90000) : ∃ n' gs' G', F_put_in [.im (.ref h), .im (.int n), .im (.int d), .im (.int k), .im (.int v)] G = some (.im (.int n'), G') ∧ HG G' h g s gs' ∧ Ext (1 + d) gs gs' ∧ Oth g s G G' := by
  have e := path_ok (n := n) (k := k) S hd
  rw [hw] at e
  have e : F_path_in [.im (.ref h), .im (.int n), .im (.int d), .im (.int k)] G = some (.im (.tup [.int w, .tup (ss.map I.int)]), G) := e
  have lw := way_len hw
  obtain ⟨n1, gs1, G1, e1, S1, _, x1, o1⟩ := leaf_ok (w := v) S (by omega)
  obtain ⟨δ', G', e2, n2, gs2, v7, v8, ed, S2, x2, o2⟩ := fT_inv (w := enuW (ss.map I.int)) (g := gNms [7, 8]) (b := F_put_in_w1b)
    (fun i δ G' => ∃ (n2 : Int) (gs2 : List Mk) (v7 v8 : Option Vl), δ = [some (.im (.ref h)), some (.im (.int n)), some (.im (.int d)), some (.im (.int k)), some (.im (.int v)), some (.im (.tup [.int w, .tup (ss.map I.int)])), some (.im (.int n2)), v7, v8] ∧ HG G' h g s gs2 ∧ Ext i gs1 gs2 ∧ Oth g s G1 G')
    (fun i δ Ga hi ⟨n2, gs2, v7, v8, ed, S2, x2, o2⟩ => by
      have hi : i < ss.length := by simpa [enuW] using hi
      subst ed
      have l1 := x1.len
      have l2 := x2.len
      obtain ⟨n3, gs3, Gb, e3, S3, x3, o3⟩ := above_ok (p := (k : Int) / 2 ^ i) (a := n2) (b := ss[i]) S2 (by omega)
      refine ⟨.tup [.int i, .int ss[i]], [some (.im (.ref h)), some (.im (.int n)), some (.im (.int d)), some (.im (.int k)), some (.im (.int v)), some (.im (.tup [.int w, .tup (ss.map I.int)])), some (.im (.int n2)), some (.im (.int i)), some (.im (.int ss[i]))], Ga, [some (.im (.ref h)), some (.im (.int n)), some (.im (.int d)), some (.im (.int k)), some (.im (.int v)), some (.im (.tup [.int w, .tup (ss.map I.int)])), some (.im (.int n3)), some (.im (.int i)), some (.im (.int ss[i]))], Gb, by simp [enuW, hi], rfl, ?_, n3, gs3, _, _, rfl, S3, x2.trans x3, o2.trans o3⟩
      simp [F_put_in_w1b, runF,seqF,iteF',orF,andF,notF,tstF,opF,unF,bd,varF,conF,rt,consF,nilF,fldP,lenP,sq,pk,pkS,blE,ltP,leP,gtP,geP,intP,retF,retN,movF,boxF,bxE,mvE,skipF,dropF,asgF,gNm,ixP,orP,ixS,ixD,getD',subP,addP,addI,mulP,mulI,fdivP,modP,powP,shlP,shrP,negP,callP,vlA,methF,makeP,tupP,lstP,imA,imE,bmF,isLst,append1P,pop0P,fldS,putF',putQ,keyI,keyT,keysI,valI,ifE,isQ,slOk,truE,eqP,neP,eqE,mixI,eqD,flI,eqFl,tpl,newK,newT,one, e3])
    (fun _ _ _ => rfl) ss.length 0 [some (.im (.ref h)), some (.im (.int n)), some (.im (.int d)), some (.im (.int k)), some (.im (.int v)), some (.im (.tup [.int w, .tup (ss.map I.int)])), some (.im (.int n1)), none, none] G1 (by simp [enuW]) ⟨n1, gs1, none, none, rfl, S1, Ext.refl _, Oth.refl _ _ _⟩
  subst ed
  have hn : (enuW (ss.map I.int)).n = ss.length := by simp [enuW]
  rw [hn, lw] at x2
  refine ⟨n2, gs2, G', ?_, S2, x1.trans x2, o1.trans o2⟩
  refine run_rt rfl ?_
  refine seq_go (asg_go (x := .im (.tup [.int w, .tup (ss.map I.int)])) (δ1 := [some (.im (.ref h)), some (.im (.int n)), some (.im (.int d)), some (.im (.int k)), some (.im (.int v)), none, none, none, none]) (G1 := G) (by simp [runF,seqF,iteF',orF,andF,notF,tstF,opF,unF,bd,varF,conF,rt,consF,nilF,fldP,lenP,sq,pk,pkS,blE,ltP,leP,gtP,geP,intP,retF,retN,movF,boxF,bxE,mvE,skipF,dropF,asgF,gNm,ixP,orP,ixS,ixD,getD',subP,addP,addI,mulP,mulI,fdivP,modP,powP,shlP,shrP,negP,callP,vlA,methF,makeP,tupP,lstP,imA,imE,bmF,isLst,append1P,pop0P,fldS,putF',putQ,keyI,keyT,keysI,valI,ifE,isQ,slOk,truE,eqP,neP,eqE,mixI,eqD,flI,eqFl,tpl,newK,newT,one, e]) rfl) ?_
  refine seq_go (ite_f (δ1 := [some (.im (.ref h)), some (.im (.int n)), some (.im (.int d)), some (.im (.int k)), some (.im (.int v)), some (.im (.tup [.int w, .tup (ss.map I.int)])), none, none, none]) (G1 := G) (by simp [runF,seqF,iteF',orF,andF,notF,tstF,opF,unF,bd,varF,conF,rt,consF,nilF,fldP,lenP,sq,pk,pkS,blE,ltP,leP,gtP,geP,intP,retF,retN,movF,boxF,bxE,mvE,skipF,dropF,asgF,gNm,ixP,orP,ixS,ixD,getD',subP,addP,addI,mulP,mulI,fdivP,modP,powP,shlP,shrP,negP,callP,vlA,methF,makeP,tupP,lstP,imA,imE,bmF,isLst,append1P,pop0P,fldS,putF',putQ,keyI,keyT,keysI,valI,ifE,isQ,slOk,truE,eqP,neP,eqE,mixI,eqD,flI,eqFl,tpl,newK,newT,one]) rfl) ?_
  refine seq_go (asg_go (x := .im (.int n1)) (δ1 := [some (.im (.ref h)), some (.im (.int n)), some (.im (.int d)), some (.im (.int k)), some (.im (.int v)), some (.im (.tup [.int w, .tup (ss.map I.int)])), none, none, none]) (G1 := G1) (by simp [runF,seqF,iteF',orF,andF,notF,tstF,opF,unF,bd,varF,conF,rt,consF,nilF,fldP,lenP,sq,pk,pkS,blE,ltP,leP,gtP,geP,intP,retF,retN,movF,boxF,bxE,mvE,skipF,dropF,asgF,gNm,ixP,orP,ixS,ixD,getD',subP,addP,addI,mulP,mulI,fdivP,modP,powP,shlP,shrP,negP,callP,vlA,methF,makeP,tupP,lstP,imA,imE,bmF,isLst,append1P,pop0P,fldS,putF',putQ,keyI,keyT,keysI,valI,ifE,isQ,slOk,truE,eqP,neP,eqE,mixI,eqD,flI,eqFl,tpl,newK,newT,one, S.ob, n_leaf, e1]) rfl) ?_
  refine seq_go (for_go (it_go (es := [.v (.im (.tup (ss.map I.int)))]) (δ1 := [some (.im (.ref h)), some (.im (.int n)), some (.im (.int d)), some (.im (.int k)), some (.im (.int v)), some (.im (.tup [.int w, .tup (ss.map I.int)])), some (.im (.int n1)), none, none]) (G1 := G1) (by simp [runF,seqF,iteF',orF,andF,notF,tstF,opF,unF,bd,varF,conF,rt,consF,nilF,fldP,lenP,sq,pk,pkS,blE,ltP,leP,gtP,geP,intP,retF,retN,movF,boxF,bxE,mvE,skipF,dropF,asgF,gNm,ixP,orP,ixS,ixD,getD',subP,addP,addI,mulP,mulI,fdivP,modP,powP,shlP,shrP,negP,callP,vlA,methF,makeP,tupP,lstP,imA,imE,bmF,isLst,append1P,pop0P,fldS,putF',putQ,keyI,keyT,keysI,valI,ifE,isQ,slOk,truE,eqP,neP,eqE,mixI,eqD,flI,eqFl,tpl,newK,newT,one, at1]) rfl) (by rw [hn]; exact e2)) ?_
  simp [runF,seqF,iteF',orF,andF,notF,tstF,opF,unF,bd,varF,conF,rt,consF,nilF,fldP,lenP,sq,pk,pkS,blE,ltP,leP,gtP,geP,intP,retF,retN,movF,boxF,bxE,mvE,skipF,dropF,asgF,gNm,ixP,orP,ixS,ixD,getD',subP,addP,addI,mulP,mulI,fdivP,modP,powP,shlP,shrP,negP,callP,vlA,methF,makeP,tupP,lstP,imA,imE,bmF,isLst,append1P,pop0P,fldS,putF',putQ,keyI,keyT,keysI,valI,ifE,isQ,slOk,truE,eqP,neP,eqE,mixI,eqD,flI,eqFl,tpl,newK,newT,one]
theorem seal_there {G : List M} {h g s : Nat} {gs : List Mk} {m : Mk} {n : Int} (S : HG G h g s gs) (hm : At gs n m) : F_House_seal_for [.im (.ref h), .im m.i] G = some (.im (.int n), G) := by
  have hk := m.key
  have hmem : m ∈ gs := by obtain ⟨j, _, hj⟩ := hm; exact List.mem_of_getElem? hj
  obtain ⟨j, hv, hj⟩ := num_val (o := 0) hmem
  have hn : n = (j : Int) + 1 := hm.uniq S.nd ⟨j, rfl, hj⟩
  subst hn
  have hv : valI (num 0 gs) m.k = some (.int ((j : Int) + 1)) := by rw [hv]; simp
  have hi : inL true [.v (.im m.i), .v (.im (.ref s))] [some (.im (.ref h)), some (.im m.i)] G = none := by
    cases m <;> simp [inL, sq, pk, S.sd, Mk.i]
  have hq : ixS [.v (.im (.ref s)), .v (.im m.i)] [some (.im (.ref h)), some (.im m.i)] G = none := by cases m <;> simp [ixS, Mk.i]
  simp [F_House_seal_for, runF, seqF, iteF', tstF, opF, unF, bd, varF, rt, fldP, ninP, orP, inD', getD', pk, blE, retF, movF, mvE, skipF, ixP, ixD, S.ob, S.sd, lk_s, lk_g, hk, hv, hi, hq]
theorem leaf_at {G : List M} {h g s : Nat} {gs : List Mk} {w n : Int} (S : HG G h g s gs) (hm : At gs n (.leaf w)) : F_House_leaf [.im (.ref h), .im (.int w)] G = some (.im (.int n), G) := by
  have e := seal_there S hm
  have e : F_House_seal_for [.im (.ref h), .im (.tup [.str "leaf", .int w])] G = some (.im (.int n), G) := e
  simp [F_House_leaf, runF,seqF,iteF',orF,andF,notF,tstF,opF,unF,bd,varF,conF,rt,consF,nilF,fldP,lenP,sq,pk,pkS,blE,ltP,leP,gtP,geP,intP,retF,retN,movF,boxF,bxE,mvE,skipF,dropF,asgF,gNm,ixP,orP,ixS,ixD,getD',subP,addP,addI,mulP,mulI,fdivP,modP,powP,shlP,shrP,negP,callP,vlA,methF,makeP,tupP,lstP,imA,imE,bmF,isLst,append1P,pop0P,fldS,putF',putQ,keyI,keyT,keysI,valI,ifE,isQ,slOk,truE,eqP,neP,eqE,mixI,eqD,flI,eqFl,tpl,newK,newT,one, S.ob, n_for, e]
theorem pair_at {G : List M} {h g s : Nat} {gs : List Mk} {a b n : Int} (S : HG G h g s gs) (hm : At gs n (.pair a b)) : F_House_pair [.im (.ref h), .im (.int a), .im (.int b)] G = some (.im (.int n), G) := by
  have e := seal_there S hm
  have e : F_House_seal_for [.im (.ref h), .im (.tup [.str "pair", .int a, .int b])] G = some (.im (.int n), G) := e
  simp [F_House_pair, runF,seqF,iteF',orF,andF,notF,tstF,opF,unF,bd,varF,conF,rt,consF,nilF,fldP,lenP,sq,pk,pkS,blE,ltP,leP,gtP,geP,intP,retF,retN,movF,boxF,bxE,mvE,skipF,dropF,asgF,gNm,ixP,orP,ixS,ixD,getD',subP,addP,addI,mulP,mulI,fdivP,modP,powP,shlP,shrP,negP,callP,vlA,methF,makeP,tupP,lstP,imA,imE,bmF,isLst,append1P,pop0P,fldS,putF',putQ,keyI,keyT,keysI,valI,ifE,isQ,slOk,truE,eqP,neP,eqE,mixI,eqD,flI,eqFl,tpl,newK,newT,one, S.ob, n_for, e]
theorem seal_at {G : List M} {h g s : Nat} {gs : List Mk} (S : HG G h g s gs) : ∀ {f d : Nat} {n : Int} {ws : List Int}, d < f → Sl gs d n ws → F__law_seal f [.im (.ref h), .im (.tup (ws.map I.int))] G = some (.im (.int n), G)
  | 0, _, _, _, hf, _ => by omega
  | f + 1, 0, n, ws, hf, ⟨w, e, a⟩ => by
    subst e
    have e := leaf_at S a
    simp [F__law_seal, runF,seqF,iteF',orF,andF,notF,tstF,opF,unF,bd,varF,conF,rt,consF,nilF,fldP,lenP,sq,pk,pkS,blE,ltP,leP,gtP,geP,intP,retF,retN,movF,boxF,bxE,mvE,skipF,dropF,asgF,gNm,ixP,orP,ixS,ixD,getD',subP,addP,addI,mulP,mulI,fdivP,modP,powP,shlP,shrP,negP,callP,vlA,methF,makeP,tupP,lstP,imA,imE,bmF,isLst,append1P,pop0P,fldS,putF',putQ,keyI,keyT,keysI,valI,ifE,isQ,slOk,truE,eqP,neP,eqE,mixI,eqD,flI,eqFl,tpl,newK,newT,one, at0, S.ob, n_leaf, e]
  | f + 1, d + 1, n, ws, hf, ⟨a, b, l, r, e, l1, l2, at_, s1, s2⟩ => by
    have ia := seal_at (f := f) S (by omega) s1
    have ib := seal_at (f := f) S (by omega) s2
    have e2 := pair_at S at_
    have p0 : 0 < 2 ^ d := Nat.two_pow_pos d
    have lw : ws.length = 2 * 2 ^ d := by rw [e, List.length_append]; omega
    have c1 : cutI (ws.map I.int) none (some ((2 ^ d : Nat) : Int)) = l.map I.int := by rw [cut_lo, ← List.map_take, e, ← l1, List.take_left']; rfl
    have c2 : cutI (ws.map I.int) (some ((2 ^ d : Nat) : Int)) none = r.map I.int := by rw [cut_hi (by simp; omega), ← List.map_drop, e, ← l1, List.drop_left']; rfl
    obtain ⟨N, hN⟩ : ∃ N, 2 ^ d = N := ⟨_, rfl⟩
    rw [hN] at p0 lw c1 c2
    have h1 : ¬ ((ws.length : Int) = 1) := by omega
    have h2 : (ws.length : Int) / 2 = (N : Int) := by omega
    refine run_rt rfl ?_
    refine seq_go (ite_f (δ1 := [some (.im (.ref h)), some (.im (.tup (ws.map I.int))), none, none]) (G1 := G) (by simp [runF,seqF,iteF',orF,andF,notF,tstF,opF,unF,bd,varF,conF,rt,consF,nilF,fldP,lenP,sq,pk,pkS,blE,ltP,leP,gtP,geP,intP,retF,retN,movF,boxF,bxE,mvE,skipF,dropF,asgF,gNm,ixP,orP,ixS,ixD,getD',subP,addP,addI,mulP,mulI,fdivP,modP,powP,shlP,shrP,negP,callP,vlA,methF,makeP,tupP,lstP,imA,imE,bmF,isLst,append1P,pop0P,fldS,putF',putQ,keyI,keyT,keysI,valI,ifE,isQ,slOk,truE,eqP,neP,eqE,mixI,eqD,flI,eqFl,tpl,newK,newT,one]; omega) rfl) ?_
    refine seq_go (asg_go (x := .im (.int N)) (δ1 := [some (.im (.ref h)), some (.im (.tup (ws.map I.int))), none, none]) (G1 := G) (by simp [runF,seqF,iteF',orF,andF,notF,tstF,opF,unF,bd,varF,conF,rt,consF,nilF,fldP,lenP,sq,pk,pkS,blE,ltP,leP,gtP,geP,intP,retF,retN,movF,boxF,bxE,mvE,skipF,dropF,asgF,gNm,ixP,orP,ixS,ixD,getD',subP,addP,addI,mulP,mulI,fdivP,modP,powP,shlP,shrP,negP,callP,vlA,methF,makeP,tupP,lstP,imA,imE,bmF,isLst,append1P,pop0P,fldS,putF',putQ,keyI,keyT,keysI,valI,ifE,isQ,slOk,truE,eqP,neP,eqE,mixI,eqD,flI,eqFl,tpl,newK,newT,one, h2]) rfl) ?_
    refine seq_go (asg_go (x := .im (.int a)) (δ1 := [some (.im (.ref h)), some (.im (.tup (ws.map I.int))), some (.im (.int N)), none]) (G1 := G) (by simp [runF,seqF,iteF',orF,andF,notF,tstF,opF,unF,bd,varF,conF,rt,consF,nilF,fldP,lenP,sq,pk,pkS,blE,ltP,leP,gtP,geP,intP,retF,retN,movF,boxF,bxE,mvE,skipF,dropF,asgF,gNm,ixP,orP,ixS,ixD,getD',subP,addP,addI,mulP,mulI,fdivP,modP,powP,shlP,shrP,negP,callP,vlA,methF,makeP,tupP,lstP,imA,imE,bmF,isLst,append1P,pop0P,fldS,putF',putQ,keyI,keyT,keysI,valI,ifE,isQ,slOk,truE,eqP,neP,eqE,mixI,eqD,flI,eqFl,tpl,newK,newT,one, sliF, noPt, somePt, ptE, sliQ, c1, ia]) rfl) ?_
    simp [runF,seqF,iteF',orF,andF,notF,tstF,opF,unF,bd,varF,conF,rt,consF,nilF,fldP,lenP,sq,pk,pkS,blE,ltP,leP,gtP,geP,intP,retF,retN,movF,boxF,bxE,mvE,skipF,dropF,asgF,gNm,ixP,orP,ixS,ixD,getD',subP,addP,addI,mulP,mulI,fdivP,modP,powP,shlP,shrP,negP,callP,vlA,methF,makeP,tupP,lstP,imA,imE,bmF,isLst,append1P,pop0P,fldS,putF',putQ,keyI,keyT,keysI,valI,ifE,isQ,slOk,truE,eqP,neP,eqE,mixI,eqD,flI,eqFl,tpl,newK,newT,one, sliF, noPt, somePt, ptE, sliQ, c2, ib, S.ob, n_pair, e2]
end Q
namespace Q
open PySem L2 B
/-- the place beside -/
def bes (m : Nat) : Nat := if m % 2 = 0 then m + 1 else m - 1
theorem xor1 (m : Nat) : Builtin.bitXor (m : Int) 1 = (bes m : Int) := by
  rw [PyProof.Rows.bitXor_and, PyProof.Rows.bitAnd_m1]
  unfold bes
  split <;> omega
/-- the part of a row -/
def prt (W : List Int) (k j : Nat) : List Int := (W.drop (k * 2 ^ j)).take (2 ^ j)
theorem Sl.way {gs : List Mk} {W : List Int} {k : Nat} : ∀ {r : Nat} {n : Int}, Sl gs r n (prt W (k / 2 ^ r) r) → ∃ n0 ss w, desc gs k r n = some (n0, ss) ∧ At gs n0 (.leaf w) ∧ W[k]? = some w ∧ ∀ j, j < r → ∃ m, ss.reverse[j]? = some m ∧ Sl gs j m (prt W (bes (k / 2 ^ j)) j)
  | 0, n, ⟨w, e, a⟩ => by
    refine ⟨n, [], w, rfl, a, ?_, fun j hj => by omega⟩
    unfold prt at e
    simp only [Nat.pow_zero, Nat.div_one, Nat.mul_one] at e
    have := congrArg (·[0]?) e
    simpa [List.getElem?_take, List.getElem?_drop] using this
  | r + 1, n, ⟨a, b, l, rr, e, l1, l2, at_, s1, s2⟩ => by
    have hk : k / 2 ^ (r + 1) = k / 2 ^ r / 2 := by rw [Nat.pow_succ, Nat.div_div_eq_div_mul]
    have hlook := look_at at_
    have p2 : 2 ^ (r + 1) = 2 ^ r + 2 ^ r := by rw [Nat.pow_succ]; omega
    have el : l = (W.drop (k / 2 ^ r / 2 * 2 ^ (r + 1))).take (2 ^ r) := by
      have := congrArg (·.take (2 ^ r)) e
      unfold prt at this
      rw [hk] at this
      simp only [List.take_take] at this
      rw [Nat.min_eq_left (by omega), ← l1, List.take_left'] at this
      · rw [l1] at this; exact this.symm
      · rfl
    have er : rr = (W.drop (k / 2 ^ r / 2 * 2 ^ (r + 1) + 2 ^ r)).take (2 ^ r) := by
      have := congrArg (·.drop (2 ^ r)) e
      unfold prt at this
      rw [hk] at this
      simp only [List.drop_take, List.drop_drop] at this
      rw [show 2 ^ (r + 1) - 2 ^ r = 2 ^ r by omega] at this
      conv at this => rhs; rw [← l1, List.drop_left']
      exact this.symm
    unfold desc
    rw [hlook]
    dsimp only
    by_cases z : k / 2 ^ r % 2 = 0
    · rw [if_pos z]
      have e1 : l = prt W (k / 2 ^ r) r := by
        rw [el]; unfold prt; congr 2
        rw [Nat.pow_succ, Nat.mul_comm (2 ^ r) 2, ← Nat.mul_assoc]; congr 1; omega
      have e2 : rr = prt W (bes (k / 2 ^ r)) r := by
        rw [er]; unfold prt bes; rw [if_pos z]; congr 2
        rw [Nat.add_mul, Nat.one_mul, Nat.pow_succ, Nat.mul_comm (2 ^ r) 2, ← Nat.mul_assoc]; congr 2; omega
      rw [e1] at s1
      obtain ⟨n0, ss, w, d1, a1, w1, sb⟩ := Sl.way s1
      refine ⟨n0, b :: ss, w, by rw [d1]; rfl, a1, w1, fun j hj => ?_⟩
      have ls := desc_len d1
      by_cases q : j = r
      · subst q
        exact ⟨b, by rw [List.reverse_cons, List.getElem?_append_right (by simp [ls]), List.length_reverse, ls]; simp, by rw [← e2]; exact s2⟩
      · obtain ⟨m, h1, h2⟩ := sb j (by omega)
        exact ⟨m, by rw [List.reverse_cons, List.getElem?_append_left (by simp; omega)]; exact h1, h2⟩
    · rw [if_neg z]
      have e1 : rr = prt W (k / 2 ^ r) r := by
        rw [er]; unfold prt; congr 2
        rw [Nat.pow_succ, Nat.mul_comm (2 ^ r) 2, ← Nat.mul_assoc]
        have : k / 2 ^ r = k / 2 ^ r / 2 * 2 + 1 := by omega
        conv => rhs; rw [this, Nat.add_mul, Nat.one_mul]
      have e2 : l = prt W (bes (k / 2 ^ r)) r := by
        rw [el]; unfold prt bes; rw [if_neg z]; congr 2
        rw [Nat.pow_succ, Nat.mul_comm (2 ^ r) 2, ← Nat.mul_assoc]; congr 1; omega
      rw [e1] at s2
      obtain ⟨n0, ss, w, d1, a1, w1, sb⟩ := Sl.way s2
      refine ⟨n0, a :: ss, w, by rw [d1]; rfl, a1, w1, fun j hj => ?_⟩
      have ls := desc_len d1
      by_cases q : j = r
      · subst q
        exact ⟨a, by rw [List.reverse_cons, List.getElem?_append_right (by simp [ls]), List.length_reverse, ls]; simp, by rw [← e2]; exact s1⟩
      · obtain ⟨m, h1, h2⟩ := sb j (by omega)
        exact ⟨m, by rw [List.reverse_cons, List.getElem?_append_left (by simp; omega)]; exact h1, h2⟩
theorem sl_way {gs : List Mk} {W : List Int} {k d : Nat} {n : Int} (h : Sl gs d n W) (hk : k < 2 ^ d) : ∃ w ss, way gs d n k = some (w, ss) ∧ W[k]? = some w ∧ ss.length = d ∧ ∀ j, j < d → ∃ m, ss[j]? = some m ∧ Sl gs j m (prt W (bes (k / 2 ^ j)) j) := by
  have e0 : prt W (k / 2 ^ d) d = W := by
    unfold prt
    rw [Nat.div_eq_of_lt hk, Nat.zero_mul, List.drop_zero, List.take_of_length_le (by rw [h.len]; exact Nat.le_refl _)]
  rw [← e0] at h
  obtain ⟨n0, ss, w, d1, a1, w1, sb⟩ := Sl.way h
  refine ⟨w, ss.reverse, ?_, w1, by rw [List.length_reverse]; exact desc_len d1, sb⟩
  unfold Q.way
  rw [d1]
  dsimp only
  rw [look_at a1]
/-- at another depth there is nothing -/
theorem sl_none {gs : List Mk} {k : Nat} : ∀ {d d' : Nat} {n : Int} {W : List Int}, Sl gs d n W → d' ≠ d → way gs d' n k = none
  | 0, 0, n, W, h, hd => absurd rfl hd
  | 0, d' + 1, n, W, ⟨w, e, a⟩, hd => by
    unfold Q.way desc; rw [look_at a]
  | d + 1, 0, n, W, ⟨a, b, l, rr, e, l1, l2, at_, s1, s2⟩, hd => by
    unfold Q.way desc; dsimp only; rw [look_at at_]
  | d + 1, d' + 1, n, W, ⟨a, b, l, rr, e, l1, l2, at_, s1, s2⟩, hd => by
    have i1 := sl_none (k := k) s1 (d' := d') (by omega)
    have i2 := sl_none (k := k) s2 (d' := d') (by omega)
    unfold Q.way at i1 i2 ⊢
    unfold desc
    rw [look_at at_]
    dsimp only
    split
    · rename_i n' ss q
      split at q
      · cases c : desc gs k d' a with
        | none => rw [c] at q; cases q
        | some p => rw [c] at q i1; cases q; exact (by
            split
            · rename_i z; dsimp only at i1; rw [z] at i1; cases i1
            · rfl)
      · cases c : desc gs k d' b with
        | none => rw [c] at q; cases q
        | some p => rw [c] at q i2; cases q; exact (by
            split
            · rename_i z; dsimp only at i2; rw [z] at i2; cases i2
            · rfl)
    · rfl
theorem way_none {gs : List Mk} {k d : Nat} {n : Int} (h : look gs n = none) : way gs d n k = none := by
  unfold Q.way
  cases d with
  | zero => unfold desc; dsimp only; rw [h]
  | succ d => unfold desc; rw [h]
theorem bes_lt {m r : Nat} (h : m < 2 ^ (r + 1)) : bes m < 2 ^ (r + 1) := by
  rw [Nat.pow_succ] at h ⊢
  unfold bes
  split <;> omega
theorem prt_in {k d j : Nat} (hk : k < 2 ^ d) (hj : j < d) : bes (k / 2 ^ j) * 2 ^ j + 2 ^ j ≤ 2 ^ d := by
  obtain ⟨r, rfl⟩ : ∃ r, d = j + (r + 1) := ⟨d - j - 1, by omega⟩
  have : k / 2 ^ j < 2 ^ (r + 1) := by rw [Nat.div_lt_iff_lt_mul (Nat.two_pow_pos j), Nat.mul_comm, ← Nat.pow_add]; exact hk
  have b := bes_lt this
  rw [Nat.pow_add]
  have : bes (k / 2 ^ j) + 1 ≤ 2 ^ (r + 1) := b
  have := Nat.mul_le_mul_right (2 ^ j) this
  rw [Nat.add_mul, Nat.one_mul] at this
  rw [Nat.mul_comm (2 ^ j)]
  exact this
end Q
namespace Q
open PySem L2 B
def sibD (h : Nat) (W : List Int) (d k : Nat) (ss : List Int) (v5 v6 v7 : Option Vl) : De := [some (.im (.ref h)), some (.im (.tup (W.map I.int))), some (.im (.int d)), some (.im (.int k)), some (.ow (.lst (ss.map I.int))), v5, v6, v7]
theorem sib_1 {h d k i N : Nat} {W ss : List Int} {v6 v7 : Option Vl} {G : List M} (b1 : (i : Int) ≤ 1000000) (pw : (2 : Int) ^ i = (N : Int)) : asgF (opF shlP (conF (.int 1)) (varF 5)) (gNm 6) (sibD h W d k ss (some (.im (.int i))) v6 v7) G = some (.nx (sibD h W d k ss (some (.im (.int i))) (some (.im (.int N))) v7) G) := by
  simp [sibD, runF,seqF,iteF',orF,andF,notF,tstF,opF,unF,bd,varF,conF,rt,consF,nilF,fldP,lenP,sq,pk,pkS,blE,ltP,leP,gtP,geP,intP,retF,retN,movF,boxF,bxE,mvE,skipF,dropF,asgF,gNm,ixP,orP,ixS,ixD,getD',subP,addP,addI,mulP,mulI,fdivP,modP,powP,shlP,shrP,negP,callP,vlA,methF,makeP,tupP,lstP,imA,imE,bmF,isLst,append1P,pop0P,fldS,putF',putQ,keyI,keyT,keysI,valI,ifE,isQ,slOk,truE,eqP,neP,eqE,mixI,eqD,flI,eqFl,tpl,newK,newT,one, b1, pw]
theorem sib_2 {h d k : Nat} {N P : Int} {W ss : List Int} {v5 v7 : Option Vl} {G : List M} (pp : 0 < N) (p6 : N ≤ 64) (xo : Builtin.bitXor ((k : Int) / N) 1 = P) : asgF (opF mulP (opF xorP (opF fdivP (varF 3) (varF 6)) (conF (.int 1))) (varF 6)) (gNm 7) (sibD h W d k ss v5 (some (.im (.int N))) v7) G = some (.nx (sibD h W d k ss v5 (some (.im (.int N))) (some (.im (.int (P * N))))) G) := by
  have c2 : N < 1606938044258990275541962092341162602522202993782792835301376 := Int.lt_trans (show N < 65 by omega) (by decide)
  have c3 : -18446744073709551616 < N := by omega
  have c4 : N < 18446744073709551616 := by omega
  simp [sibD, runF,seqF,iteF',orF,andF,notF,tstF,opF,unF,bd,varF,conF,rt,consF,nilF,fldP,lenP,sq,pk,pkS,blE,ltP,leP,gtP,geP,intP,retF,retN,movF,boxF,bxE,mvE,skipF,dropF,asgF,gNm,ixP,orP,ixS,ixD,getD',subP,addP,addI,mulP,mulI,fdivP,modP,powP,shlP,shrP,negP,callP,vlA,methF,makeP,tupP,lstP,imA,imE,bmF,isLst,append1P,pop0P,fldS,putF',putQ,keyI,keyT,keysI,valI,ifE,isQ,slOk,truE,eqP,neP,eqE,mixI,eqD,flI,eqFl,tpl,newK,newT,one, pp, c2, c3, c4, xorP, xo]
theorem sib_3 {h d k f : Nat} {N T m : Int} {W ss Q' : List Int} {v5 : Option Vl} {G : List M} (cu : cutI (W.map I.int) (some T) (some (T + N)) = Q'.map I.int) (e1 : F__law_seal f [.im (.ref h), .im (.tup (Q'.map I.int))] G = some (.im (.int m), G)) (lt : ss.length < 1000) : dropF (bmF append1P (varF 4) (consF (bd (consF (varF 0) (consF (sliF (varF 1) (somePt (varF 7)) (somePt (opF addP (varF 7) (varF 6)))) nilF)) (callP 2 (F__law_seal f))) nilF)) (sibD h W d k ss v5 (some (.im (.int N))) (some (.im (.int T)))) G = some (.nx (sibD h W d k (ss ++ [m]) v5 (some (.im (.int N))) (some (.im (.int T)))) G) := by
  have lt' : ss.length < 1000000 := by omega
  simp [sibD, runF,seqF,iteF',orF,andF,notF,tstF,opF,unF,bd,varF,conF,rt,consF,nilF,fldP,lenP,sq,pk,pkS,blE,ltP,leP,gtP,geP,intP,retF,retN,movF,boxF,bxE,mvE,skipF,dropF,asgF,gNm,ixP,orP,ixS,ixD,getD',subP,addP,addI,mulP,mulI,fdivP,modP,powP,shlP,shrP,negP,callP,vlA,methF,makeP,tupP,lstP,imA,imE,bmF,isLst,append1P,pop0P,fldS,putF',putQ,keyI,keyT,keysI,valI,ifE,isQ,slOk,truE,eqP,neP,eqE,mixI,eqD,flI,eqFl,tpl,newK,newT,one, sliF, somePt, ptE, sliQ, cu, e1, lt']
theorem sib_turn {G : List M} {h g s d i : Nat} {gs : List Mk} {W : List Int} {k : Nat} {ss : List Int} {v6 v7 : Option Vl} (S : HG G h g s gs) (hd : d ≤ 6) (hW : W.length = 2 ^ d) (hk : k < 2 ^ d) (ls : ss.length = d) (hi : i < d)
    (hs : ∀ j, j < d → ∃ m, ss[j]? = some m ∧ Sl gs j m (prt W (bes (k / 2 ^ j)) j)) : ∃ v6' v7', F__law_siblings_w1b (sibD h W d k (ss.take i) (some (.im (.int i))) v6 v7) G = some (.nx (sibD h W d k (ss.take (i + 1)) (some (.im (.int i))) v6' v7') G) := by
  obtain ⟨m, hm, sl⟩ := hs i hi
  have e1 := seal_at (f := 8) S (by omega) sl
  have pin := prt_in hk hi
  have pw : (2 : Int) ^ i = ((2 ^ i : Nat) : Int) := by push_cast; rfl
  have cu : cutI (W.map I.int) (some ((bes (k / 2 ^ i) * 2 ^ i : Nat) : Int)) (some ((bes (k / 2 ^ i) * 2 ^ i + 2 ^ i : Nat) : Int)) = (prt W (bes (k / 2 ^ i)) i).map I.int := by
    rw [cut_mid (by simp; omega), ← List.map_drop, ← List.map_take]; rfl
  have p6 : (2 : Nat) ^ i ≤ 2 ^ 6 := Nat.pow_le_pow_right (by decide) (by omega)
  have p6 : 2 ^ i ≤ 64 := p6
  have pp : 0 < 2 ^ i := Nat.two_pow_pos i
  have ta : ss.take (i + 1) = ss.take i ++ [m] := by rw [List.take_add_one, hm]; rfl
  rw [ta]
  have lt : (ss.take i).length < 1000 := by rw [List.length_take]; omega
  rw [show ((bes (k / 2 ^ i) * 2 ^ i + 2 ^ i : Nat) : Int) = ((bes (k / 2 ^ i) * 2 ^ i : Nat) : Int) + ((2 ^ i : Nat) : Int) by rw [Int.natCast_add], Int.natCast_mul] at cu
  have xo := xor1 (k / 2 ^ i)
  generalize 2 ^ i = N at *
  have xo : Builtin.bitXor ((k : Int) / (N : Int)) 1 = (bes (k / N) : Int) := by rw [← xo]; push_cast; rfl
  exact ⟨_, _, seq_go (sib_1 (by omega) pw) (seq_go (sib_2 (by omega) (by omega) xo) (sib_3 cu e1 lt))⟩
theorem siblings_ok {G : List M} {h g s d : Nat} {gs : List Mk} {W : List Int} {k : Nat} {ss : List Int} (S : HG G h g s gs) (hd : d ≤ 6) (hW : W.length = 2 ^ d) (hk : k < 2 ^ d) (ls : ss.length = d)
    (hs : ∀ j, j < d → ∃ m, ss[j]? = some m ∧ Sl gs j m (prt W (bes (k / 2 ^ j)) j)) : F__law_siblings [.im (.ref h), .im (.tup (W.map I.int)), .im (.int d), .im (.int k)] G = some (.im (.tup (ss.map I.int)), G) := by
  obtain ⟨δ', G', e2, v5, v6, v7, ed, eg⟩ := fT_inv (w := upW d) (g := gNm 5) (b := F__law_siblings_w1b)
    (fun i δ G' => ∃ (v5 v6 v7 : Option Vl), δ = sibD h W d k (ss.take i) v5 v6 v7 ∧ G' = G)
    (fun i δ Ga hi ⟨v5, v6, v7, ed, eg⟩ => by
      have hi : i < d := hi
      subst ed; subst eg
      obtain ⟨v6', v7', e⟩ := sib_turn (v6 := v6) (v7 := v7) S hd hW hk ls hi hs
      exact ⟨.int i, _, Ga, _, Ga, rfl, rfl, e, _, _, _, rfl, rfl⟩)
    (fun _ _ _ => rfl) d 0 (sibD h W d k [] none none none) G (by simp [upW]) ⟨none, none, none, rfl, rfl⟩
  subst ed; subst eg
  rw [upW_n, ← ls, List.take_length, ls] at e2
  refine run_rt rfl ?_
  refine seq_go (asg_go (x := .ow (.lst [])) (δ1 := [some (.im (.ref h)), some (.im (.tup (W.map I.int))), some (.im (.int d)), some (.im (.int k)), none, none, none, none]) (G1 := G') (by simp [runF,seqF,iteF',orF,andF,notF,tstF,opF,unF,bd,varF,conF,rt,consF,nilF,fldP,lenP,sq,pk,pkS,blE,ltP,leP,gtP,geP,intP,retF,retN,movF,boxF,bxE,mvE,skipF,dropF,asgF,gNm,ixP,orP,ixS,ixD,getD',subP,addP,addI,mulP,mulI,fdivP,modP,powP,shlP,shrP,negP,callP,vlA,methF,makeP,tupP,lstP,imA,imE,bmF,isLst,append1P,pop0P,fldS,putF',putQ,keyI,keyT,keysI,valI,ifE,isQ,slOk,truE,eqP,neP,eqE,mixI,eqD,flI,eqFl,tpl,newK,newT,one]) rfl) ?_
  refine seq_go (for_go (rng_it (n := d) (j := d) rfl rfl (by omega)) e2) ?_
  simp [sibD, runF,seqF,iteF',orF,andF,notF,tstF,opF,unF,bd,varF,conF,rt,consF,nilF,fldP,lenP,sq,pk,pkS,blE,ltP,leP,gtP,geP,intP,retF,retN,movF,boxF,bxE,mvE,skipF,dropF,asgF,gNm,ixP,orP,ixS,ixD,getD',subP,addP,addI,mulP,mulI,fdivP,modP,powP,shlP,shrP,negP,callP,vlA,methF,makeP,tupP,lstP,imA,imE,bmF,isLst,append1P,pop0P,fldS,putF',putQ,keyI,keyT,keysI,valI,ifE,isQ,slOk,truE,eqP,neP,eqE,mixI,eqD,flI,eqFl,tpl,newK,newT,one, tupleP]
end Q
namespace Q
open PySem L2 B
structure Wd (d l h g s : Nat) (G : List M) (gs : List Mk) : Prop where
  D : DG G d l
  S : HG G h g s gs
  n1 : d ≠ g
  n2 : d ≠ s
  n3 : l ≠ g
  n4 : l ≠ s
  n5 : h ≠ d
  n6 : h ≠ l
theorem Mor.dg {d l g s : Nat} {G G' : List M} (o : Mor g s G G') (D : DG G d l) (h1 : d ≠ g) (h2 : d ≠ s) (h3 : l ≠ g) (h4 : l ≠ s) : DG G' d l := by
  obtain ⟨k1, k2⟩ := D.lt
  obtain ⟨a, n, ms, D⟩ := D
  exact ⟨a, n, ms, by rw [o.at_ d k1 h1 h2]; exact D.dc, by rw [o.at_ l k2 h3 h4]; exact D.lc, D.ne, D.a0, D.a1, D.n0, D.m0⟩
theorem Mor.hg {d l h g s : Nat} {G G' : List M} {gs : List Mk} (o : Mor d l G G') (S : HG G h g s gs) (h1 : d ≠ g) (h2 : d ≠ s) (h3 : l ≠ g) (h4 : l ≠ s) (h5 : h ≠ d) (h6 : h ≠ l) : HG G' h g s gs := by
  obtain ⟨k1, k2, k3⟩ := S.lt
  exact ⟨by rw [o.at_ h k1 h5 h6]; exact S.ob, by rw [o.at_ g k2 h1.symm h3.symm]; exact S.gl, by rw [o.at_ s k3 h2.symm h4.symm]; exact S.sd, S.n1, S.n2, S.n3, S.nd⟩
theorem Wd.ofD {d l h g s : Nat} {G G' : List M} {gs : List Mk} (W : Wd d l h g s G gs) (D : DG G' d l) (o : Mor d l G G') : Wd d l h g s G' gs := ⟨D, o.hg W.S W.n1 W.n2 W.n3 W.n4 W.n5 W.n6, W.n1, W.n2, W.n3, W.n4, W.n5, W.n6⟩
theorem Wd.ofS {d l h g s : Nat} {G G' : List M} {gs gs' : List Mk} (W : Wd d l h g s G gs) (S : HG G' h g s gs') (o : Mor g s G G') : Wd d l h g s G' gs' := ⟨o.dg W.D W.n1 W.n2 W.n3 W.n4, S, W.n1, W.n2, W.n3, W.n4, W.n5, W.n6⟩
variable {d l h g s : Nat} {G : List M} {gs : List Mk}
theorem Wd.draw {many : Int} (W : Wd d l h g s G gs) (h0 : 0 < many) (h1 : many < 2 ^ 100) : ∃ r G', F__law_draw [.im (.ref d), .im (.int many)] G = some (.im (.int r), G') ∧ 0 ≤ r ∧ r < many ∧ Wd d l h g s G' gs := by
  obtain ⟨r, G', e, a, b, D, o⟩ := draw_ok W.D h0 h1
  exact ⟨r, G', e, a, b, W.ofD D o.mor⟩
theorem Wd.word (W : Wd d l h g s G gs) : ∃ w G', F__law_word [.im (.ref d)] G = some (.im (.int w), G') ∧ Wd d l h g s G' gs := by
  obtain ⟨r, G', e, D, o⟩ := word_ok W.D
  exact ⟨r, G', e, W.ofD D o.mor⟩
theorem Wd.row {dp : Nat} (W : Wd d l h g s G gs) (hd : dp ≤ 6) : ∃ (ws : List Int) (G' : List M), F__law_row [.im (.ref d), .im (.int dp)] G = some (.im (.tup (ws.map I.int)), G') ∧ ws.length = 2 ^ dp ∧ Wd d l h g s G' gs := by
  obtain ⟨r, G', e, le, D, o⟩ := row_ok W.D hd
  exact ⟨r, G', e, le, W.ofD D o⟩
theorem Wd.seal {dp : Nat} {ws : List Int} (W : Wd d l h g s G gs) (hw : ws.length = 2 ^ dp) (hd : dp ≤ 6) (hl : gs.length < 80000) : ∃ n gs' G', F_seal_of [.im (.ref h), .im (.tup (ws.map I.int))] G = some (.im (.int n), G') ∧ Wd d l h g s G' gs' ∧ Ext 128 gs gs' ∧ Sl gs' dp n ws := by
  obtain ⟨n, gs', G', e, S, x, sl, o⟩ := seal_of_ok W.S hw hd hl
  exact ⟨n, gs', G', e, W.ofS S o, x, sl⟩
theorem Wd.leaf {w : Int} (W : Wd d l h g s G gs) (hl : gs.length < 100000) : ∃ n gs' G', F_House_leaf [.im (.ref h), .im (.int w)] G = some (.im (.int n), G') ∧ Wd d l h g s G' gs' ∧ At gs' n (.leaf w) ∧ Ext 1 gs gs' := by
  obtain ⟨n, gs', G', e, S, a, x, o⟩ := leaf_ok (w := w) W.S hl
  exact ⟨n, gs', G', e, W.ofS S o.mor, a, x⟩
theorem Wd.pair {a b : Int} (W : Wd d l h g s G gs) (hl : gs.length < 100000) : ∃ n gs' G', F_House_pair [.im (.ref h), .im (.int a), .im (.int b)] G = some (.im (.int n), G') ∧ Wd d l h g s G' gs' ∧ At gs' n (.pair a b) ∧ Ext 1 gs gs' := by
  obtain ⟨n, gs', G', e, S, a, x, o⟩ := pair_ok (a := a) (b := b) W.S hl
  exact ⟨n, gs', G', e, W.ofS S o.mor, a, x⟩
inductive Tr where
  | leaf (n w : Int) | pair (n : Int) (a b : Tr)
def Tr.is : Tr → List I
  | .leaf n w => [.str "leaf", .int n, .int w]
  | .pair n a b => [.str "pair", .int n, .tup a.is, .tup b.is]
def Tr.n : Tr → Int
  | .leaf n _ => n
  | .pair n _ _ => n
def UT (gs : List Mk) : Tr → Prop
  | .leaf n w => At gs n (.leaf w)
  | .pair n a b => At gs n (.pair a.n b.n) ∧ UT gs a ∧ UT gs b
theorem UT.ext {k : Nat} {gs g1 : List Mk} (x : Ext k gs g1) : ∀ {t : Tr}, UT gs t → UT g1 t
  | .leaf _ _, h => At.ext h x
  | .pair _ _ _, h => ⟨h.1.ext x, UT.ext x h.2.1, UT.ext x h.2.2⟩
theorem Tr.at1 (t : Tr) : atI t.is 1 = some (.int t.n) := by cases t <;> exact Q.at1 _ _ _
theorem at3 {α : Type} (x y z u : α) (r : List α) : atI (x :: y :: z :: u :: r) 3 = some u := atI_nat (j := 3) rfl
theorem uneven_ok : ∀ (f far : Nat) {G : List M} {gs : List Mk}, far < f → Wd d l h g s G gs → gs.length + 2 ^ (far + 1) < 80000 → ∃ t gs' G', F__law_uneven f [.im (.ref d), .im (.ref h), .im (.int far)] G = some (.im (.tup t.is), G') ∧ UT gs' t ∧ Wd d l h g s G' gs' ∧ Ext (2 ^ (far + 1) - 1) gs gs'
  | 0, far, G, gs, hf, W, hl => by omega
  | f + 1, far, G, gs, hf, W, hl => by
    have pp : 2 ≤ 2 ^ (far + 1) := by rw [Nat.pow_succ]; have := Nat.two_pow_pos far; omega
    have stop : ∀ {G1 : List M} {e : Prop}, Wd d l h g s G1 gs → (∀ {r : Option Fl}, seqF (asgF (bd (consF (varF 0) nilF) (callP 1 F__law_word)) (gNm 3)) (retF (bd (consF (conF (.str "leaf")) (consF (methF "House" "leaf" 2 F_House_leaf (varF 1) (consF (varF 3) nilF)) (consF (varF 3) nilF))) tupP)) [some (.im (.ref d)), some (.im (.ref h)), some (.im (.int far)), none, none, none] G1 = r → iteF' (orF (tstF (opF eqP (varF 2) (conF (.int 0)))) (tstF (opF eqP (bd (consF (varF 0) (consF (conF (.int 3)) nilF)) (callP 2 F__law_draw)) (conF (.int 0)))))
      (seqF (asgF (bd (consF (varF 0) nilF) (callP 1 F__law_word)) (gNm 3))
      (retF (bd (consF (conF (.str "leaf")) (consF (methF "House" "leaf" 2 F_House_leaf (varF 1) (consF (varF 3) nilF)) (consF (varF 3) nilF))) tupP)))
      skipF [some (.im (.ref d)), some (.im (.ref h)), some (.im (.int far)), none, none, none] G = r) → ∃ t gs' G', F__law_uneven (f + 1) [.im (.ref d), .im (.ref h), .im (.int far)] G = some (.im (.tup t.is), G') ∧ UT gs' t ∧ Wd d l h g s G' gs' ∧ Ext (2 ^ (far + 1) - 1) gs gs' := fun {G1} _ W1 hq => by
      obtain ⟨w, G2, e2, W2⟩ := W1.word
      obtain ⟨n, gs3, G3, e3, W3, a3, x3⟩ := W2.leaf (w := w) (by omega)
      refine ⟨.leaf n w, gs3, G3, ?_, a3, W3, x3.le (by omega)⟩
      refine run_rt rfl (seq_rt (hq ?_))
      refine seq_go (asg_go (x := .im (.int w)) (δ1 := [some (.im (.ref d)), some (.im (.ref h)), some (.im (.int far)), none, none, none]) (G1 := G2) (by simp [runF,seqF,iteF',orF,andF,notF,tstF,opF,unF,bd,varF,conF,rt,consF,nilF,fldP,lenP,sq,pk,pkS,blE,ltP,leP,gtP,geP,intP,retF,retN,movF,boxF,bxE,mvE,skipF,dropF,asgF,gNm,ixP,orP,ixS,ixD,getD',subP,addP,addI,mulP,mulI,fdivP,modP,powP,shlP,shrP,negP,callP,vlA,methF,makeP,tupP,lstP,imA,imE,bmF,isLst,append1P,pop0P,fldS,putF',putQ,keyI,keyT,keysI,valI,ifE,isQ,slOk,truE,eqP,neP,eqE,mixI,eqD,flI,eqFl,tpl,newK,newT,one, e2]) rfl) ?_
      simp [runF,seqF,iteF',orF,andF,notF,tstF,opF,unF,bd,varF,conF,rt,consF,nilF,fldP,lenP,sq,pk,pkS,blE,ltP,leP,gtP,geP,intP,retF,retN,movF,boxF,bxE,mvE,skipF,dropF,asgF,gNm,ixP,orP,ixS,ixD,getD',subP,addP,addI,mulP,mulI,fdivP,modP,powP,shlP,shrP,negP,callP,vlA,methF,makeP,tupP,lstP,imA,imE,bmF,isLst,append1P,pop0P,fldS,putF',putQ,keyI,keyT,keysI,valI,ifE,isQ,slOk,truE,eqP,neP,eqE,mixI,eqD,flI,eqFl,tpl,newK,newT,one, W2.S.ob, n_leaf, e3, Tr.is]
    by_cases z : far = 0
    · subst z
      exact stop (e := True) W fun hr => ite_t (or_t (tst_go (by simp [runF,seqF,iteF',orF,andF,notF,tstF,opF,unF,bd,varF,conF,rt,consF,nilF,fldP,lenP,sq,pk,pkS,blE,ltP,leP,gtP,geP,intP,retF,retN,movF,boxF,bxE,mvE,skipF,dropF,asgF,gNm,ixP,orP,ixS,ixD,getD',subP,addP,addI,mulP,mulI,fdivP,modP,powP,shlP,shrP,negP,callP,vlA,methF,makeP,tupP,lstP,imA,imE,bmF,isLst,append1P,pop0P,fldS,putF',putQ,keyI,keyT,keysI,valI,ifE,isQ,slOk,truE,eqP,neP,eqE,mixI,eqD,flI,eqFl,tpl,newK,newT,one]))) hr
    · have zb : ((far : Int) == 0) = false := beq_eq_false_iff_ne.mpr (by omega)
      obtain ⟨r1, G1, e1, _, _, W1⟩ := W.draw (many := 3) (by decide) (by decide)
      by_cases y : r1 = 0
      · subst y
        refine stop (e := True) W1 fun hr => ite_t (δ1 := [some (.im (.ref d)), some (.im (.ref h)), some (.im (.int far)), none, none, none]) (G1 := G1) ?_ hr
        simp [runF,seqF,iteF',orF,andF,notF,tstF,opF,unF,bd,varF,conF,rt,consF,nilF,fldP,lenP,sq,pk,pkS,blE,ltP,leP,gtP,geP,intP,retF,retN,movF,boxF,bxE,mvE,skipF,dropF,asgF,gNm,ixP,orP,ixS,ixD,getD',subP,addP,addI,mulP,mulI,fdivP,modP,powP,shlP,shrP,negP,callP,vlA,methF,makeP,tupP,lstP,imA,imE,bmF,isLst,append1P,pop0P,fldS,putF',putQ,keyI,keyT,keysI,valI,ifE,isQ,slOk,truE,eqP,neP,eqE,mixI,eqD,flI,eqFl,tpl,newK,newT,one, zb, e1]
      · have yb : (r1 == 0) = false := beq_eq_false_iff_ne.mpr y
        have p2 : 2 ^ (far + 1) = 2 * 2 ^ far := by rw [Nat.pow_succ]; omega
        have p3 : 2 ^ (far - 1 + 1) = 2 ^ far := by rw [show far - 1 + 1 = far by omega]
        have p4 : (far : Int) - 1 = ((far - 1 : Nat) : Int) := by omega
        have q0 : 0 < 2 ^ far := Nat.two_pow_pos far
        obtain ⟨t1, gs2, G2, e2, u2, W2, x2⟩ := uneven_ok f (far - 1) (by omega) W1 (by omega)
        have l2 := x2.len
        obtain ⟨t2, gs3, G3, e3, u3, W3, x3⟩ := uneven_ok f (far - 1) (by omega) W2 (by omega)
        have l3 := x3.len
        obtain ⟨n, gs4, G4, e4, W4, a4, x4⟩ := W3.pair (a := t1.n) (b := t2.n) (by omega)
        refine ⟨.pair n t1 t2, gs4, G4, ?_, ⟨a4, (u2.ext x3).ext x4, u3.ext x4⟩, W4, ((x2.trans x3).trans x4).le (by omega)⟩
        refine run_rt rfl ?_
        refine seq_go (ite_f (δ1 := [some (.im (.ref d)), some (.im (.ref h)), some (.im (.int far)), none, none, none]) (G1 := G1) (by simp [runF,seqF,iteF',orF,andF,notF,tstF,opF,unF,bd,varF,conF,rt,consF,nilF,fldP,lenP,sq,pk,pkS,blE,ltP,leP,gtP,geP,intP,retF,retN,movF,boxF,bxE,mvE,skipF,dropF,asgF,gNm,ixP,orP,ixS,ixD,getD',subP,addP,addI,mulP,mulI,fdivP,modP,powP,shlP,shrP,negP,callP,vlA,methF,makeP,tupP,lstP,imA,imE,bmF,isLst,append1P,pop0P,fldS,putF',putQ,keyI,keyT,keysI,valI,ifE,isQ,slOk,truE,eqP,neP,eqE,mixI,eqD,flI,eqFl,tpl,newK,newT,one, zb, yb, e1]) rfl) ?_
        rw [← p4] at e2 e3
        refine seq_go (asg_go (x := .im (.tup t1.is)) (δ1 := [some (.im (.ref d)), some (.im (.ref h)), some (.im (.int far)), none, none, none]) (G1 := G2) (by simp [runF,seqF,iteF',orF,andF,notF,tstF,opF,unF,bd,varF,conF,rt,consF,nilF,fldP,lenP,sq,pk,pkS,blE,ltP,leP,gtP,geP,intP,retF,retN,movF,boxF,bxE,mvE,skipF,dropF,asgF,gNm,ixP,orP,ixS,ixD,getD',subP,addP,addI,mulP,mulI,fdivP,modP,powP,shlP,shrP,negP,callP,vlA,methF,makeP,tupP,lstP,imA,imE,bmF,isLst,append1P,pop0P,fldS,putF',putQ,keyI,keyT,keysI,valI,ifE,isQ,slOk,truE,eqP,neP,eqE,mixI,eqD,flI,eqFl,tpl,newK,newT,one, e2]) rfl) ?_
        refine seq_go (asg_go (x := .im (.tup t2.is)) (δ1 := [some (.im (.ref d)), some (.im (.ref h)), some (.im (.int far)), none, some (.im (.tup t1.is)), none]) (G1 := G3) (by simp [runF,seqF,iteF',orF,andF,notF,tstF,opF,unF,bd,varF,conF,rt,consF,nilF,fldP,lenP,sq,pk,pkS,blE,ltP,leP,gtP,geP,intP,retF,retN,movF,boxF,bxE,mvE,skipF,dropF,asgF,gNm,ixP,orP,ixS,ixD,getD',subP,addP,addI,mulP,mulI,fdivP,modP,powP,shlP,shrP,negP,callP,vlA,methF,makeP,tupP,lstP,imA,imE,bmF,isLst,append1P,pop0P,fldS,putF',putQ,keyI,keyT,keysI,valI,ifE,isQ,slOk,truE,eqP,neP,eqE,mixI,eqD,flI,eqFl,tpl,newK,newT,one, e3]) rfl) ?_
        simp [runF,seqF,iteF',orF,andF,notF,tstF,opF,unF,bd,varF,conF,rt,consF,nilF,fldP,lenP,sq,pk,pkS,blE,ltP,leP,gtP,geP,intP,retF,retN,movF,boxF,bxE,mvE,skipF,dropF,asgF,gNm,ixP,orP,ixS,ixD,getD',subP,addP,addI,mulP,mulI,fdivP,modP,powP,shlP,shrP,negP,callP,vlA,methF,makeP,tupP,lstP,imA,imE,bmF,isLst,append1P,pop0P,fldS,putF',putQ,keyI,keyT,keysI,valI,ifE,isQ,slOk,truE,eqP,neP,eqE,mixI,eqD,flI,eqFl,tpl,newK,newT,one, W3.S.ob, n_pair, e4, Tr.is, Tr.at1]
theorem way_turn {t : Tr} {dp : I} {k r : Nat} {ss : List Int} {v5 : Option Vl} (hr : r ≤ 100) (hl : ss.length ≤ 100) :
    F__law_way_w1b [some (.im (.tup t.is)), some (.im dp), some (.im (.int k)), some (.im (.tup (ss.map I.int))), some (.im (.int r)), v5] G =
    match t with
    | .pair _ a b => some (.nx [some (.im (.tup (if k / 2 ^ r % 2 = 0 then a else b).is)), some (.im dp), some (.im (.int k)), some (.im (.tup (((if k / 2 ^ r % 2 = 0 then b else a).n :: ss).map I.int))), some (.im (.int r)), some (.im (.int (k / 2 ^ r % 2 : Nat)))] G)
    | .leaf _ _ => some (.rt (.im .non) G) := by
  cases t with
  | leaf n w => simp [F__law_way_w1b, runF,seqF,iteF',orF,andF,notF,tstF,opF,unF,bd,varF,conF,rt,consF,nilF,fldP,lenP,sq,pk,pkS,blE,ltP,leP,gtP,geP,intP,retF,retN,movF,boxF,bxE,mvE,skipF,dropF,asgF,gNm,ixP,orP,ixS,ixD,getD',subP,addP,addI,mulP,mulI,fdivP,modP,powP,shlP,shrP,negP,callP,vlA,methF,makeP,tupP,lstP,imA,imE,bmF,isLst,append1P,pop0P,fldS,putF',putQ,keyI,keyT,keysI,valI,ifE,isQ,slOk,truE,eqP,neP,eqE,mixI,eqD,flI,eqFl,tpl,newK,newT,one, Tr.is, at0, b_lp]
  | pair n a b =>
    have h3 : 1 + ss.length ≤ 1000000 := by omega
    have hr0 : (0 : Int) ≤ (r : Int) := by omega
    have bt : (k : Int) / 2 ^ r % 2 = ((k / 2 ^ r % 2 : Nat) : Int) := by push_cast; rfl
    rcases (show k / 2 ^ r % 2 = 0 ∨ k / 2 ^ r % 2 = 1 by omega) with z | z
    · rw [z] at bt
      have bt : (k : Int) / 2 ^ r % 2 = 0 := bt
      simp [F__law_way_w1b, runF,seqF,iteF',orF,andF,notF,tstF,opF,unF,bd,varF,conF,rt,consF,nilF,fldP,lenP,sq,pk,pkS,blE,ltP,leP,gtP,geP,intP,retF,retN,movF,boxF,bxE,mvE,skipF,dropF,asgF,gNm,ixP,orP,ixS,ixD,getD',subP,addP,addI,mulP,mulI,fdivP,modP,powP,shlP,shrP,negP,callP,vlA,methF,makeP,tupP,lstP,imA,imE,bmF,isLst,append1P,pop0P,fldS,putF',putQ,keyI,keyT,keysI,valI,ifE,isQ,slOk,truE,eqP,neP,eqE,mixI,eqD,flI,eqFl,tpl,newK,newT,one, Tr.is, at0, at2, at3, Tr.at1, bt, z, catT, catS, tpl, h3]
    · rw [z] at bt
      have bt : (k : Int) / 2 ^ r % 2 = 1 := bt
      simp [F__law_way_w1b, runF,seqF,iteF',orF,andF,notF,tstF,opF,unF,bd,varF,conF,rt,consF,nilF,fldP,lenP,sq,pk,pkS,blE,ltP,leP,gtP,geP,intP,retF,retN,movF,boxF,bxE,mvE,skipF,dropF,asgF,gNm,ixP,orP,ixS,ixD,getD',subP,addP,addI,mulP,mulI,fdivP,modP,powP,shlP,shrP,negP,callP,vlA,methF,makeP,tupP,lstP,imA,imE,bmF,isLst,append1P,pop0P,fldS,putF',putQ,keyI,keyT,keysI,valI,ifE,isQ,slOk,truE,eqP,neP,eqE,mixI,eqD,flI,eqFl,tpl,newK,newT,one, Tr.is, at0, at2, at3, Tr.at1, bt, z, catT, catS, tpl, h3]
theorem lway_loop {dp : I} {k q : Nat} : ∀ (r i : Nat) (t : Tr) (ss : List Int) (v4 v5 : Option Vl), UT gs t → i + r = q → q ≤ 100 → ss.length ≤ i →
    match desc gs k r t.n with
    | some (n', ss') => ∃ t' v4' v5', n' = t'.n ∧ UT gs t' ∧ fTurns (downW q) (gNm 4) F__law_way_w1b i r [some (.im (.tup t.is)), some (.im dp), some (.im (.int k)), some (.im (.tup (ss.map I.int))), v4, v5] G = some (.nx [some (.im (.tup t'.is)), some (.im dp), some (.im (.int k)), some (.im (.tup ((ss'.reverse ++ ss).map I.int))), v4', v5'] G)
    | none => fTurns (downW q) (gNm 4) F__law_way_w1b i r [some (.im (.tup t.is)), some (.im dp), some (.im (.int k)), some (.im (.tup (ss.map I.int))), v4, v5] G = some (.rt (.im .non) G)
  | 0, i, t, ss, v4, v5, u, h1, h2, h3 => by
    show ∃ _, _
    exact ⟨t, v4, v5, rfl, u, by unfold fTurns; simp [downW]⟩
  | r + 1, i, t, ss, v4, v5, u, h1, h2, h3 => by
    have ei : (q : Int) - 1 - i = r := by omega
    have tt := way_turn (G := G) (t := t) (dp := dp) (k := k) (r := r) (ss := ss) (v5 := v5) (by omega) (by omega)
    have hat : (downW q).at_ i [some (.im (.tup t.is)), some (.im dp), some (.im (.int k)), some (.im (.tup (ss.map I.int))), v4, v5] G = some (.int r) := by simp [downW, ei]
    have hg : gNm 4 (.im (.int r)) [some (.im (.tup t.is)), some (.im dp), some (.im (.int k)), some (.im (.tup (ss.map I.int))), v4, v5] G = some ([some (.im (.tup t.is)), some (.im dp), some (.im (.int k)), some (.im (.tup (ss.map I.int))), some (.im (.int r)), v5], G) := rfl
    cases t with
    | leaf n w =>
      have lk : look gs (Tr.leaf n w).n = some (.leaf w) := look_at u
      unfold desc
      rw [lk]
      dsimp only at tt ⊢
      unfold fTurns
      rw [hat]; dsimp only; rw [hg]; dsimp only; rw [tt]
    | pair n a b =>
      have lk : look gs (Tr.pair n a b).n = some (.pair a.n b.n) := look_at u.1
      unfold desc
      rw [lk]
      dsimp only at tt ⊢
      by_cases z : k / 2 ^ r % 2 = 0
      · simp only [z, if_true] at tt ⊢
        have ih := lway_loop (dp := dp) (k := k) (q := q) r (i + 1) a (b.n :: ss) (some (.im (.int r))) (some (.im (.int (0 : Nat)))) u.2.1 (by omega) h2 (by simp; omega)
        cases e : desc gs k r a.n with
        | none =>
          rw [e] at ih
          show _ = _
          unfold fTurns
          rw [hat]; dsimp only; rw [hg]; dsimp only; rw [tt]
          exact ih
        | some p =>
          rw [e] at ih
          obtain ⟨n', ss'⟩ := p
          obtain ⟨t', w4, w5, en, u', ih⟩ := ih
          refine ⟨t', w4, w5, en, u', ?_⟩
          unfold fTurns
          rw [hat]; dsimp only; rw [hg]; dsimp only; rw [tt]
          have : ss'.reverse ++ b.n :: ss = (b.n :: ss').reverse ++ ss := by simp
          rw [this] at ih
          exact ih
      · simp only [z, if_false] at tt ⊢
        have ih := lway_loop (dp := dp) (k := k) (q := q) r (i + 1) b (a.n :: ss) (some (.im (.int r))) (some (.im (.int (k / 2 ^ r % 2 : Nat)))) u.2.2 (by omega) h2 (by simp; omega)
        cases e : desc gs k r b.n with
        | none =>
          rw [e] at ih
          show _ = _
          unfold fTurns
          rw [hat]; dsimp only; rw [hg]; dsimp only; rw [tt]
          exact ih
        | some p =>
          rw [e] at ih
          obtain ⟨n', ss'⟩ := p
          obtain ⟨t', w4, w5, en, u', ih⟩ := ih
          refine ⟨t', w4, w5, en, u', ?_⟩
          unfold fTurns
          rw [hat]; dsimp only; rw [hg]; dsimp only; rw [tt]
          have : ss'.reverse ++ a.n :: ss = (a.n :: ss').reverse ++ ss := by simp
          rw [this] at ih
          exact ih
theorem down_it {fa : Mo (List Ev)} {q : Nat} {δ δ1 : De} {G1 : List M} (h : fa δ G = some ([.v (.im (.int ((q : Int) - 1))), .v (.im (.int (-1))), .v (.im (.int (-1)))], δ1, G1)) (hq : q ≤ 100) : itF fa rng3P δ G = some (downW q, [.v (.im (.int ((q : Int) - 1))), .v (.im (.int (-1))), .v (.im (.int (-1)))], δ1, G1) := by
  refine it_go h ?_
  unfold rng3P
  dsimp only
  rw [if_pos (by omega)]
  have : ((q : Int) - 1 - -1).toNat = q := by omega
  rw [this]
  rfl
theorem lway_ok {t : Tr} {q k : Nat} (u : UT gs t) (hq : q ≤ 100) : F__law_way [.im (.tup t.is), .im (.int q), .im (.int k)] G = some (.im (wayI (way gs q t.n k)), G) := by
  have lp := lway_loop (G := G) (gs := gs) (dp := .int q) (k := k) q 0 t [] none none u (by omega) hq (by simp)
  have ini : asgF (bd nilF tupP) (gNm 3) [some (.im (.tup t.is)), some (.im (.int q)), some (.im (.int k)), none, none, none] G = some (.nx [some (.im (.tup t.is)), some (.im (.int q)), some (.im (.int k)), some (.im (.tup [])), none, none] G) := by simp [runF,seqF,iteF',orF,andF,notF,tstF,opF,unF,bd,varF,conF,rt,consF,nilF,fldP,lenP,sq,pk,pkS,blE,ltP,leP,gtP,geP,intP,retF,retN,movF,boxF,bxE,mvE,skipF,dropF,asgF,gNm,ixP,orP,ixS,ixD,getD',subP,addP,addI,mulP,mulI,fdivP,modP,powP,shlP,shrP,negP,callP,vlA,methF,makeP,tupP,lstP,imA,imE,bmF,isLst,append1P,pop0P,fldS,putF',putQ,keyI,keyT,keysI,valI,ifE,isQ,slOk,truE,eqP,neP,eqE,mixI,eqD,flI,eqFl,tpl,newK,newT,one]
  have its : itF (consF (opF subP (varF 1) (conF (.int 1))) (consF (unF negP (conF (.int 1))) (consF (unF negP (conF (.int 1))) nilF))) rng3P [some (.im (.tup t.is)), some (.im (.int q)), some (.im (.int k)), some (.im (.tup [])), none, none] G = some (downW q, [.v (.im (.int ((q : Int) - 1))), .v (.im (.int (-1))), .v (.im (.int (-1)))], [some (.im (.tup t.is)), some (.im (.int q)), some (.im (.int k)), some (.im (.tup [])), none, none], G) := down_it (by simp [runF,seqF,iteF',orF,andF,notF,tstF,opF,unF,bd,varF,conF,rt,consF,nilF,fldP,lenP,sq,pk,pkS,blE,ltP,leP,gtP,geP,intP,retF,retN,movF,boxF,bxE,mvE,skipF,dropF,asgF,gNm,ixP,orP,ixS,ixD,getD',subP,addP,addI,mulP,mulI,fdivP,modP,powP,shlP,shrP,negP,callP,vlA,methF,makeP,tupP,lstP,imA,imE,bmF,isLst,append1P,pop0P,fldS,putF',putQ,keyI,keyT,keysI,valI,ifE,isQ,slOk,truE,eqP,neP,eqE,mixI,eqD,flI,eqFl,tpl,newK,newT,one]) hq
  unfold way
  cases e : desc gs k q t.n with
  | none =>
    rw [e] at lp
    exact run_rt rfl (seq_go ini (seq_rt (for_go its lp)))
  | some p =>
    obtain ⟨n', ss⟩ := p
    rw [e] at lp
    obtain ⟨t', v4, v5, en, u', lp⟩ := lp
    subst en
    refine run_rt rfl (seq_go ini (seq_go (for_go its lp) ?_))
    cases t' with
    | leaf n w =>
      have lk : look gs (Tr.leaf n w).n = some (.leaf w) := look_at u'
      dsimp only
      rw [lk]
      simp [runF,seqF,iteF',orF,andF,notF,tstF,opF,unF,bd,varF,conF,rt,consF,nilF,fldP,lenP,sq,pk,pkS,blE,ltP,leP,gtP,geP,intP,retF,retN,movF,boxF,bxE,mvE,skipF,dropF,asgF,gNm,ixP,orP,ixS,ixD,getD',subP,addP,addI,mulP,mulI,fdivP,modP,powP,shlP,shrP,negP,callP,vlA,methF,makeP,tupP,lstP,imA,imE,bmF,isLst,append1P,pop0P,fldS,putF',putQ,keyI,keyT,keysI,valI,ifE,isQ,slOk,truE,eqP,neP,eqE,mixI,eqD,flI,eqFl,tpl,newK,newT,one, Tr.is, at0, at2, wayI]
    | pair n a b =>
      have lk : look gs (Tr.pair n a b).n = some (.pair a.n b.n) := look_at u'.1
      dsimp only
      rw [lk]
      simp [runF,seqF,iteF',orF,andF,notF,tstF,opF,unF,bd,varF,conF,rt,consF,nilF,fldP,lenP,sq,pk,pkS,blE,ltP,leP,gtP,geP,intP,retF,retN,movF,boxF,bxE,mvE,skipF,dropF,asgF,gNm,ixP,orP,ixS,ixD,getD',subP,addP,addI,mulP,mulI,fdivP,modP,powP,shlP,shrP,negP,callP,vlA,methF,makeP,tupP,lstP,imA,imE,bmF,isLst,append1P,pop0P,fldS,putF',putQ,keyI,keyT,keysI,valI,ifE,isQ,slOk,truE,eqP,neP,eqE,mixI,eqD,flI,eqFl,tpl,newK,newT,one, Tr.is, at0, at2, wayI, b_pl]
end Q
namespace Q
open PySem L2 B
variable {d l h g s : Nat} {G : List M} {gs : List Mk}
theorem eqZ_ints (ss : List Int) : eqZ (eqD 39) (ss.map I.int) (ss.map I.int) = some true := by
  induction ss with
  | nil => rfl
  | cons x r ih =>
    show (match eqD 39 (.int x) (.int x), eqZ (eqD 39) (r.map I.int) (r.map I.int) with | some b, some c => some (b && c) | _, _ => none) = _
    rw [ih]
    simp [eqD, flI, eqFl]
theorem eq_way (x : Option (Int × List Int)) : eqD 41 (wayI x) (wayI x) = some true := by
  cases x with
  | none => rfl
  | some p =>
    obtain ⟨w, ss⟩ := p
    have e := eqZ_ints ss
    have e2 : eqD 40 (.tup (ss.map I.int)) (.tup (ss.map I.int)) = some true := by
      show (if _ then _ else if _ then _ else _) = _
      simp [flI, tpl, e]
    have e1 : eqD 40 (.int w) (.int w) = some true := by simp [eqD, flI, eqFl]
    show (if _ then _ else if _ then _ else _) = _
    simp [flI, tpl, wayI, eqZ, e1, e2]
theorem ne_way (x : Option (Int × List Int)) (δ : De) (G : List M) : neP [.v (.im (wayI x)), .v (.im (wayI x))] δ G = some (.v (.im (.bl false)), δ, G) := by
  have e : eqE δ G (.v (.im (wayI x))) (.v (.im (wayI x))) = some true := by
    have m : mixI (wayI x) (wayI x) = false := by cases x <;> rfl
    unfold eqE
    simp [imE, m, eq_way]
  unfold neP
  dsimp only
  rw [e]
  rfl
def urD (d h : Nat) (t : Tr) (v3 v4 v5 v6 : Option Vl) : De := [some (.im (.ref d)), some (.im (.ref h)), some (.im (.tup t.is)), v3, v4, v5, v6]
theorem ur_turn {t : Tr} {v3 v4 v5 v6 : Option Vl} (W : Wd d l h g s G gs) (u : UT gs t) (hl : gs.length < 80000) : ∃ v4' v5' v6' gs' G', F__law_uneven_right_w1b (urD d h t v3 v4 v5 v6) G = some (.nx (urD d h t v3 v4' v5' v6') G') ∧ Wd d l h g s G' gs' ∧ Ext 8 gs gs' := by
  obtain ⟨r1, G1, e1, p0, p1, W1⟩ := W.draw (many := 7) (by decide) (by decide)
  obtain ⟨q, rfl⟩ := Int.eq_ofNat_of_zero_le p0
  have hq : q ≤ 6 := by omega
  have pq : (2 : Nat) ^ q ≤ 2 ^ 6 := Nat.pow_le_pow_right (by decide) hq
  have pq : 2 ^ q ≤ 64 := pq
  have p2 : 0 < 2 ^ q := Nat.two_pow_pos q
  have pw : (2 : Int) ^ q = ((2 ^ q : Nat) : Int) := by push_cast; rfl
  obtain ⟨r2, G2, e2, q0, q1, W2⟩ := W1.draw (many := ((2 ^ q : Nat) : Int)) (by omega) (Int.lt_of_le_of_lt (Int.ofNat_le.mpr pq) (by decide))
  obtain ⟨k, rfl⟩ := Int.eq_ofNat_of_zero_le q0
  have e3 := lway_ok (G := G2) (q := q) (k := k) u (by omega)
  have e4 := path_ok (n := t.n) (k := k) W2.S (show q ≤ 100 by omega)
  have e5 := word_in_ok (n := t.n) (k := k) W2.S (show q ≤ 100 by omega)
  have b1 : (q : Int) ≤ 1000000 := by omega
  generalize hN : 2 ^ q = N at *
  have fin : ∀ (gs' : List Mk) (G' : List M) (b : I), (∃ y, F_put_in [.im (.ref h), .im (.int t.n), .im (.int q), .im (.int k), .im (.int 5)] G2 = some (.im y, G') ∧ ((y = .non ∧ way gs q t.n k = none) ∨ ∃ m p, y = .int m ∧ way gs q t.n k = some p)) → F__law_uneven_right_w1b (urD d h t v3 v4 v5 v6) G = some (.nx (urD d h t v3 (some (.im (.int q))) (some (.im (.int k))) (some (.im (wayI (way gs q t.n k))))) G') := fun gs' G' _ ⟨y, e6, hy⟩ => by
    refine seq_go (asg_go (x := .im (.int q)) (δ1 := urD d h t v3 v4 v5 v6) (G1 := G1) (by simp [urD, runF,seqF,iteF',orF,andF,notF,tstF,opF,unF,bd,varF,conF,rt,consF,nilF,fldP,lenP,sq,pk,pkS,blE,ltP,leP,gtP,geP,intP,retF,retN,movF,boxF,bxE,mvE,skipF,dropF,asgF,gNm,ixP,orP,ixS,ixD,getD',subP,addP,addI,mulP,mulI,fdivP,modP,powP,shlP,shrP,negP,callP,vlA,methF,makeP,tupP,lstP,imA,imE,bmF,isLst,append1P,pop0P,fldS,putF',putQ,keyI,keyT,keysI,valI,ifE,isQ,slOk,truE,eqP,neP,eqE,mixI,eqD,flI,eqFl,tpl,newK,newT,one, e1]) rfl) ?_
    refine seq_go (asg_go (x := .im (.int k)) (δ1 := urD d h t v3 (some (.im (.int q))) v5 v6) (G1 := G2) (by simp [urD, runF,seqF,iteF',orF,andF,notF,tstF,opF,unF,bd,varF,conF,rt,consF,nilF,fldP,lenP,sq,pk,pkS,blE,ltP,leP,gtP,geP,intP,retF,retN,movF,boxF,bxE,mvE,skipF,dropF,asgF,gNm,ixP,orP,ixS,ixD,getD',subP,addP,addI,mulP,mulI,fdivP,modP,powP,shlP,shrP,negP,callP,vlA,methF,makeP,tupP,lstP,imA,imE,bmF,isLst,append1P,pop0P,fldS,putF',putQ,keyI,keyT,keysI,valI,ifE,isQ,slOk,truE,eqP,neP,eqE,mixI,eqD,flI,eqFl,tpl,newK,newT,one, b1, pw, e2]) rfl) ?_
    refine seq_go (asg_go (x := .im (wayI (way gs q t.n k))) (δ1 := urD d h t v3 (some (.im (.int q))) (some (.im (.int k))) v6) (G1 := G2) (by simp [urD, runF,seqF,iteF',orF,andF,notF,tstF,opF,unF,bd,varF,conF,rt,consF,nilF,fldP,lenP,sq,pk,pkS,blE,ltP,leP,gtP,geP,intP,retF,retN,movF,boxF,bxE,mvE,skipF,dropF,asgF,gNm,ixP,orP,ixS,ixD,getD',subP,addP,addI,mulP,mulI,fdivP,modP,powP,shlP,shrP,negP,callP,vlA,methF,makeP,tupP,lstP,imA,imE,bmF,isLst,append1P,pop0P,fldS,putF',putQ,keyI,keyT,keysI,valI,ifE,isQ,slOk,truE,eqP,neP,eqE,mixI,eqD,flI,eqFl,tpl,newK,newT,one, e3]) rfl) ?_
    refine seq_go (ite_f (δ1 := urD d h t v3 (some (.im (.int q))) (some (.im (.int k))) (some (.im (wayI (way gs q t.n k))))) (G1 := G2) (or_f (δ1 := urD d h t v3 (some (.im (.int q))) (some (.im (.int k))) (some (.im (wayI (way gs q t.n k))))) (G1 := G2) (tst_go (op_go (x := .v (.im (wayI (way gs q t.n k)))) (δ1 := urD d h t v3 (some (.im (.int q))) (some (.im (.int k))) (some (.im (wayI (way gs q t.n k))))) (G1 := G2) (by simp [urD, runF,seqF,iteF',orF,andF,notF,tstF,opF,unF,bd,varF,conF,rt,consF,nilF,fldP,lenP,sq,pk,pkS,blE,ltP,leP,gtP,geP,intP,retF,retN,movF,boxF,bxE,mvE,skipF,dropF,asgF,gNm,ixP,orP,ixS,ixD,getD',subP,addP,addI,mulP,mulI,fdivP,modP,powP,shlP,shrP,negP,callP,vlA,methF,makeP,tupP,lstP,imA,imE,bmF,isLst,append1P,pop0P,fldS,putF',putQ,keyI,keyT,keysI,valI,ifE,isQ,slOk,truE,eqP,neP,eqE,mixI,eqD,flI,eqFl,tpl,newK,newT,one, Tr.at1, e4]) rfl (ne_way _ _ _))) (tst_go ?_)) rfl) ?_
    · cases c : way gs q t.n k with
      | none =>
        rw [c] at e5
        simp [urD, runF,seqF,iteF',orF,andF,notF,tstF,opF,unF,bd,varF,conF,rt,consF,nilF,fldP,lenP,sq,pk,pkS,blE,ltP,leP,gtP,geP,intP,retF,retN,movF,boxF,bxE,mvE,skipF,dropF,asgF,gNm,ixP,orP,ixS,ixD,getD',subP,addP,addI,mulP,mulI,fdivP,modP,powP,shlP,shrP,negP,callP,vlA,methF,makeP,tupP,lstP,imA,imE,bmF,isLst,append1P,pop0P,fldS,putF',putQ,keyI,keyT,keysI,valI,ifE,isQ,slOk,truE,eqP,neP,eqE,mixI,eqD,flI,eqFl,tpl,newK,newT,one, Tr.at1, e5, c, wayI, orV, at0]
      | some p =>
        obtain ⟨w, ss⟩ := p
        rw [c] at e5
        simp [urD, runF,seqF,iteF',orF,andF,notF,tstF,opF,unF,bd,varF,conF,rt,consF,nilF,fldP,lenP,sq,pk,pkS,blE,ltP,leP,gtP,geP,intP,retF,retN,movF,boxF,bxE,mvE,skipF,dropF,asgF,gNm,ixP,orP,ixS,ixD,getD',subP,addP,addI,mulP,mulI,fdivP,modP,powP,shlP,shrP,negP,callP,vlA,methF,makeP,tupP,lstP,imA,imE,bmF,isLst,append1P,pop0P,fldS,putF',putQ,keyI,keyT,keysI,valI,ifE,isQ,slOk,truE,eqP,neP,eqE,mixI,eqD,flI,eqFl,tpl,newK,newT,one, Tr.at1, e5, c, wayI, orV, at0]
    · rcases hy with ⟨rfl, c⟩ | ⟨m, p, rfl, c⟩
      · simp [urD, runF,seqF,iteF',orF,andF,notF,tstF,opF,unF,bd,varF,conF,rt,consF,nilF,fldP,lenP,sq,pk,pkS,blE,ltP,leP,gtP,geP,intP,retF,retN,movF,boxF,bxE,mvE,skipF,dropF,asgF,gNm,ixP,orP,ixS,ixD,getD',subP,addP,addI,mulP,mulI,fdivP,modP,powP,shlP,shrP,negP,callP,vlA,methF,makeP,tupP,lstP,imA,imE,bmF,isLst,append1P,pop0P,fldS,putF',putQ,keyI,keyT,keysI,valI,ifE,isQ,slOk,truE,eqP,neP,eqE,mixI,eqD,flI,eqFl,tpl,newK,newT,one, Tr.at1, e6, c, wayI]
      · obtain ⟨w, ss⟩ := p
        simp [urD, runF,seqF,iteF',orF,andF,notF,tstF,opF,unF,bd,varF,conF,rt,consF,nilF,fldP,lenP,sq,pk,pkS,blE,ltP,leP,gtP,geP,intP,retF,retN,movF,boxF,bxE,mvE,skipF,dropF,asgF,gNm,ixP,orP,ixS,ixD,getD',subP,addP,addI,mulP,mulI,fdivP,modP,powP,shlP,shrP,negP,callP,vlA,methF,makeP,tupP,lstP,imA,imE,bmF,isLst,append1P,pop0P,fldS,putF',putQ,keyI,keyT,keysI,valI,ifE,isQ,slOk,truE,eqP,neP,eqE,mixI,eqD,flI,eqFl,tpl,newK,newT,one, Tr.at1, e6, c, wayI]
  cases c : way gs q t.n k with
  | none =>
    exact ⟨_, _, _, gs, G2, fin gs G2 .non ⟨.non, put_none W2.S (by omega) c, .inl ⟨rfl, c⟩⟩, W2, (Ext.refl gs).le (by omega)⟩
  | some p =>
    obtain ⟨w, ss⟩ := p
    obtain ⟨n', gs', G', e6, S', x', o'⟩ := put_some (v := 5) W2.S (by omega) c (by omega)
    exact ⟨_, _, _, gs', G', fin gs' G' .non ⟨.int n', e6, .inr ⟨n', _, rfl, c⟩⟩, W2.ofS S' o'.mor, x'.le (by omega)⟩
theorem right_ok (W : Wd d l h g s G gs) (hl : gs.length < 10000) : ∃ gs' G', F__law_uneven_right [.im (.ref d), .im (.ref h)] G = some (.im (.bl true), G') ∧ Wd d l h g s G' gs' ∧ Ext 1000 gs gs' := by
  obtain ⟨t1, gs1, G1, e1, u1, W1, x1⟩ := uneven_ok 8 3 (by omega) W (by omega)
  have l1 := x1.len
  obtain ⟨t2, gs2, G2, e2, u2, W2, x2⟩ := uneven_ok 8 5 (by omega) W1 (by omega)
  have l2 := x2.len
  obtain ⟨n, gs3, G3, e3, W3, a3, x3⟩ := W2.pair (a := t1.n) (b := t2.n) (by omega)
  have l3 := x3.len
  have u3 : UT gs3 (.pair n t1 t2) := ⟨a3, (u1.ext x2).ext x3, u2.ext x3⟩
  obtain ⟨δ', G', e4, v3, v4, v5, v6, gs4, ed, W4, x4⟩ := fT_inv (w := upW 12) (g := gNm 3) (b := F__law_uneven_right_w1b)
    (fun i δ G' => ∃ (v3 v4 v5 v6 : Option Vl) (gs' : List Mk), δ = urD d h (.pair n t1 t2) v3 v4 v5 v6 ∧ Wd d l h g s G' gs' ∧ Ext (8 * i) gs3 gs')
    (fun i δ Ga hi ⟨v3, v4, v5, v6, gs', ed, W', x'⟩ => by
      have hi : i < 12 := hi
      subst ed
      have l4 := x'.len
      obtain ⟨v4', v5', v6', gs5, G5, e5, W5, x5⟩ := ur_turn (v3 := some (.im (.int i))) (v4 := v4) (v5 := v5) (v6 := v6) W' (u3.ext x') (by omega)
      exact ⟨.int i, _, Ga, _, G5, rfl, rfl, e5, _, _, _, _, gs5, rfl, W5, (x'.trans x5).le (by omega)⟩)
    (fun _ _ _ => rfl) 12 0 (urD d h (.pair n t1 t2) none none none none) G3 (by simp [upW]) ⟨none, none, none, none, gs3, rfl, W3, Ext.refl _⟩
  subst ed
  refine ⟨gs4, G', ?_, W4, (((x1.trans x2).trans x3).trans x4).le (by rw [upW_n]; omega)⟩
  refine run_rt rfl ?_
  have e1' : F__law_uneven 8 [.im (.ref d), .im (.ref h), .im (.int 3)] G = some (.im (.tup t1.is), G1) := e1
  have e2' : F__law_uneven 8 [.im (.ref d), .im (.ref h), .im (.int 5)] G1 = some (.im (.tup t2.is), G2) := e2
  refine seq_go (asg_go (x := .im (.tup [.str "pair", .int 0, .tup t1.is, .tup t2.is])) (δ1 := [some (.im (.ref d)), some (.im (.ref h)), none, none, none, none, none]) (G1 := G2) (by simp [runF,seqF,iteF',orF,andF,notF,tstF,opF,unF,bd,varF,conF,rt,consF,nilF,fldP,lenP,sq,pk,pkS,blE,ltP,leP,gtP,geP,intP,retF,retN,movF,boxF,bxE,mvE,skipF,dropF,asgF,gNm,ixP,orP,ixS,ixD,getD',subP,addP,addI,mulP,mulI,fdivP,modP,powP,shlP,shrP,negP,callP,vlA,methF,makeP,tupP,lstP,imA,imE,bmF,isLst,append1P,pop0P,fldS,putF',putQ,keyI,keyT,keysI,valI,ifE,isQ,slOk,truE,eqP,neP,eqE,mixI,eqD,flI,eqFl,tpl,newK,newT,one, e1', e2']) rfl) ?_
  have cu : cutI [I.str "pair", .int 0, .tup t1.is, .tup t2.is] (some 2) none = [.tup t1.is, .tup t2.is] := cut_hi (m := 2) (by simp)
  refine seq_go (asg_go (x := .im (.tup (Tr.pair n t1 t2).is)) (δ1 := [some (.im (.ref d)), some (.im (.ref h)), some (.im (.tup [.str "pair", .int 0, .tup t1.is, .tup t2.is])), none, none, none, none]) (G1 := G3) (by simp [runF,seqF,iteF',orF,andF,notF,tstF,opF,unF,bd,varF,conF,rt,consF,nilF,fldP,lenP,sq,pk,pkS,blE,ltP,leP,gtP,geP,intP,retF,retN,movF,boxF,bxE,mvE,skipF,dropF,asgF,gNm,ixP,orP,ixS,ixD,getD',subP,addP,addI,mulP,mulI,fdivP,modP,powP,shlP,shrP,negP,callP,vlA,methF,makeP,tupP,lstP,imA,imE,bmF,isLst,append1P,pop0P,fldS,putF',putQ,keyI,keyT,keysI,valI,ifE,isQ,slOk,truE,eqP,neP,eqE,mixI,eqD,flI,eqFl,tpl,newK,newT,one, W2.S.ob, n_pair, at2, at3, Tr.at1, e3, sliF, somePt, noPt, ptE, sliQ, cu, catS, catT, Tr.is]) rfl) ?_
  refine seq_go (for_go (rng_it (n := 12) (j := 12) rfl rfl (by omega)) e4) ?_
  simp [urD, runF,seqF,iteF',orF,andF,notF,tstF,opF,unF,bd,varF,conF,rt,consF,nilF,fldP,lenP,sq,pk,pkS,blE,ltP,leP,gtP,geP,intP,retF,retN,movF,boxF,bxE,mvE,skipF,dropF,asgF,gNm,ixP,orP,ixS,ixD,getD',subP,addP,addI,mulP,mulI,fdivP,modP,powP,shlP,shrP,negP,callP,vlA,methF,makeP,tupP,lstP,imA,imE,bmF,isLst,append1P,pop0P,fldS,putF',putQ,keyI,keyT,keysI,valI,ifE,isQ,slOk,truE,eqP,neP,eqE,mixI,eqD,flI,eqFl,tpl,newK,newT,one]
theorem none_ok' {n : Int} {q k : Nat} (S : HG G h g s gs) (hq : q ≤ 100) (hw : way gs q n k = none) : F__law_none [.im (.ref h), .im (.int n), .im (.int q), .im (.int k)] G = some (.im (.bl true), G) := by
  have e4 := path_ok (n := n) (k := k) S hq
  have e5 := word_in_ok (n := n) (k := k) S hq
  have e6 := put_none (v := .int 5) S hq hw
  rw [hw] at e4 e5
  have e4 : F_path_in [.im (.ref h), .im (.int n), .im (.int q), .im (.int k)] G = some (.im .non, G) := e4
  have e5 : F_word_in [.im (.ref h), .im (.int n), .im (.int q), .im (.int k)] G = some (.im .non, G) := e5
  simp [F__law_none, runF,seqF,iteF',orF,andF,notF,tstF,opF,unF,bd,varF,conF,rt,consF,nilF,fldP,lenP,sq,pk,pkS,blE,ltP,leP,gtP,geP,intP,retF,retN,movF,boxF,bxE,mvE,skipF,dropF,asgF,gNm,ixP,orP,ixS,ixD,getD',subP,addP,addI,mulP,mulI,fdivP,modP,powP,shlP,shrP,negP,callP,vlA,methF,makeP,tupP,lstP,imA,imE,bmF,isLst,append1P,pop0P,fldS,putF',putQ,keyI,keyT,keysI,valI,ifE,isQ,slOk,truE,eqP,neP,eqE,mixI,eqD,flI,eqFl,tpl,newK,newT,one, e4, e5, e6]
end Q
namespace Q
open PySem L2 B
variable {G : List M} {gs : List Mk}
def lwD (ns : List Int) (v3 v4 v5 v6 v7 v8 v9 v10 v11 : Option Vl) : De := [some (.im (.fro (ns.map I.int))), some (.im (.ref 5)), some (.im (.ref 2)), v3, v4, v5, v6, v7, v8, v9, v10, v11]
abbrev Wl (G : List M) (gs : List Mk) : Prop := Wd 5 1 2 3 4 G gs
theorem ne_int (x : Int) (δ : De) (G : List M) : neP [.v (.im (.int x)), .v (.im (.int x))] δ G = some (.v (.im (.bl false)), δ, G) := by
  simp [neP, eqE, imE, mixI, eqD, flI, eqFl]
theorem w2_turn {ns W : List Int} {dp k : Nat} {sl : Int} {v6 v8 v9 v10 v11 : Option Vl} (Wo : Wl G gs) (hS : Sl gs dp sl W) (hd : dp ≤ 6) (hk : k < 2 ^ dp) : ∃ v8', F_law_w2b (lwD ns (some (.im (.int dp))) (some (.im (.tup (W.map I.int)))) (some (.im (.int sl))) v6 (some (.im (.int k))) v8 v9 v10 v11) G = some (.nx (lwD ns (some (.im (.int dp))) (some (.im (.tup (W.map I.int)))) (some (.im (.int sl))) v6 (some (.im (.int k))) v8' v9 v10 v11) G) := by
  obtain ⟨w, ss, hw, hWk, ls, hs⟩ := sl_way hS hk
  have e1 := siblings_ok Wo.S hd hS.len hk ls hs
  have e4 := path_ok (n := sl) (k := k) Wo.S (show dp ≤ 100 by omega)
  have e5 := word_in_ok (n := sl) (k := k) Wo.S (show dp ≤ 100 by omega)
  have nw := ne_way (some (w, ss))
  rw [hw] at e4 e5
  have e4 : F_path_in [.im (.ref 2), .im (.int sl), .im (.int dp), .im (.int k)] G = some (.im (wayI (some (w, ss))), G) := e4
  have e5 : F_word_in [.im (.ref 2), .im (.int sl), .im (.int dp), .im (.int k)] G = some (.im (.int w), G) := e5
  have ha : atI (W.map I.int) (k : Int) = some (.int w) := atI_nat (by rw [List.getElem?_map, hWk]; rfl)
  have hix : opF ixP (varF 4) (varF 7) (lwD ns (some (.im (.int dp))) (some (.im (.tup (W.map I.int)))) (some (.im (.int sl))) v6 (some (.im (.int k))) v8 v9 v10 v11) G = some (.v (.im (.int w)), lwD ns (some (.im (.int dp))) (some (.im (.tup (W.map I.int)))) (some (.im (.int sl))) v6 (some (.im (.int k))) v8 v9 v10 v11, G) := op_go rfl rfl (by simp [ixP, orP, ixS, sq, ha])
  have hsb : bd (consF (varF 2) (consF (varF 4) (consF (varF 3) (consF (varF 7) nilF)))) (callP 4 F__law_siblings) (lwD ns (some (.im (.int dp))) (some (.im (.tup (W.map I.int)))) (some (.im (.int sl))) v6 (some (.im (.int k))) v8 v9 v10 v11) G = some (.v (.im (.tup (ss.map I.int))), lwD ns (some (.im (.int dp))) (some (.im (.tup (W.map I.int)))) (some (.im (.int sl))) v6 (some (.im (.int k))) v8 v9 v10 v11, G) := bd_go rfl (call_go rfl rfl e1)
  refine ⟨some (.im (wayI (some (w, ss)))), ?_⟩
  refine seq_go (asg_go (x := .im (wayI (some (w, ss)))) (δ1 := lwD ns (some (.im (.int dp))) (some (.im (.tup (W.map I.int)))) (some (.im (.int sl))) v6 (some (.im (.int k))) v8 v9 v10 v11) (G1 := G) (bd_go (bd_go hix (bd_go (bd_go hsb rfl) rfl)) rfl) rfl) ?_
  refine ite_f (δ1 := lwD ns (some (.im (.int dp))) (some (.im (.tup (W.map I.int)))) (some (.im (.int sl))) v6 (some (.im (.int k))) (some (.im (wayI (some (w, ss))))) v9 v10 v11) (G1 := G) (or_f (δ1 := lwD ns (some (.im (.int dp))) (some (.im (.tup (W.map I.int)))) (some (.im (.int sl))) v6 (some (.im (.int k))) (some (.im (wayI (some (w, ss))))) v9 v10 v11) (G1 := G) (tst_go (by simp [lwD, runF,seqF,iteF',orF,andF,notF,tstF,opF,unF,bd,varF,conF,rt,consF,nilF,fldP,lenP,sq,pk,pkS,blE,ltP,leP,gtP,geP,intP,retF,retN,movF,boxF,bxE,mvE,skipF,dropF,asgF,gNm,ixP,orP,ixS,ixD,getD',subP,addP,addI,mulP,mulI,fdivP,modP,powP,shlP,shrP,negP,callP,vlA,methF,makeP,tupP,lstP,imA,imE,bmF,isLst,append1P,pop0P,fldS,putF',putQ,keyI,keyT,keysI,valI,ifE,isQ,slOk,truE,eqP,neP,eqE,mixI,eqD,flI,eqFl,tpl,newK,newT,one, ha, e5])) (tst_go (op_go (x := .v (.im (wayI (some (w, ss))))) (δ1 := lwD ns (some (.im (.int dp))) (some (.im (.tup (W.map I.int)))) (some (.im (.int sl))) v6 (some (.im (.int k))) (some (.im (wayI (some (w, ss))))) v9 v10 v11) (G1 := G) (by simp [lwD, runF,seqF,iteF',orF,andF,notF,tstF,opF,unF,bd,varF,conF,rt,consF,nilF,fldP,lenP,sq,pk,pkS,blE,ltP,leP,gtP,geP,intP,retF,retN,movF,boxF,bxE,mvE,skipF,dropF,asgF,gNm,ixP,orP,ixS,ixD,getD',subP,addP,addI,mulP,mulI,fdivP,modP,powP,shlP,shrP,negP,callP,vlA,methF,makeP,tupP,lstP,imA,imE,bmF,isLst,append1P,pop0P,fldS,putF',putQ,keyI,keyT,keysI,valI,ifE,isQ,slOk,truE,eqP,neP,eqE,mixI,eqD,flI,eqFl,tpl,newK,newT,one, e4]) rfl (nw _ _)))) rfl
theorem shl_at {i q N : Nat} {δ : De} (hv : varF i δ G = some (.v (.im (.int q)), δ, G)) (hq : q ≤ 100) (hN : 2 ^ q = N) : opF shlP (conF (.int 1)) (varF i) δ G = some (.v (.im (.int N)), δ, G) := by
  have b1 : (q : Int) ≤ 1000000 := by omega
  have pw : (2 : Int) ^ q = (N : Int) := by rw [← hN]; push_cast; rfl
  refine op_go rfl hv ?_
  simp [shlP, intP, b1, pw]
theorem draw_2 {q : Nat} (W : Wl G gs) (hq : q ≤ 6) : ∃ (k N : Nat) (G' : List M), 2 ^ q = N ∧ F__law_draw [.im (.ref 5), .im (.int N)] G = some (.im (.int k), G') ∧ k < 2 ^ q ∧ Wl G' gs := by
  have pq : (2 : Nat) ^ q ≤ 2 ^ 6 := Nat.pow_le_pow_right (by decide) hq
  have pq : 2 ^ q ≤ 64 := pq
  have p2 : 0 < 2 ^ q := Nat.two_pow_pos q
  obtain ⟨r2, G2, e2, q0, q1, W2⟩ := W.draw (many := ((2 ^ q : Nat) : Int)) (by omega) (Int.lt_of_le_of_lt (Int.ofNat_le.mpr pq) (by decide))
  obtain ⟨k, rfl⟩ := Int.eq_ofNat_of_zero_le q0
  exact ⟨k, _, G2, rfl, e2, by omega, W2⟩
theorem cons_go {fa : Mo Ev} {fr : Mo (List Ev)} {δ δ1 δ2 : De} {G G1 G2 : List M} {e : Ev} {es : List Ev} (h : fa δ G = some (e, δ1, G1)) (k : fr δ1 G1 = some (es, δ2, G2)) : consF fa fr δ G = some (e :: es, δ2, G2) := bd_go h (bd_go k rfl)
theorem dr_2 {q N k : Nat} {δ : De} {G' : List M} (hv : varF 11 δ G = some (.v (.im (.int q)), δ, G)) (hb : boxF (varF 1) δ G = some (.v (.im (.ref 5)), δ, G)) (hq : q ≤ 6) (hN : 2 ^ q = N) (e : F__law_draw [.im (.ref 5), .im (.int N)] G = some (.im (.int k), G')) : bd (consF (boxF (varF 1)) (consF (opF shlP (conF (.int 1)) (varF 11)) nilF)) (callP 2 F__law_draw) δ G = some (.v (.im (.int k)), δ, G') :=
  bd_go (cons_go hb (cons_go (shl_at hv (by omega) hN) rfl)) (call_go rfl rfl e)
theorem w1_num {ns : List Int} {v3 v4 v5 v6 v7 v8 v9 v10 v11 : Option Vl} (W : Wl G gs) (hl : gs.length < 9000) : ∃ n G', opF ixP (bd (consF (conF (.int 0)) (consF (unF negP (conF (.int 1))) (consF (opF addP (opF powP (conF (.int 10)) (conF (.int 12))) (bd (consF (boxF (varF 1)) (consF (opF powP (conF (.int 10)) (conF (.int 9))) nilF)) (callP 2 F__law_draw))) (consF (opF subP (conF (.int 0)) (bd (consF (boxF (varF 1)) (consF (opF powP (conF (.int 10)) (conF (.int 9))) nilF)) (callP 2 F__law_draw))) nilF)))) lstP) (bd (consF (boxF (varF 1)) (consF (conF (.int 4)) nilF)) (callP 2 F__law_draw)) (lwD ns v3 v4 v5 v6 v7 v8 v9 v10 v11) G = some (.v (.im (.int n)), lwD ns v3 v4 v5 v6 v7 v8 v9 v10 v11, G') ∧ look gs n = none ∧ Wl G' gs := by
  obtain ⟨r1, G1, e1, a0, a1, W1⟩ := W.draw (many := 1000000000) (by decide) (by decide)
  obtain ⟨r2, G2, e2, b0, b1, W2⟩ := W1.draw (many := 1000000000) (by decide) (by decide)
  obtain ⟨r3, G3, e3, c0, c1, W3⟩ := W2.draw (many := 4) (by decide) (by decide)
  have lo : ∀ n : Int, n < 1 → look gs n = none := fun n hn => by unfold look; rw [if_pos hn]
  rcases (show r3 = 0 ∨ r3 = 1 ∨ r3 = 2 ∨ r3 = 3 by omega) with z | z | z | z
  · subst z
    exact ⟨0, G3, by simp [lwD, runF,seqF,iteF',orF,andF,notF,tstF,opF,unF,bd,varF,conF,rt,consF,nilF,fldP,lenP,sq,pk,pkS,blE,ltP,leP,gtP,geP,intP,retF,retN,movF,boxF,bxE,mvE,skipF,dropF,asgF,gNm,ixP,orP,ixS,ixD,getD',subP,addP,addI,mulP,mulI,fdivP,modP,powP,shlP,shrP,negP,callP,vlA,methF,makeP,tupP,lstP,imA,imE,bmF,isLst,append1P,pop0P,fldS,putF',putQ,keyI,keyT,keysI,valI,ifE,isQ,slOk,truE,eqP,neP,eqE,mixI,eqD,flI,eqFl,tpl,newK,newT,one, e1, e2, e3, at0], lo _ (by omega), W3⟩
  · subst z
    exact ⟨-1, G3, by simp [lwD, runF,seqF,iteF',orF,andF,notF,tstF,opF,unF,bd,varF,conF,rt,consF,nilF,fldP,lenP,sq,pk,pkS,blE,ltP,leP,gtP,geP,intP,retF,retN,movF,boxF,bxE,mvE,skipF,dropF,asgF,gNm,ixP,orP,ixS,ixD,getD',subP,addP,addI,mulP,mulI,fdivP,modP,powP,shlP,shrP,negP,callP,vlA,methF,makeP,tupP,lstP,imA,imE,bmF,isLst,append1P,pop0P,fldS,putF',putQ,keyI,keyT,keysI,valI,ifE,isQ,slOk,truE,eqP,neP,eqE,mixI,eqD,flI,eqFl,tpl,newK,newT,one, e1, e2, e3, at1], lo _ (by omega), W3⟩
  · subst z
    refine ⟨1000000000000 + r1, G3, by simp [lwD, runF,seqF,iteF',orF,andF,notF,tstF,opF,unF,bd,varF,conF,rt,consF,nilF,fldP,lenP,sq,pk,pkS,blE,ltP,leP,gtP,geP,intP,retF,retN,movF,boxF,bxE,mvE,skipF,dropF,asgF,gNm,ixP,orP,ixS,ixD,getD',subP,addP,addI,mulP,mulI,fdivP,modP,powP,shlP,shrP,negP,callP,vlA,methF,makeP,tupP,lstP,imA,imE,bmF,isLst,append1P,pop0P,fldS,putF',putQ,keyI,keyT,keysI,valI,ifE,isQ,slOk,truE,eqP,neP,eqE,mixI,eqD,flI,eqFl,tpl,newK,newT,one, e1, e2, e3, at2], ?_, W3⟩
    unfold look
    rw [if_neg (by omega), List.getElem?_eq_none_iff]
    omega
  · subst z
    exact ⟨0 - r2, G3, by simp [lwD, runF,seqF,iteF',orF,andF,notF,tstF,opF,unF,bd,varF,conF,rt,consF,nilF,fldP,lenP,sq,pk,pkS,blE,ltP,leP,gtP,geP,intP,retF,retN,movF,boxF,bxE,mvE,skipF,dropF,asgF,gNm,ixP,orP,ixS,ixD,getD',subP,addP,addI,mulP,mulI,fdivP,modP,powP,shlP,shrP,negP,callP,vlA,methF,makeP,tupP,lstP,imA,imE,bmF,isLst,append1P,pop0P,fldS,putF',putQ,keyI,keyT,keysI,valI,ifE,isQ,slOk,truE,eqP,neP,eqE,mixI,eqD,flI,eqFl,tpl,newK,newT,one, e1, e2, e3, at3], lo _ (by omega), W3⟩
theorem w1_turn {ns W : List Int} {dp : Nat} {sl : Int} {v6 v7 v8 v9 v10 v11 : Option Vl} (Wo : Wl G gs) (hl : gs.length < 9000) (hS : Sl gs dp sl W) (hd : dp ≤ 6) : ∃ v10' v11' G', F_law_w1b (lwD ns (some (.im (.int dp))) (some (.im (.tup (W.map I.int)))) (some (.im (.int sl))) v6 v7 v8 v9 v10 v11) G = some (.nx (lwD ns (some (.im (.int dp))) (some (.im (.tup (W.map I.int)))) (some (.im (.int sl))) v6 v7 v8 v9 v10' v11') G') ∧ Wl G' gs := by
  obtain ⟨n, G1, e1, hn, W1⟩ := w1_num (ns := ns) (v3 := some (.im (.int dp))) (v4 := some (.im (.tup (W.map I.int)))) (v5 := some (.im (.int sl))) (v6 := v6) (v7 := v7) (v8 := v8) (v9 := v9) (v10 := v10) (v11 := v11) Wo hl
  obtain ⟨r2, G2, e2, a0, a1, W2⟩ := W1.draw (many := 6) (by decide) (by decide)
  obtain ⟨q, rfl⟩ := Int.eq_ofNat_of_zero_le a0
  obtain ⟨k, N, G3, hN, e3, hk, W3⟩ := draw_2 (q := q) W2 (by omega)
  have e4 := none_ok' (n := n) (q := q) (k := k) W3.S (by omega) (way_none hn)
  have e5 := opened_ok (n := n) W3.S
  rw [hn] at e5
  have e5 : F_House_opened [.im (.ref 2), .im (.int n)] G3 = some (.im .non, G3) := e5
  obtain ⟨r4, G4, e6, c0, c1, W4⟩ := W3.draw (many := 3) (by decide) (by decide)
  have hp : ∃ p : Nat, p ≤ 6 ∧ (asgF (bd (consF (conF (.int 6)) (consF (opF ixP (bd (consF (opF addP (varF 3) (conF (.int 1))) (consF (bd (consF (conF (.int 0)) (consF (opF subP (varF 3) (conF (.int 1))) nilF)) max2P) (consF (opF addP (varF 3) (conF (.int 2))) nilF))) lstP) (bd (consF (boxF (varF 1)) (consF (conF (.int 3)) nilF)) (callP 2 F__law_draw))) nilF)) min2P) (gNm 11)) (lwD ns (some (.im (.int dp))) (some (.im (.tup (W.map I.int)))) (some (.im (.int sl))) v6 v7 v8 v9 (some (.im (.int n))) (some (.im (.int q)))) G3 = some (.nx (lwD ns (some (.im (.int dp))) (some (.im (.tup (W.map I.int)))) (some (.im (.int sl))) v6 v7 v8 v9 (some (.im (.int n))) (some (.im (.int p)))) G4) := by
    have mk : ∀ x : Int, 0 ≤ x → ∃ p : Nat, p ≤ 6 ∧ (if x < 6 then x else 6) = (p : Int) := fun x hx => by
      by_cases z : x < 6
      · exact ⟨x.toNat, by omega, by rw [if_pos z]; omega⟩
      · exact ⟨6, by omega, by rw [if_neg z]; rfl⟩
    rcases (show r4 = 0 ∨ r4 = 1 ∨ r4 = 2 by omega) with z | z | z
    · subst z
      obtain ⟨p, hp, ep⟩ := mk ((dp : Int) + 1) (by omega)
      exact ⟨p, hp, by simp [lwD, runF,seqF,iteF',orF,andF,notF,tstF,opF,unF,bd,varF,conF,rt,consF,nilF,fldP,lenP,sq,pk,pkS,blE,ltP,leP,gtP,geP,intP,retF,retN,movF,boxF,bxE,mvE,skipF,dropF,asgF,gNm,ixP,orP,ixS,ixD,getD',subP,addP,addI,mulP,mulI,fdivP,modP,powP,shlP,shrP,negP,callP,vlA,methF,makeP,tupP,lstP,imA,imE,bmF,isLst,append1P,pop0P,fldS,putF',putQ,keyI,keyT,keysI,valI,ifE,isQ,slOk,truE,eqP,neP,eqE,mixI,eqD,flI,eqFl,tpl,newK,newT,one, max2P, min2P, e6, at0, ep]⟩
    · subst z
      obtain ⟨p, hp, ep⟩ := mk (if 1 < (dp : Int) then (dp : Int) - 1 else 0) (by split <;> omega)
      exact ⟨p, hp, by simp [lwD, runF,seqF,iteF',orF,andF,notF,tstF,opF,unF,bd,varF,conF,rt,consF,nilF,fldP,lenP,sq,pk,pkS,blE,ltP,leP,gtP,geP,intP,retF,retN,movF,boxF,bxE,mvE,skipF,dropF,asgF,gNm,ixP,orP,ixS,ixD,getD',subP,addP,addI,mulP,mulI,fdivP,modP,powP,shlP,shrP,negP,callP,vlA,methF,makeP,tupP,lstP,imA,imE,bmF,isLst,append1P,pop0P,fldS,putF',putQ,keyI,keyT,keysI,valI,ifE,isQ,slOk,truE,eqP,neP,eqE,mixI,eqD,flI,eqFl,tpl,newK,newT,one, max2P, min2P, e6, at1]; exact ep⟩
    · subst z
      obtain ⟨p, hp, ep⟩ := mk ((dp : Int) + 2) (by omega)
      exact ⟨p, hp, by simp [lwD, runF,seqF,iteF',orF,andF,notF,tstF,opF,unF,bd,varF,conF,rt,consF,nilF,fldP,lenP,sq,pk,pkS,blE,ltP,leP,gtP,geP,intP,retF,retN,movF,boxF,bxE,mvE,skipF,dropF,asgF,gNm,ixP,orP,ixS,ixD,getD',subP,addP,addI,mulP,mulI,fdivP,modP,powP,shlP,shrP,negP,callP,vlA,methF,makeP,tupP,lstP,imA,imE,bmF,isLst,append1P,pop0P,fldS,putF',putQ,keyI,keyT,keysI,valI,ifE,isQ,slOk,truE,eqP,neP,eqE,mixI,eqD,flI,eqFl,tpl,newK,newT,one, max2P, min2P, e6, at2, ep]⟩
  obtain ⟨p, hp, e7⟩ := hp
  have start : ∀ {r : Option Fl}, iteF' (andF (tstF (opF neP (varF 11) (varF 3))) (notF (bd (bd (consF (varF 2) (consF (varF 5) (consF (varF 11) (consF (bd (consF (boxF (varF 1)) (consF (opF shlP (conF (.int 1)) (varF 11)) nilF)) (callP 2 F__law_draw)) nilF)))) (callP 4 F__law_none)) truE)))
      (retF (conF (.bl false))) skipF (lwD ns (some (.im (.int dp))) (some (.im (.tup (W.map I.int)))) (some (.im (.int sl))) v6 v7 v8 v9 (some (.im (.int n))) (some (.im (.int p)))) G4 = r → F_law_w1b (lwD ns (some (.im (.int dp))) (some (.im (.tup (W.map I.int)))) (some (.im (.int sl))) v6 v7 v8 v9 v10 v11) G = r := fun hr => by
    refine seq_go (asg_go e1 rfl) ?_
    refine seq_go (asg_go (x := .im (.int q)) (δ1 := lwD ns (some (.im (.int dp))) (some (.im (.tup (W.map I.int)))) (some (.im (.int sl))) v6 v7 v8 v9 (some (.im (.int n))) v11) (G1 := G2) (by simp [lwD, runF,seqF,iteF',orF,andF,notF,tstF,opF,unF,bd,varF,conF,rt,consF,nilF,fldP,lenP,sq,pk,pkS,blE,ltP,leP,gtP,geP,intP,retF,retN,movF,boxF,bxE,mvE,skipF,dropF,asgF,gNm,ixP,orP,ixS,ixD,getD',subP,addP,addI,mulP,mulI,fdivP,modP,powP,shlP,shrP,negP,callP,vlA,methF,makeP,tupP,lstP,imA,imE,bmF,isLst,append1P,pop0P,fldS,putF',putQ,keyI,keyT,keysI,valI,ifE,isQ,slOk,truE,eqP,neP,eqE,mixI,eqD,flI,eqFl,tpl,newK,newT,one, e2]) rfl) ?_
    refine seq_go (ite_f (δ1 := lwD ns (some (.im (.int dp))) (some (.im (.tup (W.map I.int)))) (some (.im (.int sl))) v6 v7 v8 v9 (some (.im (.int n))) (some (.im (.int q)))) (G1 := G3) (or_f (δ1 := lwD ns (some (.im (.int dp))) (some (.im (.tup (W.map I.int)))) (some (.im (.int sl))) v6 v7 v8 v9 (some (.im (.int n))) (some (.im (.int q)))) (G1 := G3) (not_go (b := true) ?_) (tst_go (by simp [lwD, runF,seqF,iteF',orF,andF,notF,tstF,opF,unF,bd,varF,conF,rt,consF,nilF,fldP,lenP,sq,pk,pkS,blE,ltP,leP,gtP,geP,intP,retF,retN,movF,boxF,bxE,mvE,skipF,dropF,asgF,gNm,ixP,orP,ixS,ixD,getD',subP,addP,addI,mulP,mulI,fdivP,modP,powP,shlP,shrP,negP,callP,vlA,methF,makeP,tupP,lstP,imA,imE,bmF,isLst,append1P,pop0P,fldS,putF',putQ,keyI,keyT,keysI,valI,ifE,isQ,slOk,truE,eqP,neP,eqE,mixI,eqD,flI,eqFl,tpl,newK,newT,one, W3.S.ob, n_open, e5]))) rfl) ?_
    · exact bd_go (bd_go (cons_go rfl (cons_go rfl (cons_go rfl (cons_go (dr_2 rfl rfl (by omega) hN e3) rfl)))) (call_go rfl rfl e4)) rfl
    · exact seq_go e7 hr
  by_cases z : p = dp
  · subst z
    exact ⟨_, _, G4, start (ite_f (and_f (tst_go (op_go rfl rfl (ne_int _ _ _)))) rfl), W4⟩
  · obtain ⟨k2, N2, G5, hN2, e8, hk2, W5⟩ := draw_2 (q := p) W4 hp
    have e9 := none_ok' (n := sl) (q := p) (k := k2) W5.S (by omega) (sl_none hS z)
    have ne : neP [.v (.im (.int (p : Int))), .v (.im (.int (dp : Int)))] (lwD ns (some (.im (.int dp))) (some (.im (.tup (W.map I.int)))) (some (.im (.int sl))) v6 v7 v8 v9 (some (.im (.int n))) (some (.im (.int p)))) G4 = some (.v (.im (.bl true)), lwD ns (some (.im (.int dp))) (some (.im (.tup (W.map I.int)))) (some (.im (.int sl))) v6 v7 v8 v9 (some (.im (.int n))) (some (.im (.int p))), G4) := by
      have : ((p : Int) == (dp : Int)) = false := beq_eq_false_iff_ne.mpr (by omega)
      simp [neP, eqE, imE, mixI, eqD, flI, eqFl, this]
    refine ⟨some (.im (.int n)), some (.im (.int p)), G5, start (ite_f (δ1 := lwD ns (some (.im (.int dp))) (some (.im (.tup (W.map I.int)))) (some (.im (.int sl))) v6 v7 v8 v9 (some (.im (.int n))) (some (.im (.int p)))) (G1 := G5) (and_t (tst_go (op_go rfl rfl ne)) (not_go (b := true) ?_)) rfl), W5⟩
    exact bd_go (bd_go (cons_go rfl (cons_go rfl (cons_go rfl (cons_go (dr_2 rfl rfl hp hN2 e8) rfl)))) (call_go rfl rfl e9)) rfl
def G0 (so le : List Int) (a : Int) : List M := [.lst (so.map I.int), .lst (le.map I.int), .obj "House" (hsI 3 4), .lst [], .dit [], .dic (dealI a 0 1)]
theorem w0 {so le : List Int} {a : Int} (h0 : 0 ≤ a) (h1 : a < 2147483647) (hm : ∀ m ∈ le, 0 ≤ m) : Wl (G0 so le a) [] :=
  ⟨⟨a, 0, le, rfl, rfl, by decide, h0, h1, by decide, hm⟩, ⟨rfl, rfl, rfl, by decide, by decide, by decide, List.nodup_nil⟩, by decide, by decide, by decide, by decide, by decide, by decide⟩
theorem law_first {so le ns : List Int} {a : Int} (W0 : Wl (G0 so le a) []) : ∃ G2 gs2, Wl G2 gs2 ∧ gs2.length ≤ 128 ∧ iteF' (tstF (opF eqP (bd (consF (boxF (varF 1)) (consF (conF (.int 2)) nilF)) (callP 2 F__law_draw)) (conF (.int 0))))
  (dropF (bd (consF (varF 2) (consF (bd (consF (boxF (varF 1)) (consF (bd (consF (boxF (varF 1)) (consF (conF (.int 5)) nilF)) (callP 2 F__law_draw)) nilF)) (callP 2 F__law_row)) nilF)) (callP 2 F_seal_of)))
  skipF [some (.im (.fro (ns.map I.int))), some (.ow (.dic (dealI a 0 1))), some (.im (.ref 2)), none, none, none, none, none, none, none, none, none] [.lst (so.map I.int), .lst (le.map I.int), .obj "House" (hsI 3 4), .lst [], .dit []] = some (.nx (lwD ns none none none none none none none none none) G2) := by
  obtain ⟨r1, G1, e1, _, _, W1⟩ := W0.draw (many := 2) (by decide) (by decide)
  have e1' : F__law_draw [.im (.ref 5), .im (.int 2)] [.lst (so.map I.int), .lst (le.map I.int), .obj "House" (hsI 3 4), .lst [], .dit [], .dic (dealI a 0 1)] = some (.im (.int r1), G1) := e1
  by_cases z : r1 = 0
  · subst z
    obtain ⟨r2, G2, e2, p0, p1, W2⟩ := W1.draw (many := 5) (by decide) (by decide)
    obtain ⟨q, rfl⟩ := Int.eq_ofNat_of_zero_le p0
    obtain ⟨ws, G3, e3, lw, W3⟩ := W2.row (dp := q) (by omega)
    obtain ⟨n, gs4, G4, e4, W4, x4, sl⟩ := W3.seal lw (by omega) (by decide)
    have l4 := x4.len
    refine ⟨G4, gs4, W4, by simpa using l4, ?_⟩
    refine ite_t (δ1 := lwD ns none none none none none none none none none) (G1 := G1) (by simp [lwD, runF,seqF,iteF',orF,andF,notF,tstF,opF,unF,bd,varF,conF,rt,consF,nilF,fldP,lenP,sq,pk,pkS,blE,ltP,leP,gtP,geP,intP,retF,retN,movF,boxF,bxE,mvE,skipF,dropF,asgF,gNm,ixP,orP,ixS,ixD,getD',subP,addP,addI,mulP,mulI,fdivP,modP,powP,shlP,shrP,negP,callP,vlA,methF,makeP,tupP,lstP,imA,imE,bmF,isLst,append1P,pop0P,fldS,putF',putQ,keyI,keyT,keysI,valI,ifE,isQ,slOk,truE,eqP,neP,eqE,mixI,eqD,flI,eqFl,tpl,newK,newT,one, e1']) ?_
    simp [lwD, runF,seqF,iteF',orF,andF,notF,tstF,opF,unF,bd,varF,conF,rt,consF,nilF,fldP,lenP,sq,pk,pkS,blE,ltP,leP,gtP,geP,intP,retF,retN,movF,boxF,bxE,mvE,skipF,dropF,asgF,gNm,ixP,orP,ixS,ixD,getD',subP,addP,addI,mulP,mulI,fdivP,modP,powP,shlP,shrP,negP,callP,vlA,methF,makeP,tupP,lstP,imA,imE,bmF,isLst,append1P,pop0P,fldS,putF',putQ,keyI,keyT,keysI,valI,ifE,isQ,slOk,truE,eqP,neP,eqE,mixI,eqD,flI,eqFl,tpl,newK,newT,one, e2, e3, e4]
  · refine ⟨G1, [], W1, by decide, ?_⟩
    have zb : (r1 == 0) = false := beq_eq_false_iff_ne.mpr z
    exact ite_f (δ1 := lwD ns none none none none none none none none none) (G1 := G1) (by simp [lwD, runF,seqF,iteF',orF,andF,notF,tstF,opF,unF,bd,varF,conF,rt,consF,nilF,fldP,lenP,sq,pk,pkS,blE,ltP,leP,gtP,geP,intP,retF,retN,movF,boxF,bxE,mvE,skipF,dropF,asgF,gNm,ixP,orP,ixS,ixD,getD',subP,addP,addI,mulP,mulI,fdivP,modP,powP,shlP,shrP,negP,callP,vlA,methF,makeP,tupP,lstP,imA,imE,bmF,isLst,append1P,pop0P,fldS,putF',putQ,keyI,keyT,keysI,valI,ifE,isQ,slOk,truE,eqP,neP,eqE,mixI,eqD,flI,eqFl,tpl,newK,newT,one, e1', zb]) rfl
theorem law_true (ns : List Int) (h : ns.length ≤ 63) : ∃ G, F_law [.im (.fro (ns.map I.int))] [] = some (.im (.bl true), G) := by
  obtain ⟨a, so, le, e0, a0, a1, hm⟩ := deal_ok (b := 0) (G := []) h (by omega)
  have e0 : F__law_deal [.im (.fro (ns.map I.int)), .im (.int 0)] [] = some (.ow (.dic (dealI a 0 1)), [.lst (so.map I.int), .lst (le.map I.int)]) := e0
  have e1 := init_ok (G := [.lst (so.map I.int), .lst (le.map I.int)])
  have e1 : F_House_init [.im (.ref 2)] [.lst (so.map I.int), .lst (le.map I.int), .obj "House" []] = some (.im .non, [.lst (so.map I.int), .lst (le.map I.int), .obj "House" (hsI 3 4), .lst [], .dit []]) := e1
  obtain ⟨G2, gs2, W2, l2, e2⟩ := law_first (ns := ns) (w0 (so := so) (le := le) a0 a1 hm)
  obtain ⟨r3, G3, e3, b0, b1, W3⟩ := W2.draw (many := 6) (by decide) (by decide)
  obtain ⟨dp, hd, e4⟩ : ∃ dp : Nat, dp ≤ 6 ∧ asgF (opF ixP (bd (consF (conF (.int 0)) (consF (conF (.int 1)) (consF (conF (.int 2)) (consF (conF (.int 3)) (consF (conF (.int 5)) (consF (conF (.int 6)) nilF)))))) lstP) (bd (consF (boxF (varF 1)) (consF (conF (.int 6)) nilF)) (callP 2 F__law_draw))) (gNm 3) (lwD ns none none none none none none none none none) G2 = some (.nx (lwD ns (some (.im (.int dp))) none none none none none none none none) G3) := by
    rcases (show r3 = 0 ∨ r3 = 1 ∨ r3 = 2 ∨ r3 = 3 ∨ r3 = 4 ∨ r3 = 5 by omega) with z | z | z | z | z | z
    · subst z; exact ⟨0, by decide, by simp [lwD, runF,seqF,iteF',orF,andF,notF,tstF,opF,unF,bd,varF,conF,rt,consF,nilF,fldP,lenP,sq,pk,pkS,blE,ltP,leP,gtP,geP,intP,retF,retN,movF,boxF,bxE,mvE,skipF,dropF,asgF,gNm,ixP,orP,ixS,ixD,getD',subP,addP,addI,mulP,mulI,fdivP,modP,powP,shlP,shrP,negP,callP,vlA,methF,makeP,tupP,lstP,imA,imE,bmF,isLst,append1P,pop0P,fldS,putF',putQ,keyI,keyT,keysI,valI,ifE,isQ,slOk,truE,eqP,neP,eqE,mixI,eqD,flI,eqFl,tpl,newK,newT,one, e3, at0]⟩
    · subst z; exact ⟨1, by decide, by simp [lwD, runF,seqF,iteF',orF,andF,notF,tstF,opF,unF,bd,varF,conF,rt,consF,nilF,fldP,lenP,sq,pk,pkS,blE,ltP,leP,gtP,geP,intP,retF,retN,movF,boxF,bxE,mvE,skipF,dropF,asgF,gNm,ixP,orP,ixS,ixD,getD',subP,addP,addI,mulP,mulI,fdivP,modP,powP,shlP,shrP,negP,callP,vlA,methF,makeP,tupP,lstP,imA,imE,bmF,isLst,append1P,pop0P,fldS,putF',putQ,keyI,keyT,keysI,valI,ifE,isQ,slOk,truE,eqP,neP,eqE,mixI,eqD,flI,eqFl,tpl,newK,newT,one, e3, at1]⟩
    · subst z; exact ⟨2, by decide, by simp [lwD, runF,seqF,iteF',orF,andF,notF,tstF,opF,unF,bd,varF,conF,rt,consF,nilF,fldP,lenP,sq,pk,pkS,blE,ltP,leP,gtP,geP,intP,retF,retN,movF,boxF,bxE,mvE,skipF,dropF,asgF,gNm,ixP,orP,ixS,ixD,getD',subP,addP,addI,mulP,mulI,fdivP,modP,powP,shlP,shrP,negP,callP,vlA,methF,makeP,tupP,lstP,imA,imE,bmF,isLst,append1P,pop0P,fldS,putF',putQ,keyI,keyT,keysI,valI,ifE,isQ,slOk,truE,eqP,neP,eqE,mixI,eqD,flI,eqFl,tpl,newK,newT,one, e3, at2]⟩
    · subst z; exact ⟨3, by decide, by simp [lwD, runF,seqF,iteF',orF,andF,notF,tstF,opF,unF,bd,varF,conF,rt,consF,nilF,fldP,lenP,sq,pk,pkS,blE,ltP,leP,gtP,geP,intP,retF,retN,movF,boxF,bxE,mvE,skipF,dropF,asgF,gNm,ixP,orP,ixS,ixD,getD',subP,addP,addI,mulP,mulI,fdivP,modP,powP,shlP,shrP,negP,callP,vlA,methF,makeP,tupP,lstP,imA,imE,bmF,isLst,append1P,pop0P,fldS,putF',putQ,keyI,keyT,keysI,valI,ifE,isQ,slOk,truE,eqP,neP,eqE,mixI,eqD,flI,eqFl,tpl,newK,newT,one, e3, at3]⟩
    · subst z
      have at4 : atI [I.int 0, .int 1, .int 2, .int 3, .int 5, .int 6] 4 = some (.int 5) := atI_nat (j := 4) rfl
      exact ⟨5, by decide, by simp [lwD, runF,seqF,iteF',orF,andF,notF,tstF,opF,unF,bd,varF,conF,rt,consF,nilF,fldP,lenP,sq,pk,pkS,blE,ltP,leP,gtP,geP,intP,retF,retN,movF,boxF,bxE,mvE,skipF,dropF,asgF,gNm,ixP,orP,ixS,ixD,getD',subP,addP,addI,mulP,mulI,fdivP,modP,powP,shlP,shrP,negP,callP,vlA,methF,makeP,tupP,lstP,imA,imE,bmF,isLst,append1P,pop0P,fldS,putF',putQ,keyI,keyT,keysI,valI,ifE,isQ,slOk,truE,eqP,neP,eqE,mixI,eqD,flI,eqFl,tpl,newK,newT,one, e3, at4]⟩
    · subst z
      have at5 : atI [I.int 0, .int 1, .int 2, .int 3, .int 5, .int 6] 5 = some (.int 6) := atI_nat (j := 5) rfl
      exact ⟨6, by decide, by simp [lwD, runF,seqF,iteF',orF,andF,notF,tstF,opF,unF,bd,varF,conF,rt,consF,nilF,fldP,lenP,sq,pk,pkS,blE,ltP,leP,gtP,geP,intP,retF,retN,movF,boxF,bxE,mvE,skipF,dropF,asgF,gNm,ixP,orP,ixS,ixD,getD',subP,addP,addI,mulP,mulI,fdivP,modP,powP,shlP,shrP,negP,callP,vlA,methF,makeP,tupP,lstP,imA,imE,bmF,isLst,append1P,pop0P,fldS,putF',putQ,keyI,keyT,keysI,valI,ifE,isQ,slOk,truE,eqP,neP,eqE,mixI,eqD,flI,eqFl,tpl,newK,newT,one, e3, at5]⟩
  obtain ⟨ws, G5, e5, lw, W5⟩ := W3.row (dp := dp) hd
  obtain ⟨sl, gs6, G6, e6, W6, x6, hS⟩ := W5.seal lw hd (by omega)
  have l6 := x6.len
  have e7 := many_ok W6.S
  obtain ⟨N, hN⟩ : ∃ N, 2 ^ dp = N := ⟨_, rfl⟩
  have pN : (2 : Nat) ^ dp ≤ 2 ^ 6 := Nat.pow_le_pow_right (by decide) hd
  have pN : 2 ^ dp ≤ 64 := pN
  rw [hN] at pN
  obtain ⟨δ8, G8, e8, v7, v8, ed8, eg8⟩ := fT_inv (w := upW N) (g := gNm 7) (b := F_law_w2b)
    (fun i δ G' => ∃ (v7 v8 : Option Vl), δ = lwD ns (some (.im (.int dp))) (some (.im (.tup (ws.map I.int)))) (some (.im (.int sl))) (some (.im (.int gs6.length))) v7 v8 none none none ∧ G' = G6)
    (fun i δ Ga hi ⟨v7, v8, ed, eg⟩ => by
      have hi : i < N := hi
      subst ed; subst eg
      obtain ⟨v8', e⟩ := w2_turn (ns := ns) (k := i) (v6 := some (.im (.int gs6.length))) (v8 := v8) (v9 := none) (v10 := none) (v11 := none) W6 hS hd (by omega)
      exact ⟨.int i, _, Ga, _, Ga, rfl, rfl, e, _, _, rfl, rfl⟩)
    (fun _ _ _ => rfl) N 0 (lwD ns (some (.im (.int dp))) (some (.im (.tup (ws.map I.int)))) (some (.im (.int sl))) (some (.im (.int gs6.length))) none none none none none) G6 (by simp [upW]) ⟨none, none, rfl, rfl⟩
  subst ed8; subst eg8
  obtain ⟨gs9, G9, e9, W9, x9⟩ := right_ok W6 (by omega)
  have l9 := x9.len
  have hS9 := hS.ext x9
  obtain ⟨δ10, G10, e10, v9, v10, v11, ed10, W10⟩ := fT_inv (w := upW 6) (g := gNm 9) (b := F_law_w1b)
    (fun i δ G' => ∃ (v9 v10 v11 : Option Vl), δ = lwD ns (some (.im (.int dp))) (some (.im (.tup (ws.map I.int)))) (some (.im (.int sl))) (some (.im (.int gs6.length))) v7 v8 v9 v10 v11 ∧ Wl G' gs9)
    (fun i δ Ga hi ⟨v9, v10, v11, ed, W'⟩ => by
      subst ed
      obtain ⟨v10', v11', Gb, e, W''⟩ := w1_turn (ns := ns) (v6 := some (.im (.int gs6.length))) (v7 := v7) (v8 := v8) (v9 := some (.im (.int i))) (v10 := v10) (v11 := v11) W' (by omega) hS9 hd
      exact ⟨.int i, _, Ga, _, Gb, rfl, rfl, e, _, _, _, rfl, W''⟩)
    (fun _ _ _ => rfl) 6 0 (lwD ns (some (.im (.int dp))) (some (.im (.tup (ws.map I.int)))) (some (.im (.int sl))) (some (.im (.int gs6.length))) v7 v8 none none none) G9 (by simp [upW]) ⟨none, none, none, rfl, W9⟩
  subst ed10
  obtain ⟨w, ss, hw, hWk, _, _⟩ := sl_way (k := 0) hS9 (by rw [hN, ← hN]; exact Nat.two_pow_pos dp)
  have e11 := word_in_ok (n := sl) (k := 0) W10.S (show dp ≤ 100 by omega)
  rw [hw] at e11
  have e11 : F_word_in [.im (.ref 2), .im (.int sl), .im (.int dp), .im (.int 0)] G10 = some (.im (.int w), G10) := e11
  have hat : atI (ws.map I.int) 0 = some (.int w) := atI_nat (j := 0) (by rw [List.getElem?_map, hWk]; rfl)
  refine ⟨G10, run_rt rfl ?_⟩
  refine seq_go (asg_go (x := .ow (.dic (dealI a 0 1))) (δ1 := [some (.im (.fro (ns.map I.int))), none, none, none, none, none, none, none, none, none, none, none]) (G1 := [.lst (so.map I.int), .lst (le.map I.int)]) (bd_go (cons_go rfl (cons_go rfl rfl)) (call_go rfl rfl e0)) rfl) ?_
  refine seq_go (asg_go (x := .im (.ref 2)) (δ1 := [some (.im (.fro (ns.map I.int))), some (.ow (.dic (dealI a 0 1))), none, none, none, none, none, none, none, none, none, none]) (G1 := [.lst (so.map I.int), .lst (le.map I.int), .obj "House" (hsI 3 4), .lst [], .dit []]) (by simp [runF,seqF,iteF',orF,andF,notF,tstF,opF,unF,bd,varF,conF,rt,consF,nilF,fldP,lenP,sq,pk,pkS,blE,ltP,leP,gtP,geP,intP,retF,retN,movF,boxF,bxE,mvE,skipF,dropF,asgF,gNm,ixP,orP,ixS,ixD,getD',subP,addP,addI,mulP,mulI,fdivP,modP,powP,shlP,shrP,negP,callP,vlA,methF,makeP,tupP,lstP,imA,imE,bmF,isLst,append1P,pop0P,fldS,putF',putQ,keyI,keyT,keysI,valI,ifE,isQ,slOk,truE,eqP,neP,eqE,mixI,eqD,flI,eqFl,tpl,newK,newT,one, e1]) rfl) ?_
  refine seq_go e2 (seq_go e4 ?_)
  refine seq_go (asg_go (x := .im (.tup (ws.map I.int))) (δ1 := lwD ns (some (.im (.int dp))) none none none none none none none none) (G1 := G5) (bd_go (cons_go rfl (cons_go rfl rfl)) (call_go rfl rfl e5)) rfl) ?_
  refine seq_go (asg_go (x := .im (.int sl)) (δ1 := lwD ns (some (.im (.int dp))) (some (.im (.tup (ws.map I.int)))) none none none none none none none) (G1 := G8) (bd_go (cons_go rfl (cons_go rfl rfl)) (call_go rfl rfl e6)) rfl) ?_
  refine seq_go (asg_go (x := .im (.int gs6.length)) (δ1 := lwD ns (some (.im (.int dp))) (some (.im (.tup (ws.map I.int)))) (some (.im (.int sl))) none none none none none none) (G1 := G8) (by simp [lwD, runF,seqF,iteF',orF,andF,notF,tstF,opF,unF,bd,varF,conF,rt,consF,nilF,fldP,lenP,sq,pk,pkS,blE,ltP,leP,gtP,geP,intP,retF,retN,movF,boxF,bxE,mvE,skipF,dropF,asgF,gNm,ixP,orP,ixS,ixD,getD',subP,addP,addI,mulP,mulI,fdivP,modP,powP,shlP,shrP,negP,callP,vlA,methF,makeP,tupP,lstP,imA,imE,bmF,isLst,append1P,pop0P,fldS,putF',putQ,keyI,keyT,keysI,valI,ifE,isQ,slOk,truE,eqP,neP,eqE,mixI,eqD,flI,eqFl,tpl,newK,newT,one, W6.S.ob, n_many, e7]) rfl) ?_
  refine seq_go (for_go (rng_it (n := N) (j := N) (cons_go (shl_at (i := 3) (q := dp) rfl (by omega) hN) rfl) rfl (by omega)) e8) ?_
  refine seq_go (ite_f (δ1 := lwD ns (some (.im (.int dp))) (some (.im (.tup (ws.map I.int)))) (some (.im (.int sl))) (some (.im (.int gs6.length))) v7 v8 none none none) (G1 := G9) (or_f (δ1 := lwD ns (some (.im (.int dp))) (some (.im (.tup (ws.map I.int)))) (some (.im (.int sl))) (some (.im (.int gs6.length))) v7 v8 none none none) (G1 := G8) (tst_go (op_go (x := .v (.im (.int gs6.length))) (δ1 := lwD ns (some (.im (.int dp))) (some (.im (.tup (ws.map I.int)))) (some (.im (.int sl))) (some (.im (.int gs6.length))) v7 v8 none none none) (G1 := G8) (by simp [lwD, runF,seqF,iteF',orF,andF,notF,tstF,opF,unF,bd,varF,conF,rt,consF,nilF,fldP,lenP,sq,pk,pkS,blE,ltP,leP,gtP,geP,intP,retF,retN,movF,boxF,bxE,mvE,skipF,dropF,asgF,gNm,ixP,orP,ixS,ixD,getD',subP,addP,addI,mulP,mulI,fdivP,modP,powP,shlP,shrP,negP,callP,vlA,methF,makeP,tupP,lstP,imA,imE,bmF,isLst,append1P,pop0P,fldS,putF',putQ,keyI,keyT,keysI,valI,ifE,isQ,slOk,truE,eqP,neP,eqE,mixI,eqD,flI,eqFl,tpl,newK,newT,one, W6.S.ob, n_many, e7]) rfl (ne_int _ _ _))) (not_go (b := true) (bd_go (bd_go (cons_go (e := .v (.im (.ref 5))) rfl (cons_go rfl rfl)) (call_go rfl rfl e9)) rfl))) rfl) ?_
  refine seq_go (for_go (rng_it (n := 6) (j := 6) rfl rfl (by omega)) e10) ?_
  refine ret_go (δ1 := lwD ns (some (.im (.int dp))) (some (.im (.tup (ws.map I.int)))) (some (.im (.int sl))) (some (.im (.int gs6.length))) v7 v8 v9 v10 v11) (op_go (bd_go (cons_go rfl (cons_go rfl (cons_go rfl (cons_go rfl rfl)))) (call_go rfl rfl e11)) (op_go rfl rfl (r := some (.v (.im (.int w)), lwD ns (some (.im (.int dp))) (some (.im (.tup (ws.map I.int)))) (some (.im (.int sl))) (some (.im (.int gs6.length))) v7 v8 v9 v10 v11, G10)) (by simp [ixP, orP, ixS, sq, hat])) ?_)
  simp [eqP, eqE, imE, mixI, eqD, flI, eqFl]
end Q
namespace Q
open PySem PySem.Spec PyProof.Rows L2 B
def top (i : Nat) : Stmt := PySem.Challenge.pw_stepcourt_k23_opened_by_paths.main.body.getD i (.Pass ⟨0, 0, 0, 0⟩)
structure Tx (K : PySem.W.Frag) (mg : Str → Option Value) (κ : Str → Addr) : Prop where
  c_House : Cls K (κ "House")
  g_House : mg "House" = some (.ref (κ "House"))
  n_House_given : NoAttr K (κ "House") "given"
  n_House_seals : NoAttr K (κ "House") "seals"
  b_enumerate : mg "enumerate" = none
  b_len : mg "len" = none
  b_list : mg "list" = none
  b_max : mg "max" = none
  b_min : mg "min" = none
  b_range : mg "range" = none
  b_reversed : mg "reversed" = none
  b_tuple : mg "tuple" = none
  b_zip : mg "zip" = none
section
variable {P : Program} {w : World} {K : PySem.W.Frag} {mg : Str → Option Value} {base : Heap} {κ : Str → Addr}
theorem sc__law_deal : FnScope ["_law_script", "_law_base", "_law_some", "_law_number", "_law_one"] ["_law_script", "_law_base"] (defScope (top 9)) := ⟨rfl, rfl, rfl, by decide +kernel, rfl, by decide +kernel, by decide +kernel⟩
theorem ok__law_deal {f : Addr} {fd : FuncData} (F : Fun K "_law_deal" "_law_deal" (top 9) f fd) (E : Tx K mg κ) : FnOk P w K mg base CX0 1 f fd ["_law_script", "_law_base"] (UpF K κ 2 F__law_deal) :=
  lift F sc__law_deal rfl rfl fun cdv A outer s H _ hr => (ss_cons (s_comp1 (i := 2) (compOkN_of (osc := (defScope (top 9))) (N := ["_law_script", "_law_base", "_law_some", "_law_number", "_law_one"]) (xs := ["_law_one"]) (ys := []) (ix := []) rfl rfl (by decide +kernel)) (i_seq (e_sli (e_var 0) (po_some' (e_var 1)) (po_some' e_int))) (fun z => i_nil) (fun z => (e_max2 hr E.b_max (a_cons (e_var 0) (a_cons (e_op (q_sub hr) p_sub e_int (e_var 0)) a_nil)))) sc__law_deal.nd)
  (ss_cons (s_set (i := 3) sc__law_deal.nd (e_op (q_add hr) p_add e_int (e_var 1)))
  (ss_cons (s_for (i_seq (e_box (e_var 2))) (g_nm (i := 4) sc__law_deal.nd)
  (ss_one (s_set (i := 3) sc__law_deal.nd (e_op (q_mod hr) p_mod (e_op (q_add hr) p_add (e_op (q_mul hr) p_mul (e_var 3) e_int) (e_op (q_mod hr) p_mod (e_var 4) e_int)) e_int))))
  (ss_one (s_ret (e_dic hr (d_cons e_str (e_var 3) (d_cons e_str e_int (d_cons e_str (e_box (e_lrev E.b_list E.b_reversed (e_comp1 (compOkN_of (osc := (defScope (top 9))) (N := ["_law_script", "_law_base", "_law_some", "_law_number", "_law_one"]) (xs := ["_law_one"]) (ys := []) (ix := []) rfl rfl (by decide +kernel)) (i_seq (e_box (e_var 2))) (fun z => (i_one (t_ge hr (e_var 0) (e_op (q_pow hr) p_pow e_int e_int)))) (fun z => (e_var 0))))) d_nil)))))))))
theorem sc_House_init : FnScope ["self"] ["self"] (defScope (inClass (top 7) 0)) := ⟨rfl, rfl, rfl, by decide +kernel, rfl, by decide +kernel, by decide +kernel⟩
theorem ok_House_init {f : Addr} {fd : FuncData} (F : Fun K "__init__" "House.__init__" (inClass (top 7) 0) f fd) (E : Tx K mg κ) : FnOk P w K mg base CX0 1 f fd ["self"] (UpF K κ 1 F_House_init) :=
  lift F sc_House_init rfl rfl fun cdv A outer s H _ hr => (ss_cons (s_fld E.c_House E.n_House_given (e_var 0) (e_box (e_lst a_nil)))
  (ss_one (s_fld E.c_House E.n_House_seals (e_var 0) (e_box e_dnewT))))
theorem sc__law_draw : FnScope ["_law_deal_here", "_law_many", "_law_number", "_law_one", "_law_other"] ["_law_deal_here", "_law_many"] (defScope (top 10)) := ⟨rfl, rfl, rfl, by decide +kernel, rfl, by decide +kernel, by decide +kernel⟩
theorem ok__law_draw {f : Addr} {fd : FuncData} (F : Fun K "_law_draw" "_law_draw" (top 10) f fd) (E : Tx K mg κ) : FnOk P w K mg base CX0 1 f fd ["_law_deal_here", "_law_many"] (UpF K κ 2 F__law_draw) :=
  lift F sc__law_draw rfl rfl fun cdv A outer s H _ hr => (ss_cons (s_while (t_w (w_and (t_eq hr (e_ix hr (e_var 0) e_str) e_int) (w_and1 (t_gt hr (e_len hr E.b_len (a_cons (e_ix hr (e_var 0) e_str) a_nil)) e_int))))
  (ss_one (s_put hr (e_var 0) e_str (e_pop0 (e_ix hr (e_var 0) e_str)))))
  (ss_cons (s_set (i := 2) sc__law_draw.nd (e_ix hr (e_var 0) e_str))
  (ss_cons (s_if (t_gt hr (e_var 2) e_int)
  (ss_cons (s_put hr (e_var 0) e_str (e_op (q_fdiv hr) p_fdiv (e_var 2) (e_var 1)))
  (ss_one (s_ret (e_op (q_mod hr) p_mod (e_var 2) (e_var 1)))))
  ss_nil)
  (ss_cons (s_set (i := 3) sc__law_draw.nd (e_op (q_mod hr) p_mod (e_op (q_add hr) p_add (e_op (q_mul hr) p_mul (e_ix hr (e_var 0) e_str) e_int) e_int) e_int))
  (ss_cons (s_put hr (e_var 0) e_str (e_op (q_mod hr) p_mod (e_op (q_add hr) p_add (e_op (q_mul hr) p_mul (e_var 3) e_int) e_int) e_int))
  (ss_cons (s_set (i := 4) sc__law_draw.nd (e_op (q_mod hr) p_mod (e_op (q_mul hr) p_mul (e_ix hr (e_var 0) e_str) (e_ix hr (e_var 0) e_str)) e_int))
  (ss_one (s_ret (e_op (q_mod hr) p_mod (e_op (q_add hr) p_add (e_op (q_mul hr) p_mul (e_op (q_mod hr) p_mod (e_op (q_mul hr) p_mul (e_var 3) (e_var 3)) e_int) e_int) (e_var 4)) (e_var 1))))))))))
theorem sc__law_word : FnScope ["_law_deal_here"] ["_law_deal_here"] (defScope (top 11)) := ⟨rfl, rfl, rfl, by decide +kernel, rfl, by decide +kernel, by decide +kernel⟩
theorem ok__law_word {f : Addr} {fd : FuncData} (F : Fun K "_law_word" "_law_word" (top 11) f fd) (E : Tx K mg κ) (h__law_draw : Has P w K mg base "_law_draw" 1 ["_law_deal_here", "_law_many"] (UpF K κ 2 F__law_draw)) : FnOk P w K mg base CX0 2 f fd ["_law_deal_here"] (UpF K κ 1 F__law_word) :=
  lift F sc__law_word rfl rfl fun cdv A outer s H _ hr => (ss_one (s_ret (e_ix hr (e_lst (a_cons (e_call h__law_draw (hr.mono (by first | decide | omega)) (a_cons (e_var 0) (a_cons e_int a_nil))) (a_cons (e_op (q_sub hr) p_sub (e_op (q_sub hr) p_sub e_int e_int) (e_call h__law_draw (hr.mono (by first | decide | omega)) (a_cons (e_var 0) (a_cons e_int a_nil)))) (a_cons (e_call h__law_draw (hr.mono (by first | decide | omega)) (a_cons (e_var 0) (a_cons e_int a_nil))) a_nil)))) (e_call h__law_draw (hr.mono (by first | decide | omega)) (a_cons (e_var 0) (a_cons e_int a_nil))))))
theorem sc__law_row : FnScope ["_law_deal_here", "_law_depth", "_law_few", "_law_found", "_law_form"] ["_law_deal_here", "_law_depth"] (defScope (top 12)) := ⟨rfl, rfl, rfl, by decide +kernel, rfl, by decide +kernel, by decide +kernel⟩
theorem ok__law_row {f : Addr} {fd : FuncData} (F : Fun K "_law_row" "_law_row" (top 12) f fd) (E : Tx K mg κ) (h__law_draw : Has P w K mg base "_law_draw" 1 ["_law_deal_here", "_law_many"] (UpF K κ 2 F__law_draw)) (h__law_word : Has P w K mg base "_law_word" 2 ["_law_deal_here"] (UpF K κ 1 F__law_word)) : FnOk P w K mg base CX0 3 f fd ["_law_deal_here", "_law_depth"] (UpF K κ 2 F__law_row) :=
  lift F sc__law_row rfl rfl fun cdv A outer s H _ hr => (ss_cons (s_set (i := 2) sc__law_row.nd (e_comp1 (compOkN_of (osc := (defScope (top 12))) (N := ["_law_deal_here", "_law_depth", "_law_few", "_law_found", "_law_form"]) (xs := ["_law_k"]) (ys := ["_law_deal_here"]) (ix := [0]) rfl rfl (by decide +kernel)) (i_rng1 E.b_range (a_cons (e_op (q_add hr) p_add e_int (e_call h__law_draw (hr.mono (by first | decide | omega)) (a_cons (e_var 0) (a_cons e_int a_nil)))) a_nil)) (fun z => i_nil) (fun z => (e_call h__law_word (hr.mono (by first | decide | omega)) (a_cons (e_var 1) a_nil)))))
  (ss_cons (s_comp1 (i := 3) (compOkN_of (osc := (defScope (top 12))) (N := ["_law_deal_here", "_law_depth", "_law_few", "_law_found", "_law_form"]) (xs := ["_law_k"]) (ys := ["_law_few", "_law_deal_here"]) (ix := [2, 0]) rfl rfl (by decide +kernel)) (i_rng1 E.b_range (a_cons (e_op (q_shl hr) p_shl e_int (e_var 1)) a_nil)) (fun z => i_nil) (fun z => (e_ix hr (e_var 1) (e_call h__law_draw (hr.mono (by first | decide | omega)) (a_cons (e_var 2) (a_cons (e_len hr E.b_len (a_cons (e_var 1) a_nil)) a_nil))))) sc__law_row.nd)
  (ss_cons (s_set (i := 4) sc__law_row.nd (e_call h__law_draw (hr.mono (by first | decide | omega)) (a_cons (e_var 0) (a_cons e_int a_nil))))
  (ss_cons (s_if (t_w (w_and (t_gt hr (e_var 1) e_int) (w_and1 (t_eq hr (e_var 4) e_int))))
  (ss_one (s_set (i := 3) sc__law_row.nd (e_op (q_mul hr) p_mul (e_sli (e_var 3) po_none' (po_some' (e_op (q_fdiv hr) p_fdiv (e_op (q_shl hr) p_shl e_int (e_var 1)) e_int))) e_int)))
  ss_nil)
  (ss_cons (s_if (t_eq hr (e_var 4) e_int)
  (ss_one (s_comp1 (i := 3) (compOkN_of (osc := (defScope (top 12))) (N := ["_law_deal_here", "_law_depth", "_law_few", "_law_found", "_law_form"]) (xs := ["_law_k"]) (ys := ["_law_few"]) (ix := [2]) rfl rfl (by decide +kernel)) (i_rng1 E.b_range (a_cons (e_op (q_shl hr) p_shl e_int (e_var 1)) a_nil)) (fun z => i_nil) (fun z => (e_op (q_mod hr) p_mod (e_op (q_add hr) p_add (e_ix hr (e_var 1) e_int) (e_op (q_mul hr) p_mul e_int (e_var 0))) e_int)) sc__law_row.nd))
  ss_nil)
  (ss_one (s_ret (e_tuple hr E.b_tuple (a_cons (e_var 3) a_nil)))))))))
theorem sc_House_seal_for : FnScope ["self", "made"] ["self", "made"] (defScope (inClass (top 7) 1)) := ⟨rfl, rfl, rfl, by decide +kernel, rfl, by decide +kernel, by decide +kernel⟩
theorem ok_House_seal_for {f : Addr} {fd : FuncData} (F : Fun K "seal_for" "House.seal_for" (inClass (top 7) 1) f fd) (E : Tx K mg κ) : FnOk P w K mg base CX0 1 f fd ["self", "made"] (UpF K κ 2 F_House_seal_for) :=
  lift F sc_House_seal_for rfl rfl fun cdv A outer s H _ hr => (ss_cons (s_if (t_nin hr (e_var 1) (e_fld E.c_House E.n_House_seals (e_var 0)))
  (ss_cons (s_expr (e_append1 hr (e_fld E.c_House E.n_House_given (e_var 0)) (a_cons (e_var 1) a_nil)))
  (ss_one (s_put hr (e_fld E.c_House E.n_House_seals (e_var 0)) (e_var 1) (e_len hr E.b_len (a_cons (e_fld E.c_House E.n_House_given (e_var 0)) a_nil)))))
  ss_nil)
  (ss_one (s_ret (e_ix hr (e_fld E.c_House E.n_House_seals (e_var 0)) (e_var 1)))))
theorem sc_House_leaf : FnScope ["self", "word"] ["self", "word"] (defScope (inClass (top 7) 2)) := ⟨rfl, rfl, rfl, by decide +kernel, rfl, by decide +kernel, by decide +kernel⟩
theorem ok_House_leaf {f : Addr} {fd : FuncData} (F : Fun K "leaf" "House.leaf" (inClass (top 7) 2) f fd) (E : Tx K mg κ) (h_House_seal_for : HasM P w K mg base (κ "House") "seal_for" 1 ["self", "made"] (UpF K κ 2 F_House_seal_for)) : FnOk P w K mg base CX0 2 f fd ["self", "word"] (UpF K κ 2 F_House_leaf) :=
  lift F sc_House_leaf rfl rfl fun cdv A outer s H _ hr => (ss_one (s_ret (e_meth h_House_seal_for E.c_House (hr.mono (by first | decide | omega)) (e_var 0) (a_cons (e_tup (a_cons e_str (a_cons (e_var 1) a_nil))) a_nil))))
theorem sc_House_pair : FnScope ["self", "one", "other"] ["self", "one", "other"] (defScope (inClass (top 7) 3)) := ⟨rfl, rfl, rfl, by decide +kernel, rfl, by decide +kernel, by decide +kernel⟩
theorem ok_House_pair {f : Addr} {fd : FuncData} (F : Fun K "pair" "House.pair" (inClass (top 7) 3) f fd) (E : Tx K mg κ) (h_House_seal_for : HasM P w K mg base (κ "House") "seal_for" 1 ["self", "made"] (UpF K κ 2 F_House_seal_for)) : FnOk P w K mg base CX0 2 f fd ["self", "one", "other"] (UpF K κ 3 F_House_pair) :=
  lift F sc_House_pair rfl rfl fun cdv A outer s H _ hr => (ss_one (s_ret (e_meth h_House_seal_for E.c_House (hr.mono (by first | decide | omega)) (e_var 0) (a_cons (e_tup (a_cons e_str (a_cons (e_var 1) (a_cons (e_var 2) a_nil)))) a_nil))))
theorem sc_seal_of : FnScope ["house", "words", "seals"] ["house", "words"] (defScope (top 1)) := ⟨rfl, rfl, rfl, by decide +kernel, rfl, by decide +kernel, by decide +kernel⟩
theorem ok_seal_of {f : Addr} {fd : FuncData} (F : Fun K "seal_of" "seal_of" (top 1) f fd) (E : Tx K mg κ) (h_House_pair : HasM P w K mg base (κ "House") "pair" 2 ["self", "one", "other"] (UpF K κ 3 F_House_pair)) (h_House_leaf : HasM P w K mg base (κ "House") "leaf" 2 ["self", "word"] (UpF K κ 2 F_House_leaf)) : FnOk P w K mg base CX0 3 f fd ["house", "words"] (UpF K κ 2 F_seal_of) :=
  lift F sc_seal_of rfl rfl fun cdv A outer s H _ hr => (ss_cons (s_comp1 (i := 2) (compOkN_of (osc := (defScope (top 1))) (N := ["house", "words", "seals"]) (xs := ["word"]) (ys := ["house"]) (ix := [0]) rfl rfl (by decide +kernel)) (i_seq (e_var 1)) (fun z => i_nil) (fun z => (e_meth h_House_leaf E.c_House (hr.mono (by first | decide | omega)) (e_var 1) (a_cons (e_var 0) a_nil))) sc_seal_of.nd)
  (ss_cons (s_while (t_gt hr (e_len hr E.b_len (a_cons (e_var 2) a_nil)) e_int)
  (ss_one (s_comp2 (i := 2) (compOkN_of (osc := (defScope (top 1))) (N := ["house", "words", "seals"]) (xs := ["one", "other"]) (ys := ["house"]) (ix := [0]) rfl rfl (by decide +kernel)) (i_zip E.b_zip (a_cons (e_box (e_stp (e_var 2) po_none' po_none' e_int)) (a_cons (e_box (e_stp (e_var 2) (po_some' e_int) po_none' e_int)) a_nil))) (fun z => i_nil) (fun z => (e_meth h_House_pair E.c_House (hr.mono (by first | decide | omega)) (e_var 2) (a_cons (e_var 0) (a_cons (e_var 1) a_nil)))) sc_seal_of.nd)))
  (ss_one (s_ret (e_ix hr (e_var 2) e_int)))))
theorem sc_House_many : FnScope ["self"] ["self"] (defScope (inClass (top 7) 5)) := ⟨rfl, rfl, rfl, by decide +kernel, rfl, by decide +kernel, by decide +kernel⟩
theorem ok_House_many {f : Addr} {fd : FuncData} (F : Fun K "many" "House.many" (inClass (top 7) 5) f fd) (E : Tx K mg κ) : FnOk P w K mg base CX0 1 f fd ["self"] (UpF K κ 1 F_House_many) :=
  lift F sc_House_many rfl rfl fun cdv A outer s H _ hr => (ss_one (s_ret (e_len hr E.b_len (a_cons (e_fld E.c_House E.n_House_given (e_var 0)) a_nil))))
theorem sc_House_opened : FnScope ["self", "seal"] ["self", "seal"] (defScope (inClass (top 7) 4)) := ⟨rfl, rfl, rfl, by decide +kernel, rfl, by decide +kernel, by decide +kernel⟩
theorem ok_House_opened {f : Addr} {fd : FuncData} (F : Fun K "opened" "House.opened" (inClass (top 7) 4) f fd) (E : Tx K mg κ) : FnOk P w K mg base CX0 1 f fd ["self", "seal"] (UpF K κ 2 F_House_opened) :=
  lift F sc_House_opened rfl rfl fun cdv A outer s H _ hr => (ss_cons (s_if (t_w (w_or (t_lt hr (e_var 1) e_int) (w_or1 (t_gt hr (e_var 1) (e_len hr E.b_len (a_cons (e_fld E.c_House E.n_House_given (e_var 0)) a_nil))))))
  (ss_one (s_ret e_non))
  ss_nil)
  (ss_one (s_ret (e_ix hr (e_fld E.c_House E.n_House_given (e_var 0)) (e_op (q_sub hr) p_sub (e_var 1) e_int)))))
theorem sc_path_in : FnScope ["house", "seal", "depth", "k", "siblings", "height", "made", "side"] ["house", "seal", "depth", "k"] (defScope (top 2)) := ⟨rfl, rfl, rfl, by decide +kernel, rfl, by decide +kernel, by decide +kernel⟩
theorem ok_path_in {f : Addr} {fd : FuncData} (F : Fun K "path_in" "path_in" (top 2) f fd) (E : Tx K mg κ) (h_House_opened : HasM P w K mg base (κ "House") "opened" 1 ["self", "seal"] (UpF K κ 2 F_House_opened)) : FnOk P w K mg base CX0 2 f fd ["house", "seal", "depth", "k"] (UpF K κ 4 F_path_in) :=
  lift F sc_path_in rfl rfl fun cdv A outer s H _ hr => (ss_cons (s_set (i := 4) sc_path_in.nd (e_lst a_nil))
  (ss_cons (s_for (i_rng3 E.b_range (a_cons (e_op (q_sub hr) p_sub (e_var 2) e_int) (a_cons (e_neg e_int) (a_cons (e_neg e_int) a_nil)))) (g_nm (i := 5) sc_path_in.nd)
  (ss_cons (s_set (i := 6) sc_path_in.nd (e_meth h_House_opened E.c_House (hr.mono (by first | decide | omega)) (e_var 0) (a_cons (e_var 1) a_nil)))
  (ss_cons (s_if (t_w (w_or (t_is (e_var 6)) (w_or1 (t_eq hr (e_ix hr (e_var 6) e_int) e_str))))
  (ss_one (s_ret e_non))
  ss_nil)
  (ss_cons (s_set (i := 7) sc_path_in.nd (e_op (q_and hr) p_and (e_op (q_shr hr) p_shr (e_var 3) (e_var 5)) e_int))
  (ss_cons (s_set (i := 1) sc_path_in.nd (e_ix hr (e_var 6) (e_op (q_add hr) p_add e_int (e_var 7))))
  (ss_one (s_expr (e_append1 hr (e_var 4) (a_cons (e_ix hr (e_var 6) (e_op (q_sub hr) p_sub e_int (e_var 7))) a_nil)))))))))
  (ss_cons (s_set (i := 6) sc_path_in.nd (e_meth h_House_opened E.c_House (hr.mono (by first | decide | omega)) (e_var 0) (a_cons (e_var 1) a_nil)))
  (ss_cons (s_if (t_w (w_or (t_is (e_var 6)) (w_or1 (t_eq hr (e_ix hr (e_var 6) e_int) e_str))))
  (ss_one (s_ret e_non))
  ss_nil)
  (ss_one (s_ret (e_tup (a_cons (e_ix hr (e_var 6) e_int) (a_cons (e_tuple hr E.b_tuple (a_cons (e_rev (e_var 4)) a_nil)) a_nil)))))))))
theorem sc_word_in : FnScope ["house", "seal", "depth", "k", "path"] ["house", "seal", "depth", "k"] (defScope (top 3)) := ⟨rfl, rfl, rfl, by decide +kernel, rfl, by decide +kernel, by decide +kernel⟩
theorem ok_word_in {f : Addr} {fd : FuncData} (F : Fun K "word_in" "word_in" (top 3) f fd) (E : Tx K mg κ) (h_path_in : Has P w K mg base "path_in" 2 ["house", "seal", "depth", "k"] (UpF K κ 4 F_path_in)) : FnOk P w K mg base CX0 3 f fd ["house", "seal", "depth", "k"] (UpF K κ 4 F_word_in) :=
  lift F sc_word_in rfl rfl fun cdv A outer s H _ hr => (ss_cons (s_set (i := 4) sc_word_in.nd (e_call h_path_in (hr.mono (by first | decide | omega)) (a_cons (e_var 0) (a_cons (e_var 1) (a_cons (e_var 2) (a_cons (e_var 3) a_nil))))))
  (ss_one (s_ret (e_if (t_is (e_var 4)) e_non (e_ix hr (e_var 4) e_int)))))
theorem sc__law_seal : FnScope ["_law_house", "_law_words", "_law_half", "_law_one"] ["_law_house", "_law_words"] (defScope (top 13)) := ⟨rfl, rfl, rfl, by decide +kernel, rfl, by decide +kernel, by decide +kernel⟩
theorem ok__law_seal {f : Addr} {fd : FuncData} {n : Nat} (F : Fun K "_law_seal" "_law_seal" (top 13) f fd) (E : Tx K mg κ) (h_House_pair : HasM P w K mg base (κ "House") "pair" 2 ["self", "one", "other"] (UpF K κ 3 F_House_pair)) (h__law_seal : Has P w K mg base "_law_seal" (3 + n) ["_law_house", "_law_words"] (UpF K κ 2 (F__law_seal n))) (h_House_leaf : HasM P w K mg base (κ "House") "leaf" 2 ["self", "word"] (UpF K κ 2 F_House_leaf)) : FnOk P w K mg base CX0 (3 + n + 1) f fd ["_law_house", "_law_words"] (UpF K κ 2 (F__law_seal (n + 1))) := by
  unfold F__law_seal
  exact lift F sc__law_seal rfl rfl fun cdv A outer s H _ hr => (ss_cons (s_if (t_eq hr (e_len hr E.b_len (a_cons (e_var 1) a_nil)) e_int)
  (ss_one (s_ret (e_meth h_House_leaf E.c_House (hr.mono (by first | decide | omega)) (e_var 0) (a_cons (e_ix hr (e_var 1) e_int) a_nil))))
  ss_nil)
  (ss_cons (s_set (i := 2) sc__law_seal.nd (e_op (q_fdiv hr) p_fdiv (e_len hr E.b_len (a_cons (e_var 1) a_nil)) e_int))
  (ss_cons (s_set (i := 3) sc__law_seal.nd (e_call h__law_seal (hr.mono (by first | decide | omega)) (a_cons (e_var 0) (a_cons (e_sli (e_var 1) po_none' (po_some' (e_var 2))) a_nil))))
  (ss_one (s_ret (e_meth h_House_pair E.c_House (hr.mono (by first | decide | omega)) (e_var 0) (a_cons (e_var 3) (a_cons (e_call h__law_seal (hr.mono (by first | decide | omega)) (a_cons (e_var 0) (a_cons (e_sli (e_var 1) (po_some' (e_var 2)) po_none') a_nil))) a_nil))))))))
theorem sc__law_siblings : FnScope ["_law_house", "_law_words", "_law_depth", "_law_k", "_law_found", "_law_j", "_law_wide", "_law_at"] ["_law_house", "_law_words", "_law_depth", "_law_k"] (defScope (top 14)) := ⟨rfl, rfl, rfl, by decide +kernel, rfl, by decide +kernel, by decide +kernel⟩
theorem ok__law_siblings {f : Addr} {fd : FuncData} (F : Fun K "_law_siblings" "_law_siblings" (top 14) f fd) (E : Tx K mg κ) (h__law_seal : Has P w K mg base "_law_seal" 11 ["_law_house", "_law_words"] (UpF K κ 2 (F__law_seal 8))) : FnOk P w K mg base CX0 12 f fd ["_law_house", "_law_words", "_law_depth", "_law_k"] (UpF K κ 4 F__law_siblings) :=
  lift F sc__law_siblings rfl rfl fun cdv A outer s H _ hr => (ss_cons (s_set (i := 4) sc__law_siblings.nd (e_lst a_nil))
  (ss_cons (s_for (i_rng1 E.b_range (a_cons (e_var 2) a_nil)) (g_nm (i := 5) sc__law_siblings.nd)
  (ss_cons (s_set (i := 6) sc__law_siblings.nd (e_op (q_shl hr) p_shl e_int (e_var 5)))
  (ss_cons (s_set (i := 7) sc__law_siblings.nd (e_op (q_mul hr) p_mul (e_op (q_xor hr) p_xor (e_op (q_fdiv hr) p_fdiv (e_var 3) (e_var 6)) e_int) (e_var 6)))
  (ss_one (s_expr (e_append1 hr (e_var 4) (a_cons (e_call h__law_seal (hr.mono (by first | decide | omega)) (a_cons (e_var 0) (a_cons (e_sli (e_var 1) (po_some' (e_var 7)) (po_some' (e_op (q_add hr) p_add (e_var 7) (e_var 6)))) a_nil))) a_nil)))))))
  (ss_one (s_ret (e_tuple hr E.b_tuple (a_cons (e_var 4) a_nil))))))
theorem sc__law_uneven : FnScope ["_law_deal_here", "_law_house", "_law_far", "_law_word_here", "_law_one", "_law_other"] ["_law_deal_here", "_law_house", "_law_far"] (defScope (top 16)) := ⟨rfl, rfl, rfl, by decide +kernel, rfl, by decide +kernel, by decide +kernel⟩
theorem ok__law_uneven {f : Addr} {fd : FuncData} {n : Nat} (F : Fun K "_law_uneven" "_law_uneven" (top 16) f fd) (E : Tx K mg κ) (h_House_pair : HasM P w K mg base (κ "House") "pair" 2 ["self", "one", "other"] (UpF K κ 3 F_House_pair)) (h__law_uneven : Has P w K mg base "_law_uneven" (3 + n) ["_law_deal_here", "_law_house", "_law_far"] (UpF K κ 3 (F__law_uneven n))) (h__law_draw : Has P w K mg base "_law_draw" 1 ["_law_deal_here", "_law_many"] (UpF K κ 2 F__law_draw)) (h_House_leaf : HasM P w K mg base (κ "House") "leaf" 2 ["self", "word"] (UpF K κ 2 F_House_leaf)) (h__law_word : Has P w K mg base "_law_word" 2 ["_law_deal_here"] (UpF K κ 1 F__law_word)) : FnOk P w K mg base CX0 (3 + n + 1) f fd ["_law_deal_here", "_law_house", "_law_far"] (UpF K κ 3 (F__law_uneven (n + 1))) := by
  unfold F__law_uneven
  exact lift F sc__law_uneven rfl rfl fun cdv A outer s H _ hr => (ss_cons (s_if (t_w (w_or (t_eq hr (e_var 2) e_int) (w_or1 (t_eq hr (e_call h__law_draw (hr.mono (by first | decide | omega)) (a_cons (e_var 0) (a_cons e_int a_nil))) e_int))))
  (ss_cons (s_set (i := 3) sc__law_uneven.nd (e_call h__law_word (hr.mono (by first | decide | omega)) (a_cons (e_var 0) a_nil)))
  (ss_one (s_ret (e_tup (a_cons e_str (a_cons (e_meth h_House_leaf E.c_House (hr.mono (by first | decide | omega)) (e_var 1) (a_cons (e_var 3) a_nil)) (a_cons (e_var 3) a_nil)))))))
  ss_nil)
  (ss_cons (s_set (i := 4) sc__law_uneven.nd (e_call h__law_uneven (hr.mono (by first | decide | omega)) (a_cons (e_var 0) (a_cons (e_var 1) (a_cons (e_op (q_sub hr) p_sub (e_var 2) e_int) a_nil)))))
  (ss_cons (s_set (i := 5) sc__law_uneven.nd (e_call h__law_uneven (hr.mono (by first | decide | omega)) (a_cons (e_var 0) (a_cons (e_var 1) (a_cons (e_op (q_sub hr) p_sub (e_var 2) e_int) a_nil)))))
  (ss_one (s_ret (e_tup (a_cons e_str (a_cons (e_meth h_House_pair E.c_House (hr.mono (by first | decide | omega)) (e_var 1) (a_cons (e_ix hr (e_var 4) e_int) (a_cons (e_ix hr (e_var 5) e_int) a_nil))) (a_cons (e_var 4) (a_cons (e_var 5) a_nil))))))))))
theorem sc__law_way : FnScope ["_law_tree", "_law_depth", "_law_k", "_law_beside", "_law_j", "_law_side"] ["_law_tree", "_law_depth", "_law_k"] (defScope (top 17)) := ⟨rfl, rfl, rfl, by decide +kernel, rfl, by decide +kernel, by decide +kernel⟩
theorem ok__law_way {f : Addr} {fd : FuncData} (F : Fun K "_law_way" "_law_way" (top 17) f fd) (E : Tx K mg κ) : FnOk P w K mg base CX0 1 f fd ["_law_tree", "_law_depth", "_law_k"] (UpF K κ 3 F__law_way) :=
  lift F sc__law_way rfl rfl fun cdv A outer s H _ hr => (ss_cons (s_set (i := 3) sc__law_way.nd (e_tup a_nil))
  (ss_cons (s_for (i_rng3 E.b_range (a_cons (e_op (q_sub hr) p_sub (e_var 1) e_int) (a_cons (e_neg e_int) (a_cons (e_neg e_int) a_nil)))) (g_nm (i := 4) sc__law_way.nd)
  (ss_cons (s_if (t_ne hr (e_ix hr (e_var 0) e_int) e_str)
  (ss_one (s_ret e_non))
  ss_nil)
  (ss_cons (s_set (i := 5) sc__law_way.nd (e_op (q_mod hr) p_mod (e_op (q_shr hr) p_shr (e_var 2) (e_var 4)) e_int))
  (ss_cons (s_set (i := 3) sc__law_way.nd (e_op (q_add hr) p_add (e_tup (a_cons (e_ix hr (e_ix hr (e_var 0) (e_op (q_sub hr) p_sub e_int (e_var 5))) e_int) a_nil)) (e_var 3)))
  (ss_one (s_set (i := 0) sc__law_way.nd (e_ix hr (e_var 0) (e_op (q_add hr) p_add e_int (e_var 5)))))))))
  (ss_cons (s_if (t_ne hr (e_ix hr (e_var 0) e_int) e_str)
  (ss_one (s_ret e_non))
  ss_nil)
  (ss_one (s_ret (e_tup (a_cons (e_ix hr (e_var 0) e_int) (a_cons (e_var 3) a_nil))))))))
theorem sc_pair_above : FnScope ["house", "place", "seal", "sibling"] ["house", "place", "seal", "sibling"] (defScope (top 4)) := ⟨rfl, rfl, rfl, by decide +kernel, rfl, by decide +kernel, by decide +kernel⟩
theorem ok_pair_above {f : Addr} {fd : FuncData} (F : Fun K "pair_above" "pair_above" (top 4) f fd) (E : Tx K mg κ) (h_House_pair : HasM P w K mg base (κ "House") "pair" 2 ["self", "one", "other"] (UpF K κ 3 F_House_pair)) : FnOk P w K mg base CX0 3 f fd ["house", "place", "seal", "sibling"] (UpF K κ 4 F_pair_above) :=
  lift F sc_pair_above rfl rfl fun cdv A outer s H _ hr => (ss_one (s_ret (e_if (t_eq hr (e_op (q_and hr) p_and (e_var 1) e_int) e_int) (e_meth h_House_pair E.c_House (hr.mono (by first | decide | omega)) (e_var 0) (a_cons (e_var 2) (a_cons (e_var 3) a_nil))) (e_meth h_House_pair E.c_House (hr.mono (by first | decide | omega)) (e_var 0) (a_cons (e_var 3) (a_cons (e_var 2) a_nil))))))
theorem sc_put_in : FnScope ["house", "seal", "depth", "k", "word", "path", "behind", "height", "sibling"] ["house", "seal", "depth", "k", "word"] (defScope (top 5)) := ⟨rfl, rfl, rfl, by decide +kernel, rfl, by decide +kernel, by decide +kernel⟩
theorem ok_put_in {f : Addr} {fd : FuncData} (F : Fun K "put_in" "put_in" (top 5) f fd) (E : Tx K mg κ) (h_pair_above : Has P w K mg base "pair_above" 3 ["house", "place", "seal", "sibling"] (UpF K κ 4 F_pair_above)) (h_House_leaf : HasM P w K mg base (κ "House") "leaf" 2 ["self", "word"] (UpF K κ 2 F_House_leaf)) (h_path_in : Has P w K mg base "path_in" 2 ["house", "seal", "depth", "k"] (UpF K κ 4 F_path_in)) : FnOk P w K mg base CX0 4 f fd ["house", "seal", "depth", "k", "word"] (UpF K κ 5 F_put_in) :=
  lift F sc_put_in rfl rfl fun cdv A outer s H _ hr => (ss_cons (s_set (i := 5) sc_put_in.nd (e_call h_path_in (hr.mono (by first | decide | omega)) (a_cons (e_var 0) (a_cons (e_var 1) (a_cons (e_var 2) (a_cons (e_var 3) a_nil))))))
  (ss_cons (s_if (t_is (e_var 5))
  (ss_one (s_ret e_non))
  ss_nil)
  (ss_cons (s_set (i := 6) sc_put_in.nd (e_meth h_House_leaf E.c_House (hr.mono (by first | decide | omega)) (e_var 0) (a_cons (e_var 4) a_nil)))
  (ss_cons (s_for (i_enumerate E.b_enumerate (a_cons (e_ix hr (e_var 5) e_int) a_nil)) (g_nms (g_r (i := 7) sc_put_in.nd (g_r (i := 8) sc_put_in.nd g_r0)))
  (ss_one (s_set (i := 6) sc_put_in.nd (e_call h_pair_above (hr.mono (by first | decide | omega)) (a_cons (e_var 0) (a_cons (e_op (q_shr hr) p_shr (e_var 3) (e_var 7)) (a_cons (e_var 6) (a_cons (e_var 8) a_nil))))))))
  (ss_one (s_ret (e_var 6)))))))
theorem sc__law_uneven_right : FnScope ["_law_deal_here", "_law_house", "_law_tree", "_law_turn", "_law_depth", "_law_k", "_law_due"] ["_law_deal_here", "_law_house"] (defScope (top 18)) := ⟨rfl, rfl, rfl, by decide +kernel, rfl, by decide +kernel, by decide +kernel⟩
theorem ok__law_uneven_right {f : Addr} {fd : FuncData} (F : Fun K "_law_uneven_right" "_law_uneven_right" (top 18) f fd) (E : Tx K mg κ) (h_put_in : Has P w K mg base "put_in" 4 ["house", "seal", "depth", "k", "word"] (UpF K κ 5 F_put_in)) (h_word_in : Has P w K mg base "word_in" 3 ["house", "seal", "depth", "k"] (UpF K κ 4 F_word_in)) (h_path_in : Has P w K mg base "path_in" 2 ["house", "seal", "depth", "k"] (UpF K κ 4 F_path_in)) (h__law_way : Has P w K mg base "_law_way" 1 ["_law_tree", "_law_depth", "_law_k"] (UpF K κ 3 F__law_way)) (h__law_draw : Has P w K mg base "_law_draw" 1 ["_law_deal_here", "_law_many"] (UpF K κ 2 F__law_draw)) (h_House_pair : HasM P w K mg base (κ "House") "pair" 2 ["self", "one", "other"] (UpF K κ 3 F_House_pair)) (h__law_uneven : Has P w K mg base "_law_uneven" 11 ["_law_deal_here", "_law_house", "_law_far"] (UpF K κ 3 (F__law_uneven 8))) : FnOk P w K mg base CX0 12 f fd ["_law_deal_here", "_law_house"] (UpF K κ 2 F__law_uneven_right) :=
  lift F sc__law_uneven_right rfl rfl fun cdv A outer s H _ hr => (ss_cons (s_set (i := 2) sc__law_uneven_right.nd (e_tup (a_cons e_str (a_cons e_int (a_cons (e_call h__law_uneven (hr.mono (by first | decide | omega)) (a_cons (e_var 0) (a_cons (e_var 1) (a_cons e_int a_nil)))) (a_cons (e_call h__law_uneven (hr.mono (by first | decide | omega)) (a_cons (e_var 0) (a_cons (e_var 1) (a_cons e_int a_nil)))) a_nil))))))
  (ss_cons (s_set (i := 2) sc__law_uneven_right.nd (e_op (q_add hr) p_add (e_tup (a_cons e_str (a_cons (e_meth h_House_pair E.c_House (hr.mono (by first | decide | omega)) (e_var 1) (a_cons (e_ix hr (e_ix hr (e_var 2) e_int) e_int) (a_cons (e_ix hr (e_ix hr (e_var 2) e_int) e_int) a_nil))) a_nil))) (e_sli (e_var 2) (po_some' e_int) po_none')))
  (ss_cons (s_for (i_rng1 E.b_range (a_cons e_int a_nil)) (g_nm (i := 3) sc__law_uneven_right.nd)
  (ss_cons (s_set (i := 4) sc__law_uneven_right.nd (e_call h__law_draw (hr.mono (by first | decide | omega)) (a_cons (e_var 0) (a_cons e_int a_nil))))
  (ss_cons (s_set (i := 5) sc__law_uneven_right.nd (e_call h__law_draw (hr.mono (by first | decide | omega)) (a_cons (e_var 0) (a_cons (e_op (q_shl hr) p_shl e_int (e_var 4)) a_nil))))
  (ss_cons (s_set (i := 6) sc__law_uneven_right.nd (e_call h__law_way (hr.mono (by first | decide | omega)) (a_cons (e_var 2) (a_cons (e_var 4) (a_cons (e_var 5) a_nil)))))
  (ss_cons (s_if (t_w (w_or (t_ne hr (e_call h_path_in (hr.mono (by first | decide | omega)) (a_cons (e_var 1) (a_cons (e_ix hr (e_var 2) e_int) (a_cons (e_var 4) (a_cons (e_var 5) a_nil))))) (e_var 6)) (w_or1 (t_ne hr (e_call h_word_in (hr.mono (by first | decide | omega)) (a_cons (e_var 1) (a_cons (e_ix hr (e_var 2) e_int) (a_cons (e_var 4) (a_cons (e_var 5) a_nil))))) (e_ix hr (e_or (e_var 6) (e_one (e_lst (a_cons e_non a_nil)))) e_int)))))
  (ss_one (s_ret e_bl))
  ss_nil)
  (ss_one (s_if (t_ne hr (e_is (e_call h_put_in (hr.mono (by first | decide | omega)) (a_cons (e_var 1) (a_cons (e_ix hr (e_var 2) e_int) (a_cons (e_var 4) (a_cons (e_var 5) (a_cons e_int a_nil))))))) (e_is (e_var 6)))
  (ss_one (s_ret e_bl))
  ss_nil)))))))
  (ss_one (s_ret e_bl)))))
theorem sc__law_none : FnScope ["_law_house", "_law_seal_here", "_law_depth", "_law_k"] ["_law_house", "_law_seal_here", "_law_depth", "_law_k"] (defScope (top 15)) := ⟨rfl, rfl, rfl, by decide +kernel, rfl, by decide +kernel, by decide +kernel⟩
theorem ok__law_none {f : Addr} {fd : FuncData} (F : Fun K "_law_none" "_law_none" (top 15) f fd) (E : Tx K mg κ) (h_put_in : Has P w K mg base "put_in" 4 ["house", "seal", "depth", "k", "word"] (UpF K κ 5 F_put_in)) (h_path_in : Has P w K mg base "path_in" 2 ["house", "seal", "depth", "k"] (UpF K κ 4 F_path_in)) (h_word_in : Has P w K mg base "word_in" 3 ["house", "seal", "depth", "k"] (UpF K κ 4 F_word_in)) : FnOk P w K mg base CX0 5 f fd ["_law_house", "_law_seal_here", "_law_depth", "_law_k"] (UpF K κ 4 F__law_none) :=
  lift F sc__law_none rfl rfl fun cdv A outer s H _ hr => (ss_cons (s_if (t_w (w_or (t_isn (e_call h_word_in (hr.mono (by first | decide | omega)) (a_cons (e_var 0) (a_cons (e_var 1) (a_cons (e_var 2) (a_cons (e_var 3) a_nil)))))) (w_or1 (t_isn (e_call h_path_in (hr.mono (by first | decide | omega)) (a_cons (e_var 0) (a_cons (e_var 1) (a_cons (e_var 2) (a_cons (e_var 3) a_nil)))))))))
  (ss_one (s_ret e_bl))
  ss_nil)
  (ss_one (s_ret (e_is (e_call h_put_in (hr.mono (by first | decide | omega)) (a_cons (e_var 0) (a_cons (e_var 1) (a_cons (e_var 2) (a_cons (e_var 3) (a_cons e_int a_nil))))))))))
theorem sc_law : FnScope ["_law_script", "_law_deal_here", "_law_house", "_law_depth", "_law_words", "_law_seal_here", "_law_many", "_law_k", "_law_due", "_law_turn", "_law_number", "_law_deep"] ["_law_script"] (defScope (top 19)) := ⟨rfl, rfl, rfl, by decide +kernel, rfl, by decide +kernel, by decide +kernel⟩
theorem ok_law {f : Addr} {fd : FuncData} (F : Fun K "law" "law" (top 19) f fd) (E : Tx K mg κ) (h_word_in : Has P w K mg base "word_in" 3 ["house", "seal", "depth", "k"] (UpF K κ 4 F_word_in)) (h__law_draw : Has P w K mg base "_law_draw" 1 ["_law_deal_here", "_law_many"] (UpF K κ 2 F__law_draw)) (h__law_none : Has P w K mg base "_law_none" 5 ["_law_house", "_law_seal_here", "_law_depth", "_law_k"] (UpF K κ 4 F__law_none)) (h_House_opened : HasM P w K mg base (κ "House") "opened" 1 ["self", "seal"] (UpF K κ 2 F_House_opened)) (h__law_uneven_right : Has P w K mg base "_law_uneven_right" 12 ["_law_deal_here", "_law_house"] (UpF K κ 2 F__law_uneven_right)) (h_House_many : HasM P w K mg base (κ "House") "many" 1 ["self"] (UpF K κ 1 F_House_many)) (h_path_in : Has P w K mg base "path_in" 2 ["house", "seal", "depth", "k"] (UpF K κ 4 F_path_in)) (h__law_siblings : Has P w K mg base "_law_siblings" 12 ["_law_house", "_law_words", "_law_depth", "_law_k"] (UpF K κ 4 F__law_siblings)) (h_seal_of : Has P w K mg base "seal_of" 3 ["house", "words"] (UpF K κ 2 F_seal_of)) (h__law_row : Has P w K mg base "_law_row" 3 ["_law_deal_here", "_law_depth"] (UpF K κ 2 F__law_row)) (h_House_init : HasI P w K mg base (κ "House") 1 ["self"] (UpF K κ 1 F_House_init)) (h__law_deal : Has P w K mg base "_law_deal" 1 ["_law_script", "_law_base"] (UpF K κ 2 F__law_deal)) : FnOk P w K mg base CX0 13 f fd ["_law_script"] (UpF K κ 1 F_law) :=
  lift F sc_law rfl rfl fun cdv A outer s H _ hr => (ss_cons (s_set (i := 1) sc_law.nd (e_call h__law_deal (hr.mono (by first | decide | omega)) (a_cons (e_var 0) (a_cons e_int a_nil))))
  (ss_cons (s_set (i := 2) sc_law.nd (e_make0 h_House_init (hr.mono (by first | decide | omega)) E.g_House))
  (ss_cons (s_if (t_eq hr (e_call h__law_draw (hr.mono (by first | decide | omega)) (a_cons (e_box (e_var 1)) (a_cons e_int a_nil))) e_int)
  (ss_one (s_expr (e_call h_seal_of (hr.mono (by first | decide | omega)) (a_cons (e_var 2) (a_cons (e_call h__law_row (hr.mono (by first | decide | omega)) (a_cons (e_box (e_var 1)) (a_cons (e_call h__law_draw (hr.mono (by first | decide | omega)) (a_cons (e_box (e_var 1)) (a_cons e_int a_nil))) a_nil))) a_nil)))))
  ss_nil)
  (ss_cons (s_set (i := 3) sc_law.nd (e_ix hr (e_lst (a_cons e_int (a_cons e_int (a_cons e_int (a_cons e_int (a_cons e_int (a_cons e_int a_nil))))))) (e_call h__law_draw (hr.mono (by first | decide | omega)) (a_cons (e_box (e_var 1)) (a_cons e_int a_nil)))))
  (ss_cons (s_set (i := 4) sc_law.nd (e_call h__law_row (hr.mono (by first | decide | omega)) (a_cons (e_box (e_var 1)) (a_cons (e_var 3) a_nil))))
  (ss_cons (s_set (i := 5) sc_law.nd (e_call h_seal_of (hr.mono (by first | decide | omega)) (a_cons (e_var 2) (a_cons (e_var 4) a_nil))))
  (ss_cons (s_set (i := 6) sc_law.nd (e_meth0 h_House_many E.c_House (hr.mono (by first | decide | omega)) (e_var 2)))
  (ss_cons (s_for (i_rng1 E.b_range (a_cons (e_op (q_shl hr) p_shl e_int (e_var 3)) a_nil)) (g_nm (i := 7) sc_law.nd)
  (ss_cons (s_set (i := 8) sc_law.nd (e_tup (a_cons (e_ix hr (e_var 4) (e_var 7)) (a_cons (e_call h__law_siblings (hr.mono (by first | decide | omega)) (a_cons (e_var 2) (a_cons (e_var 4) (a_cons (e_var 3) (a_cons (e_var 7) a_nil))))) a_nil))))
  (ss_one (s_if (t_w (w_or (t_ne hr (e_call h_word_in (hr.mono (by first | decide | omega)) (a_cons (e_var 2) (a_cons (e_var 5) (a_cons (e_var 3) (a_cons (e_var 7) a_nil))))) (e_ix hr (e_var 4) (e_var 7))) (w_or1 (t_ne hr (e_call h_path_in (hr.mono (by first | decide | omega)) (a_cons (e_var 2) (a_cons (e_var 5) (a_cons (e_var 3) (a_cons (e_var 7) a_nil))))) (e_var 8)))))
  (ss_one (s_ret e_bl))
  ss_nil))))
  (ss_cons (s_if (t_w (w_or (t_ne hr (e_meth0 h_House_many E.c_House (hr.mono (by first | decide | omega)) (e_var 2)) (e_var 6)) (w_or1 (t_not (t_tru (e_call h__law_uneven_right (hr.mono (by first | decide | omega)) (a_cons (e_box (e_var 1)) (a_cons (e_var 2) a_nil))))))))
  (ss_one (s_ret e_bl))
  ss_nil)
  (ss_cons (s_for (i_rng1 E.b_range (a_cons e_int a_nil)) (g_nm (i := 9) sc_law.nd)
  (ss_cons (s_set (i := 10) sc_law.nd (e_ix hr (e_lst (a_cons e_int (a_cons (e_neg e_int) (a_cons (e_op (q_add hr) p_add (e_op (q_pow hr) p_pow e_int e_int) (e_call h__law_draw (hr.mono (by first | decide | omega)) (a_cons (e_box (e_var 1)) (a_cons (e_op (q_pow hr) p_pow e_int e_int) a_nil)))) (a_cons (e_op (q_sub hr) p_sub e_int (e_call h__law_draw (hr.mono (by first | decide | omega)) (a_cons (e_box (e_var 1)) (a_cons (e_op (q_pow hr) p_pow e_int e_int) a_nil)))) a_nil))))) (e_call h__law_draw (hr.mono (by first | decide | omega)) (a_cons (e_box (e_var 1)) (a_cons e_int a_nil)))))
  (ss_cons (s_set (i := 11) sc_law.nd (e_call h__law_draw (hr.mono (by first | decide | omega)) (a_cons (e_box (e_var 1)) (a_cons e_int a_nil))))
  (ss_cons (s_if (t_w (w_or (t_not (t_tru (e_call h__law_none (hr.mono (by first | decide | omega)) (a_cons (e_var 2) (a_cons (e_var 10) (a_cons (e_var 11) (a_cons (e_call h__law_draw (hr.mono (by first | decide | omega)) (a_cons (e_box (e_var 1)) (a_cons (e_op (q_shl hr) p_shl e_int (e_var 11)) a_nil))) a_nil))))))) (w_or1 (t_isn (e_meth h_House_opened E.c_House (hr.mono (by first | decide | omega)) (e_var 2) (a_cons (e_var 10) a_nil))))))
  (ss_one (s_ret e_bl))
  ss_nil)
  (ss_cons (s_set (i := 11) sc_law.nd (e_min2 hr E.b_min (a_cons e_int (a_cons (e_ix hr (e_lst (a_cons (e_op (q_add hr) p_add (e_var 3) e_int) (a_cons (e_max2 hr E.b_max (a_cons e_int (a_cons (e_op (q_sub hr) p_sub (e_var 3) e_int) a_nil))) (a_cons (e_op (q_add hr) p_add (e_var 3) e_int) a_nil)))) (e_call h__law_draw (hr.mono (by first | decide | omega)) (a_cons (e_box (e_var 1)) (a_cons e_int a_nil)))) a_nil))))
  (ss_one (s_if (t_w (w_and (t_ne hr (e_var 11) (e_var 3)) (w_and1 (t_not (t_tru (e_call h__law_none (hr.mono (by first | decide | omega)) (a_cons (e_var 2) (a_cons (e_var 5) (a_cons (e_var 11) (a_cons (e_call h__law_draw (hr.mono (by first | decide | omega)) (a_cons (e_box (e_var 1)) (a_cons (e_op (q_shl hr) p_shl e_int (e_var 11)) a_nil))) a_nil))))))))))
  (ss_one (s_ret e_bl))
  ss_nil)))))))
  (ss_one (s_ret (e_eq hr (e_call h_word_in (hr.mono (by first | decide | omega)) (a_cons (e_var 2) (a_cons (e_var 5) (a_cons (e_var 3) (a_cons e_int a_nil))))) (e_ix hr (e_var 4) e_int))))))))))))))
end
end Q
set_option maxHeartbeats 4000000
namespace Q
open PySem PySem.Spec PyProof.Rows L2 B
def spLaw (K : PySem.W.Frag) : Sp := fun vs H Q _ => ∃ (a : Addr) (ns : List Int), vs = [.ref a] ∧ Only H ∧ SqL K H a (ns.map V.int) ∧ ns.length ≤ 63 ∧ ∀ H', Q (.bl true) H'
theorem ints_rel {K : PySem.W.Frag} {ι : List Addr} {H : Hp} : ∀ ns : List Int, RpIs K ι H (ns.map V.int) (ns.map I.int)
  | [] => .nil
  | n :: ns => .cons (.int n) (ints_rel ns)
theorem law_sp {P : Program} {w : World} {K : PySem.W.Frag} {mg : Str → Option Value} {base : Heap} {κ : Str → Addr} {f : Addr} {fd : FuncData} (h : FnOk P w K mg base CX0 13 f fd ["_law_script"] (UpF K κ 1 F_law)) : FnOk P w K mg base CX0 13 f fd ["_law_script"] (spLaw K) := by
  refine h.imp fun vs H Q E q => ?_
  obtain ⟨a, ns, rfl, ho, hs, hl, k⟩ := q
  have fr : FrL K H a (ns.map V.int) := by
    rcases hs with (z | ⟨o, z⟩) | z
    · rcases ho a with e | ⟨o, xs, e⟩ <;> (rw [z] at e; cases e)
    · exact .inl ⟨o, z⟩
    · exact .inr (.inr z)
  obtain ⟨G, e⟩ := law_true ns hl
  refine ⟨[], [.im (.fro (ns.map I.int))], [], _, G, rfl, ⟨.cons (.im (.fro fr (ints_rel ns))) .nil, .nil, fun x => ?_⟩, e, fun v ι' H' s st => ?_⟩
  · have : own (List.map some [V.ref a]) (List.map some [Vl.im (.fro (ns.map I.int))]) = [] := by show own1 _ _ ++ [] = []; rw [own1_im]; rfl
    rw [this]; simp
  · have := s.sl
    cases this with
    | cons q _ => cases q with
      | im r => cases r; exact k _
theorem us1 : ∀ (us : List Value), us.length = 1 → ∃ x0, us = [x0]
  | [x0], _ => ⟨x0, rfl⟩
theorem us2 : ∀ (us : List Value), us.length = 2 → ∃ x0 x1, us = [x0, x1]
  | [x0, x1], _ => ⟨x0, x1, rfl⟩
theorem us3 : ∀ (us : List Value), us.length = 3 → ∃ x0 x1 x2, us = [x0, x1, x2]
  | [x0, x1, x2], _ => ⟨x0, x1, x2, rfl⟩
theorem us4 : ∀ (us : List Value), us.length = 4 → ∃ x0 x1 x2 x3, us = [x0, x1, x2, x3]
  | [x0, x1, x2, x3], _ => ⟨x0, x1, x2, x3, rfl⟩
theorem us5 : ∀ (us : List Value), us.length = 5 → ∃ x0 x1 x2 x3 x4, us = [x0, x1, x2, x3, x4]
  | [x0, x1, x2, x3, x4], _ => ⟨x0, x1, x2, x3, x4, rfl⟩
theorem all_mk {l : PySem.W.OpenLaw} {w : World} {K : PySem.W.Frag} {h : Heap} {mg : Str → Option Value} {fa CHouse f1 f2 f3 f4 f5 f6 f7 f8 f9 f10 f11 f12 f13 f14 f15 f16 f17 f18 f19 f20 f21 f22 : Addr} (X : K.In h) (G : h.Ns mainGlobals mg) (hfa : mg "law" = some (.ref fa))
    {od1 an1 od2 an2 od3 an3 od4 an4 od5 an5 od6 an6 od7 an7 od8 an8 od9 an9 od10 an10 od11 an11 od12 an12 od13 an13 od14 an14 od15 an15 od16 an16 od17 an17 od18 an18 od19 an19 od20 an20 od21 an21 od22 an22 : Option Addr} {sl1 sl2 sl3 sl4 sl5 sl6 sl7 sl8 sl9 sl10 sl11 sl12 sl13 sl14 sl15 sl16 sl17 sl18 sl19 sl20 sl21 sl22 : Array (Option Value)} {oc1 kV1 dc1 pm1 cd1 ct1 oc2 kV2 dc2 pm2 cd2 ct2 oc3 kV3 dc3 pm3 cd3 ct3 oc4 kV4 dc4 pm4 cd4 ct4 oc5 kV5 dc5 pm5 cd5 ct5 oc6 kV6 dc6 pm6 cd6 ct6 oc7 kV7 dc7 pm7 cd7 ct7 oc8 kV8 dc8 pm8 cd8 ct8 oc9 kV9 dc9 pm9 cd9 ct9 oc10 kV10 dc10 pm10 cd10 ct10 oc11 kV11 dc11 pm11 cd11 ct11 oc12 kV12 dc12 pm12 cd12 ct12 oc13 kV13 dc13 pm13 cd13 ct13 oc14 kV14 dc14 pm14 cd14 ct14 oc15 kV15 dc15 pm15 cd15 ct15 oc16 kV16 dc16 pm16 cd16 ct16 oc17 kV17 dc17 pm17 cd17 ct17 oc18 kV18 dc18 pm18 cd18 ct18 oc19 kV19 dc19 pm19 cd19 ct19 oc20 kV20 dc20 pm20 cd20 ct20 oc21 kV21 dc21 pm21 cd21 ct21 oc22 kV22 dc22 pm22 cd22 ct22 : Value}
    (aCHouse : PySem.W.nsIn K mainGlobals "House" = some (some (.ref CHouse)))
    (a1 : PySem.W.nsIn K mainGlobals "_law_deal" = some (some (.ref f1)))
    (l1 : K.lookup f1 = some ⟨oc1, od1, .func (PySem.W.fnOf "_law_deal" "_law_deal" (defArgs (top 9)) (defBody (top 9)) (defScope (top 9)) .none kV1 dc1 pm1 an1 cd1 ct1), sl1⟩) (c1 : PySem.W.codeIn K cd1 "_law_deal" = true) (k1 : PySem.W.keepIn K (.ref f1) = true)
    (a2 : PySem.W.findIn K (.ref CHouse) "__init__" = some (some (.ref f2))) (i2 : PySem.W.isFn K (.ref f2) = true)
    (l2 : K.lookup f2 = some ⟨oc2, od2, .func (PySem.W.fnOf "__init__" "House.__init__" (defArgs (inClass (top 7) 0)) (defBody (inClass (top 7) 0)) (defScope (inClass (top 7) 0)) .none kV2 dc2 pm2 an2 cd2 ct2), sl2⟩) (c2 : PySem.W.codeIn K cd2 "House.__init__" = true) (k2 : PySem.W.keepIn K (.ref f2) = true)
    (a3 : PySem.W.nsIn K mainGlobals "_law_draw" = some (some (.ref f3)))
    (l3 : K.lookup f3 = some ⟨oc3, od3, .func (PySem.W.fnOf "_law_draw" "_law_draw" (defArgs (top 10)) (defBody (top 10)) (defScope (top 10)) .none kV3 dc3 pm3 an3 cd3 ct3), sl3⟩) (c3 : PySem.W.codeIn K cd3 "_law_draw" = true) (k3 : PySem.W.keepIn K (.ref f3) = true)
    (a4 : PySem.W.nsIn K mainGlobals "_law_word" = some (some (.ref f4)))
    (l4 : K.lookup f4 = some ⟨oc4, od4, .func (PySem.W.fnOf "_law_word" "_law_word" (defArgs (top 11)) (defBody (top 11)) (defScope (top 11)) .none kV4 dc4 pm4 an4 cd4 ct4), sl4⟩) (c4 : PySem.W.codeIn K cd4 "_law_word" = true) (k4 : PySem.W.keepIn K (.ref f4) = true)
    (a5 : PySem.W.nsIn K mainGlobals "_law_row" = some (some (.ref f5)))
    (l5 : K.lookup f5 = some ⟨oc5, od5, .func (PySem.W.fnOf "_law_row" "_law_row" (defArgs (top 12)) (defBody (top 12)) (defScope (top 12)) .none kV5 dc5 pm5 an5 cd5 ct5), sl5⟩) (c5 : PySem.W.codeIn K cd5 "_law_row" = true) (k5 : PySem.W.keepIn K (.ref f5) = true)
    (a6 : PySem.W.findIn K (.ref CHouse) "seal_for" = some (some (.ref f6))) (i6 : PySem.W.isFn K (.ref f6) = true)
    (l6 : K.lookup f6 = some ⟨oc6, od6, .func (PySem.W.fnOf "seal_for" "House.seal_for" (defArgs (inClass (top 7) 1)) (defBody (inClass (top 7) 1)) (defScope (inClass (top 7) 1)) .none kV6 dc6 pm6 an6 cd6 ct6), sl6⟩) (c6 : PySem.W.codeIn K cd6 "House.seal_for" = true) (k6 : PySem.W.keepIn K (.ref f6) = true)
    (a7 : PySem.W.findIn K (.ref CHouse) "leaf" = some (some (.ref f7))) (i7 : PySem.W.isFn K (.ref f7) = true)
    (l7 : K.lookup f7 = some ⟨oc7, od7, .func (PySem.W.fnOf "leaf" "House.leaf" (defArgs (inClass (top 7) 2)) (defBody (inClass (top 7) 2)) (defScope (inClass (top 7) 2)) .none kV7 dc7 pm7 an7 cd7 ct7), sl7⟩) (c7 : PySem.W.codeIn K cd7 "House.leaf" = true) (k7 : PySem.W.keepIn K (.ref f7) = true)
    (a8 : PySem.W.findIn K (.ref CHouse) "pair" = some (some (.ref f8))) (i8 : PySem.W.isFn K (.ref f8) = true)
    (l8 : K.lookup f8 = some ⟨oc8, od8, .func (PySem.W.fnOf "pair" "House.pair" (defArgs (inClass (top 7) 3)) (defBody (inClass (top 7) 3)) (defScope (inClass (top 7) 3)) .none kV8 dc8 pm8 an8 cd8 ct8), sl8⟩) (c8 : PySem.W.codeIn K cd8 "House.pair" = true) (k8 : PySem.W.keepIn K (.ref f8) = true)
    (a9 : PySem.W.nsIn K mainGlobals "seal_of" = some (some (.ref f9)))
    (l9 : K.lookup f9 = some ⟨oc9, od9, .func (PySem.W.fnOf "seal_of" "seal_of" (defArgs (top 1)) (defBody (top 1)) (defScope (top 1)) .none kV9 dc9 pm9 an9 cd9 ct9), sl9⟩) (c9 : PySem.W.codeIn K cd9 "seal_of" = true) (k9 : PySem.W.keepIn K (.ref f9) = true)
    (a10 : PySem.W.findIn K (.ref CHouse) "many" = some (some (.ref f10))) (i10 : PySem.W.isFn K (.ref f10) = true)
    (l10 : K.lookup f10 = some ⟨oc10, od10, .func (PySem.W.fnOf "many" "House.many" (defArgs (inClass (top 7) 5)) (defBody (inClass (top 7) 5)) (defScope (inClass (top 7) 5)) .none kV10 dc10 pm10 an10 cd10 ct10), sl10⟩) (c10 : PySem.W.codeIn K cd10 "House.many" = true) (k10 : PySem.W.keepIn K (.ref f10) = true)
    (a11 : PySem.W.findIn K (.ref CHouse) "opened" = some (some (.ref f11))) (i11 : PySem.W.isFn K (.ref f11) = true)
    (l11 : K.lookup f11 = some ⟨oc11, od11, .func (PySem.W.fnOf "opened" "House.opened" (defArgs (inClass (top 7) 4)) (defBody (inClass (top 7) 4)) (defScope (inClass (top 7) 4)) .none kV11 dc11 pm11 an11 cd11 ct11), sl11⟩) (c11 : PySem.W.codeIn K cd11 "House.opened" = true) (k11 : PySem.W.keepIn K (.ref f11) = true)
    (a12 : PySem.W.nsIn K mainGlobals "path_in" = some (some (.ref f12)))
    (l12 : K.lookup f12 = some ⟨oc12, od12, .func (PySem.W.fnOf "path_in" "path_in" (defArgs (top 2)) (defBody (top 2)) (defScope (top 2)) .none kV12 dc12 pm12 an12 cd12 ct12), sl12⟩) (c12 : PySem.W.codeIn K cd12 "path_in" = true) (k12 : PySem.W.keepIn K (.ref f12) = true)
    (a13 : PySem.W.nsIn K mainGlobals "word_in" = some (some (.ref f13)))
    (l13 : K.lookup f13 = some ⟨oc13, od13, .func (PySem.W.fnOf "word_in" "word_in" (defArgs (top 3)) (defBody (top 3)) (defScope (top 3)) .none kV13 dc13 pm13 an13 cd13 ct13), sl13⟩) (c13 : PySem.W.codeIn K cd13 "word_in" = true) (k13 : PySem.W.keepIn K (.ref f13) = true)
    (a14 : PySem.W.nsIn K mainGlobals "_law_seal" = some (some (.ref f14)))
    (l14 : K.lookup f14 = some ⟨oc14, od14, .func (PySem.W.fnOf "_law_seal" "_law_seal" (defArgs (top 13)) (defBody (top 13)) (defScope (top 13)) .none kV14 dc14 pm14 an14 cd14 ct14), sl14⟩) (c14 : PySem.W.codeIn K cd14 "_law_seal" = true) (k14 : PySem.W.keepIn K (.ref f14) = true)
    (a15 : PySem.W.nsIn K mainGlobals "_law_siblings" = some (some (.ref f15)))
    (l15 : K.lookup f15 = some ⟨oc15, od15, .func (PySem.W.fnOf "_law_siblings" "_law_siblings" (defArgs (top 14)) (defBody (top 14)) (defScope (top 14)) .none kV15 dc15 pm15 an15 cd15 ct15), sl15⟩) (c15 : PySem.W.codeIn K cd15 "_law_siblings" = true) (k15 : PySem.W.keepIn K (.ref f15) = true)
    (a16 : PySem.W.nsIn K mainGlobals "_law_uneven" = some (some (.ref f16)))
    (l16 : K.lookup f16 = some ⟨oc16, od16, .func (PySem.W.fnOf "_law_uneven" "_law_uneven" (defArgs (top 16)) (defBody (top 16)) (defScope (top 16)) .none kV16 dc16 pm16 an16 cd16 ct16), sl16⟩) (c16 : PySem.W.codeIn K cd16 "_law_uneven" = true) (k16 : PySem.W.keepIn K (.ref f16) = true)
    (a17 : PySem.W.nsIn K mainGlobals "_law_way" = some (some (.ref f17)))
    (l17 : K.lookup f17 = some ⟨oc17, od17, .func (PySem.W.fnOf "_law_way" "_law_way" (defArgs (top 17)) (defBody (top 17)) (defScope (top 17)) .none kV17 dc17 pm17 an17 cd17 ct17), sl17⟩) (c17 : PySem.W.codeIn K cd17 "_law_way" = true) (k17 : PySem.W.keepIn K (.ref f17) = true)
    (a18 : PySem.W.nsIn K mainGlobals "pair_above" = some (some (.ref f18)))
    (l18 : K.lookup f18 = some ⟨oc18, od18, .func (PySem.W.fnOf "pair_above" "pair_above" (defArgs (top 4)) (defBody (top 4)) (defScope (top 4)) .none kV18 dc18 pm18 an18 cd18 ct18), sl18⟩) (c18 : PySem.W.codeIn K cd18 "pair_above" = true) (k18 : PySem.W.keepIn K (.ref f18) = true)
    (a19 : PySem.W.nsIn K mainGlobals "put_in" = some (some (.ref f19)))
    (l19 : K.lookup f19 = some ⟨oc19, od19, .func (PySem.W.fnOf "put_in" "put_in" (defArgs (top 5)) (defBody (top 5)) (defScope (top 5)) .none kV19 dc19 pm19 an19 cd19 ct19), sl19⟩) (c19 : PySem.W.codeIn K cd19 "put_in" = true) (k19 : PySem.W.keepIn K (.ref f19) = true)
    (a20 : PySem.W.nsIn K mainGlobals "_law_uneven_right" = some (some (.ref f20)))
    (l20 : K.lookup f20 = some ⟨oc20, od20, .func (PySem.W.fnOf "_law_uneven_right" "_law_uneven_right" (defArgs (top 18)) (defBody (top 18)) (defScope (top 18)) .none kV20 dc20 pm20 an20 cd20 ct20), sl20⟩) (c20 : PySem.W.codeIn K cd20 "_law_uneven_right" = true) (k20 : PySem.W.keepIn K (.ref f20) = true)
    (a21 : PySem.W.nsIn K mainGlobals "_law_none" = some (some (.ref f21)))
    (l21 : K.lookup f21 = some ⟨oc21, od21, .func (PySem.W.fnOf "_law_none" "_law_none" (defArgs (top 15)) (defBody (top 15)) (defScope (top 15)) .none kV21 dc21 pm21 an21 cd21 ct21), sl21⟩) (c21 : PySem.W.codeIn K cd21 "_law_none" = true) (k21 : PySem.W.keepIn K (.ref f21) = true)
    (a22 : PySem.W.nsIn K mainGlobals "law" = some (some (.ref f22)))
    (l22 : K.lookup f22 = some ⟨oc22, od22, .func (PySem.W.fnOf "law" "law" (defArgs (top 19)) (defBody (top 19)) (defScope (top 19)) .none kV22 dc22 pm22 an22 cd22 ct22), sl22⟩) (c22 : PySem.W.codeIn K cd22 "law" = true) (k22 : PySem.W.keepIn K (.ref f22) = true)
    (pgHouse : PySem.W.plainGet K CHouse Str.empty = true) (hdHouse : PySem.W.hasDictIn K CHouse = true) (poHouse : PySem.W.plainOver K CHouse = true) (saHouse : PySem.W.findIn K (.ref CHouse) "__setattr__" = some (some (.builtin "object.__setattr__"))) (mkHouse : PySem.W.makesIn K CHouse = true) (kcHouse : PySem.W.keepIn K (.ref CHouse) = true)
    (nf0 : PySem.W.findIn K (.ref CHouse) "given" = some none)
    (nf1 : PySem.W.findIn K (.ref CHouse) "seals" = some none)
    (z0 : PySem.W.nsIn K mainGlobals "enumerate" = some none)
    (z1 : PySem.W.nsIn K mainGlobals "len" = some none)
    (z2 : PySem.W.nsIn K mainGlobals "list" = some none)
    (z3 : PySem.W.nsIn K mainGlobals "max" = some none)
    (z4 : PySem.W.nsIn K mainGlobals "min" = some none)
    (z5 : PySem.W.nsIn K mainGlobals "range" = some none)
    (z6 : PySem.W.nsIn K mainGlobals "reversed" = some none)
    (z7 : PySem.W.nsIn K mainGlobals "tuple" = some none)
    (z8 : PySem.W.nsIn K mainGlobals "zip" = some none)
    : ∃ fd : FuncData, (∀ (s : Shared) (v : Value), BindsTo s fd ⟨[v], []⟩ [("_law_script", v)]) ∧ ∀ base : Heap, K.In base → base.Ns mainGlobals mg → FnOk l.prog w K mg base CX0 13 fa fd ["_law_script"] (spLaw K) := by
  have e := hfa.symm.trans (PySem.W.mg_of X G a22)
  cases e
  obtain ⟨κ, hκ⟩ : ∃ κ : Str → Addr, κ "House" = CHouse := ⟨fun c : Str => if c = "House" then CHouse else 0, if_pos rfl⟩
  subst hκ
  have E : Tx K mg κ := ⟨⟨pgHouse, hdHouse, poHouse, saHouse⟩, PySem.W.mg_of X G aCHouse, nf0, nf1, PySem.W.mg_none_of X G z0, PySem.W.mg_none_of X G z1, PySem.W.mg_none_of X G z2, PySem.W.mg_none_of X G z3, PySem.W.mg_none_of X G z4, PySem.W.mg_none_of X G z5, PySem.W.mg_none_of X G z6, PySem.W.mg_none_of X G z7, PySem.W.mg_none_of X G z8⟩
  have F1 := fun_mk (st := (top 9)) l1 c1 k1
  have b1 := F1.binds (ps := ["_law_script", "_law_base"]) fun _ _ _ _ _ _ us hl => by obtain ⟨_, _, rfl⟩ := us2 us hl; rfl
  have F2 := fun_mk (st := (inClass (top 7) 0)) l2 c2 k2
  have b2 := F2.binds (ps := ["self"]) fun _ _ _ _ _ _ us hl => by obtain ⟨_, rfl⟩ := us1 us hl; rfl
  have F3 := fun_mk (st := (top 10)) l3 c3 k3
  have b3 := F3.binds (ps := ["_law_deal_here", "_law_many"]) fun _ _ _ _ _ _ us hl => by obtain ⟨_, _, rfl⟩ := us2 us hl; rfl
  have F4 := fun_mk (st := (top 11)) l4 c4 k4
  have b4 := F4.binds (ps := ["_law_deal_here"]) fun _ _ _ _ _ _ us hl => by obtain ⟨_, rfl⟩ := us1 us hl; rfl
  have F5 := fun_mk (st := (top 12)) l5 c5 k5
  have b5 := F5.binds (ps := ["_law_deal_here", "_law_depth"]) fun _ _ _ _ _ _ us hl => by obtain ⟨_, _, rfl⟩ := us2 us hl; rfl
  have F6 := fun_mk (st := (inClass (top 7) 1)) l6 c6 k6
  have b6 := F6.binds (ps := ["self", "made"]) fun _ _ _ _ _ _ us hl => by obtain ⟨_, _, rfl⟩ := us2 us hl; rfl
  have F7 := fun_mk (st := (inClass (top 7) 2)) l7 c7 k7
  have b7 := F7.binds (ps := ["self", "word"]) fun _ _ _ _ _ _ us hl => by obtain ⟨_, _, rfl⟩ := us2 us hl; rfl
  have F8 := fun_mk (st := (inClass (top 7) 3)) l8 c8 k8
  have b8 := F8.binds (ps := ["self", "one", "other"]) fun _ _ _ _ _ _ us hl => by obtain ⟨_, _, _, rfl⟩ := us3 us hl; rfl
  have F9 := fun_mk (st := (top 1)) l9 c9 k9
  have b9 := F9.binds (ps := ["house", "words"]) fun _ _ _ _ _ _ us hl => by obtain ⟨_, _, rfl⟩ := us2 us hl; rfl
  have F10 := fun_mk (st := (inClass (top 7) 5)) l10 c10 k10
  have b10 := F10.binds (ps := ["self"]) fun _ _ _ _ _ _ us hl => by obtain ⟨_, rfl⟩ := us1 us hl; rfl
  have F11 := fun_mk (st := (inClass (top 7) 4)) l11 c11 k11
  have b11 := F11.binds (ps := ["self", "seal"]) fun _ _ _ _ _ _ us hl => by obtain ⟨_, _, rfl⟩ := us2 us hl; rfl
  have F12 := fun_mk (st := (top 2)) l12 c12 k12
  have b12 := F12.binds (ps := ["house", "seal", "depth", "k"]) fun _ _ _ _ _ _ us hl => by obtain ⟨_, _, _, _, rfl⟩ := us4 us hl; rfl
  have F13 := fun_mk (st := (top 3)) l13 c13 k13
  have b13 := F13.binds (ps := ["house", "seal", "depth", "k"]) fun _ _ _ _ _ _ us hl => by obtain ⟨_, _, _, _, rfl⟩ := us4 us hl; rfl
  have F14 := fun_mk (st := (top 13)) l14 c14 k14
  have b14 := F14.binds (ps := ["_law_house", "_law_words"]) fun _ _ _ _ _ _ us hl => by obtain ⟨_, _, rfl⟩ := us2 us hl; rfl
  have F15 := fun_mk (st := (top 14)) l15 c15 k15
  have b15 := F15.binds (ps := ["_law_house", "_law_words", "_law_depth", "_law_k"]) fun _ _ _ _ _ _ us hl => by obtain ⟨_, _, _, _, rfl⟩ := us4 us hl; rfl
  have F16 := fun_mk (st := (top 16)) l16 c16 k16
  have b16 := F16.binds (ps := ["_law_deal_here", "_law_house", "_law_far"]) fun _ _ _ _ _ _ us hl => by obtain ⟨_, _, _, rfl⟩ := us3 us hl; rfl
  have F17 := fun_mk (st := (top 17)) l17 c17 k17
  have b17 := F17.binds (ps := ["_law_tree", "_law_depth", "_law_k"]) fun _ _ _ _ _ _ us hl => by obtain ⟨_, _, _, rfl⟩ := us3 us hl; rfl
  have F18 := fun_mk (st := (top 4)) l18 c18 k18
  have b18 := F18.binds (ps := ["house", "place", "seal", "sibling"]) fun _ _ _ _ _ _ us hl => by obtain ⟨_, _, _, _, rfl⟩ := us4 us hl; rfl
  have F19 := fun_mk (st := (top 5)) l19 c19 k19
  have b19 := F19.binds (ps := ["house", "seal", "depth", "k", "word"]) fun _ _ _ _ _ _ us hl => by obtain ⟨_, _, _, _, _, rfl⟩ := us5 us hl; rfl
  have F20 := fun_mk (st := (top 18)) l20 c20 k20
  have b20 := F20.binds (ps := ["_law_deal_here", "_law_house"]) fun _ _ _ _ _ _ us hl => by obtain ⟨_, _, rfl⟩ := us2 us hl; rfl
  have F21 := fun_mk (st := (top 15)) l21 c21 k21
  have b21 := F21.binds (ps := ["_law_house", "_law_seal_here", "_law_depth", "_law_k"]) fun _ _ _ _ _ _ us hl => by obtain ⟨_, _, _, _, rfl⟩ := us4 us hl; rfl
  have F22 := fun_mk (st := (top 19)) l22 c22 k22
  have b22 := F22.binds (ps := ["_law_script"]) fun _ _ _ _ _ _ us hl => by obtain ⟨_, rfl⟩ := us1 us hl; rfl
  refine ⟨PySem.W.fnOf "law" "law" (defArgs (top 19)) (defBody (top 19)) (defScope (top 19)) .none kV22 dc22 pm22 an22 cd22 ct22, fun s v => .of_eq rfl, fun base _ _ => ?_⟩
  have h__law_deal : Has l.prog w K mg base "_law_deal" 1 ["_law_script", "_law_base"] (UpF K κ 2 F__law_deal) := ⟨f1, _, PySem.W.mg_of X G a1, k1, b1, ok__law_deal F1 E ⟩
  have h_House_init : HasI l.prog w K mg base (κ "House") 1 ["self"] (UpF K κ 1 F_House_init) := ⟨f2, _, ⟨mkHouse, a2, i2, kcHouse⟩, b2, ok_House_init F2 E ⟩
  have h__law_draw : Has l.prog w K mg base "_law_draw" 1 ["_law_deal_here", "_law_many"] (UpF K κ 2 F__law_draw) := ⟨f3, _, PySem.W.mg_of X G a3, k3, b3, ok__law_draw F3 E ⟩
  have h__law_word : Has l.prog w K mg base "_law_word" 2 ["_law_deal_here"] (UpF K κ 1 F__law_word) := ⟨f4, _, PySem.W.mg_of X G a4, k4, b4, ok__law_word F4 E h__law_draw⟩
  have h__law_row : Has l.prog w K mg base "_law_row" 3 ["_law_deal_here", "_law_depth"] (UpF K κ 2 F__law_row) := ⟨f5, _, PySem.W.mg_of X G a5, k5, b5, ok__law_row F5 E h__law_draw h__law_word⟩
  have h_House_seal_for : HasM l.prog w K mg base (κ "House") "seal_for" 1 ["self", "made"] (UpF K κ 2 F_House_seal_for) := ⟨f6, _, ⟨a6, i6, k6⟩, b6, ok_House_seal_for F6 E ⟩
  have h_House_leaf : HasM l.prog w K mg base (κ "House") "leaf" 2 ["self", "word"] (UpF K κ 2 F_House_leaf) := ⟨f7, _, ⟨a7, i7, k7⟩, b7, ok_House_leaf F7 E h_House_seal_for⟩
  have h_House_pair : HasM l.prog w K mg base (κ "House") "pair" 2 ["self", "one", "other"] (UpF K κ 3 F_House_pair) := ⟨f8, _, ⟨a8, i8, k8⟩, b8, ok_House_pair F8 E h_House_seal_for⟩
  have h_seal_of : Has l.prog w K mg base "seal_of" 3 ["house", "words"] (UpF K κ 2 F_seal_of) := ⟨f9, _, PySem.W.mg_of X G a9, k9, b9, ok_seal_of F9 E h_House_pair h_House_leaf⟩
  have h_House_many : HasM l.prog w K mg base (κ "House") "many" 1 ["self"] (UpF K κ 1 F_House_many) := ⟨f10, _, ⟨a10, i10, k10⟩, b10, ok_House_many F10 E ⟩
  have h_House_opened : HasM l.prog w K mg base (κ "House") "opened" 1 ["self", "seal"] (UpF K κ 2 F_House_opened) := ⟨f11, _, ⟨a11, i11, k11⟩, b11, ok_House_opened F11 E ⟩
  have h_path_in : Has l.prog w K mg base "path_in" 2 ["house", "seal", "depth", "k"] (UpF K κ 4 F_path_in) := ⟨f12, _, PySem.W.mg_of X G a12, k12, b12, ok_path_in F12 E h_House_opened⟩
  have h_word_in : Has l.prog w K mg base "word_in" 3 ["house", "seal", "depth", "k"] (UpF K κ 4 F_word_in) := ⟨f13, _, PySem.W.mg_of X G a13, k13, b13, ok_word_in F13 E h_path_in⟩
  have r__law_seal : ∀ n : Nat, FnOk l.prog w K mg base CX0 (3 + n) f14 _ ["_law_house", "_law_words"] (UpF K κ 2 (F__law_seal n)) := fun n => by
    induction n with
    | zero => unfold F__law_seal; exact none_ok
    | succ n ih => exact ok__law_seal F14 E h_House_pair ⟨f14, _, PySem.W.mg_of X G a14, k14, b14, ih⟩ h_House_leaf
  have h__law_seal : Has l.prog w K mg base "_law_seal" 11 ["_law_house", "_law_words"] (UpF K κ 2 (F__law_seal 8)) := ⟨f14, _, PySem.W.mg_of X G a14, k14, b14, r__law_seal 8⟩
  have h__law_siblings : Has l.prog w K mg base "_law_siblings" 12 ["_law_house", "_law_words", "_law_depth", "_law_k"] (UpF K κ 4 F__law_siblings) := ⟨f15, _, PySem.W.mg_of X G a15, k15, b15, ok__law_siblings F15 E h__law_seal⟩
  have r__law_uneven : ∀ n : Nat, FnOk l.prog w K mg base CX0 (3 + n) f16 _ ["_law_deal_here", "_law_house", "_law_far"] (UpF K κ 3 (F__law_uneven n)) := fun n => by
    induction n with
    | zero => unfold F__law_uneven; exact none_ok
    | succ n ih => exact ok__law_uneven F16 E h_House_pair ⟨f16, _, PySem.W.mg_of X G a16, k16, b16, ih⟩ h__law_draw h_House_leaf h__law_word
  have h__law_uneven : Has l.prog w K mg base "_law_uneven" 11 ["_law_deal_here", "_law_house", "_law_far"] (UpF K κ 3 (F__law_uneven 8)) := ⟨f16, _, PySem.W.mg_of X G a16, k16, b16, r__law_uneven 8⟩
  have h__law_way : Has l.prog w K mg base "_law_way" 1 ["_law_tree", "_law_depth", "_law_k"] (UpF K κ 3 F__law_way) := ⟨f17, _, PySem.W.mg_of X G a17, k17, b17, ok__law_way F17 E ⟩
  have h_pair_above : Has l.prog w K mg base "pair_above" 3 ["house", "place", "seal", "sibling"] (UpF K κ 4 F_pair_above) := ⟨f18, _, PySem.W.mg_of X G a18, k18, b18, ok_pair_above F18 E h_House_pair⟩
  have h_put_in : Has l.prog w K mg base "put_in" 4 ["house", "seal", "depth", "k", "word"] (UpF K κ 5 F_put_in) := ⟨f19, _, PySem.W.mg_of X G a19, k19, b19, ok_put_in F19 E h_pair_above h_House_leaf h_path_in⟩
  have h__law_uneven_right : Has l.prog w K mg base "_law_uneven_right" 12 ["_law_deal_here", "_law_house"] (UpF K κ 2 F__law_uneven_right) := ⟨f20, _, PySem.W.mg_of X G a20, k20, b20, ok__law_uneven_right F20 E h_put_in h_word_in h_path_in h__law_way h__law_draw h_House_pair h__law_uneven⟩
  have h__law_none : Has l.prog w K mg base "_law_none" 5 ["_law_house", "_law_seal_here", "_law_depth", "_law_k"] (UpF K κ 4 F__law_none) := ⟨f21, _, PySem.W.mg_of X G a21, k21, b21, ok__law_none F21 E h_put_in h_path_in h_word_in⟩
  exact law_sp (κ := κ) (ok_law F22 E h_word_in h__law_draw h__law_none h_House_opened h__law_uneven_right h_House_many h_path_in h__law_siblings h_seal_of h__law_row h_House_init h__law_deal)
theorem walk {l : PySem.W.OpenLaw} {q : Program} {loose : List Str} {XP : (Str → Option Value) → Heap → Prop} {YP : World → Heap → Prop} {d : DefRec} {K : Params → PySem.W.Frag} (hn : l.most = some 63) (hdf : d.params.defaults = [])
    (hY : ∀ (w : World) (h : Heap), YP w h → (K w.params).In h)
    (F : ∀ (w : World) (mg : Str → Option Value) (fa : Addr) (h : Heap), (K w.params).In h → h.Ns mainGlobals mg → mg d.name = some (.ref fa) →
      ∃ fd : FuncData, (∀ (s : Shared) (u : Value), BindsTo s fd ⟨[u], []⟩ [("_law_script", u)]) ∧ ∀ base : Heap, (K w.params).In base → base.Ns mainGlobals mg → FnOk l.prog w (K w.params) mg base CX0 13 fa fd ["_law_script"] (spLaw (K w.params))) :
    PySem.W.WalkO q loose XP YP l.row.toRowW d [] (fun f vs => PySem.call f vs) :=
  L2.walk_of (n := 63) (k := 13) (x := "_law_script") (CX := fun _ => CX0) (sp := fun w => spLaw (K w.params)) hn (by decide) hdf ⟨rfl, by decide, by decide⟩ hY F (fun _ _ a ns hl ho hS => ⟨a, ns, rfl, ho, hS, hl, fun _ => rfl⟩) fun _ _ _ _ _ z => z
end Q
open PySem PySem.W PyProof.Rows
set_option maxRecDepth 100000 in
set_option maxHeartbeats 0 in
theorem PySem.Challenge.cw_stepcourt_k23_opened_by_paths_holds : PySem.Challenge.rw_stepcourt_k23_opened_by_paths.Holds := by
  w_on; o_law; k_head; (case hw => w_witness2)
  k_fill
  refine Q.walk (l := PySem.Challenge.rw_stepcourt_k23_opened_by_paths) rfl rfl (fun w h Y => PySem.W.kIn_of Y) ?F
  case F =>
    intro w mg fa h KX G hmg
    refine' Q.all_mk KX G hmg ?aCHouse ?a1 ?l1 ?c1 ?k1 ?a2 ?i2 ?l2 ?c2 ?k2 ?a3 ?l3 ?c3 ?k3 ?a4 ?l4 ?c4 ?k4 ?a5 ?l5 ?c5 ?k5 ?a6 ?i6 ?l6 ?c6 ?k6 ?a7 ?i7 ?l7 ?c7 ?k7 ?a8 ?i8 ?l8 ?c8 ?k8 ?a9 ?l9 ?c9 ?k9 ?a10 ?i10 ?l10 ?c10 ?k10 ?a11 ?i11 ?l11 ?c11 ?k11 ?a12 ?l12 ?c12 ?k12 ?a13 ?l13 ?c13 ?k13 ?a14 ?l14 ?c14 ?k14 ?a15 ?l15 ?c15 ?k15 ?a16 ?l16 ?c16 ?k16 ?a17 ?l17 ?c17 ?k17 ?a18 ?l18 ?c18 ?k18 ?a19 ?l19 ?c19 ?k19 ?a20 ?l20 ?c20 ?k20 ?a21 ?l21 ?c21 ?k21 ?a22 ?l22 ?c22 ?k22 ?pgHouse ?hdHouse ?poHouse ?saHouse ?mkHouse ?kcHouse ?nf0 ?nf1 ?z0 ?z1 ?z2 ?z3 ?z4 ?z5 ?z6 ?z7 ?z8
    (case aCHouse => k_is)
    (case a1 => k_is)
    (case l1 => k_is)
    (case c1 => k_is)
    (case k1 => k_is)
    (case a2 => k_is)
    (case i2 => k_is)
    (case l2 => k_is)
    (case c2 => k_is)
    (case k2 => k_is)
    (case a3 => k_is)
    (case l3 => k_is)
    (case c3 => k_is)
    (case k3 => k_is)
    (case a4 => k_is)
    (case l4 => k_is)
    (case c4 => k_is)
    (case k4 => k_is)
    (case a5 => k_is)
    (case l5 => k_is)
    (case c5 => k_is)
    (case k5 => k_is)
    (case a6 => k_is)
    (case i6 => k_is)
    (case l6 => k_is)
    (case c6 => k_is)
    (case k6 => k_is)
    (case a7 => k_is)
    (case i7 => k_is)
    (case l7 => k_is)
    (case c7 => k_is)
    (case k7 => k_is)
    (case a8 => k_is)
    (case i8 => k_is)
    (case l8 => k_is)
    (case c8 => k_is)
    (case k8 => k_is)
    (case a9 => k_is)
    (case l9 => k_is)
    (case c9 => k_is)
    (case k9 => k_is)
    (case a10 => k_is)
    (case i10 => k_is)
    (case l10 => k_is)
    (case c10 => k_is)
    (case k10 => k_is)
    (case a11 => k_is)
    (case i11 => k_is)
    (case l11 => k_is)
    (case c11 => k_is)
    (case k11 => k_is)
    (case a12 => k_is)
    (case l12 => k_is)
    (case c12 => k_is)
    (case k12 => k_is)
    (case a13 => k_is)
    (case l13 => k_is)
    (case c13 => k_is)
    (case k13 => k_is)
    (case a14 => k_is)
    (case l14 => k_is)
    (case c14 => k_is)
    (case k14 => k_is)
    (case a15 => k_is)
    (case l15 => k_is)
    (case c15 => k_is)
    (case k15 => k_is)
    (case a16 => k_is)
    (case l16 => k_is)
    (case c16 => k_is)
    (case k16 => k_is)
    (case a17 => k_is)
    (case l17 => k_is)
    (case c17 => k_is)
    (case k17 => k_is)
    (case a18 => k_is)
    (case l18 => k_is)
    (case c18 => k_is)
    (case k18 => k_is)
    (case a19 => k_is)
    (case l19 => k_is)
    (case c19 => k_is)
    (case k19 => k_is)
    (case a20 => k_is)
    (case l20 => k_is)
    (case c20 => k_is)
    (case k20 => k_is)
    (case a21 => k_is)
    (case l21 => k_is)
    (case c21 => k_is)
    (case k21 => k_is)
    (case a22 => k_is)
    (case l22 => k_is)
    (case c22 => k_is)
    (case k22 => k_is)
    (case pgHouse => k_is)
    (case hdHouse => k_is)
    (case poHouse => k_is)
    (case saHouse => k_is)
    (case mkHouse => k_is)
    (case kcHouse => k_is)
    (case nf0 => k_is)
    (case nf1 => k_is)
    (case z0 => k_is)
    (case z1 => k_is)
    (case z2 => k_is)
    (case z3 => k_is)
    (case z4 => k_is)
    (case z5 => k_is)
    (case z6 => k_is)
    (case z7 => k_is)
    (case z8 => k_is)
