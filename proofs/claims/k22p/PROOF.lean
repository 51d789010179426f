import PyProof.Rows.All
import Wide.All
import OpenK.AllK
import Wide.FinOn
import Lean
import PyProof.EqAt
import PyProof.EqKinds
import PyProof.TupleCall
import PyProof.CompFree
import PyProof.NeKinds
import PyProof.Rows.RegReprOcc
import PyProof.Rows.StrCase
import PyProof.ZipIter
import PyProof.EnumMake
import PyProof.Draws
import PyProof.Rows.Range3
import KE.BitLaws
import KE.KDictOf
import PyProof.AttrMissSeq
import PyProof.DictUpdate
import PyProof.Rows.Tup
import PyProof.ReprRoads
import PySem.Challenge.RW_stepcourt_k22_seals_of_trees
set_option Elab.async false
set_option bootstrap.genMatcherCode false
set_option genSizeOf false
set_option compiler.extract_closed false
set_option genSizeOfSpec false
set_option linter.all false
set_option maxRecDepth 100000
namespace L2
open PySem PySem.Spec PyProof.Rows
/-- a key: an int or a str -/
noncomputable abbrev Key := Sum Int Str
noncomputable def keyIs : Key → Value → Bool
  | .inl k, v => Value.isInt k v
  | .inr x, v => Value.isStrOf x v
noncomputable def keyH (w : World) : Key → Int
  | .inl k => hashInt k
  | .inr x => hashStr w x
theorem keyIs_shape : ∀ {k : Key} {v : Value}, keyIs k v = true → (∃ i t, k = Sum.inl i ∧ v = Value.int i t) ∨ (∃ x t, k = Sum.inr x ∧ v = Value.str x t)
  | .inl i, v, h => by
    obtain ⟨t, e⟩ := Value.isInt_shape (k := i) (v := v) h
    exact .inl ⟨i, t, rfl, e⟩
  | .inr x, v, h => by
    obtain ⟨t, e⟩ := Value.isStrOf_shape (x := x) (v := v) h
    exact .inr ⟨x, t, rfl, e⟩
theorem keyIs_int (i : Int) (t : Tok) : keyIs (.inl i) (.int i t) = true := by simp [keyIs, Value.isInt]
theorem keyIs_str (x : Str) (t : Tok) : keyIs (.inr x) (.str x t) = true := by simp [keyIs, Value.isStrOf]
theorem key_ll (a b : Int) : decide ((Sum.inl a : Key) = Sum.inl b) = (a == b) := by
  by_cases e : a = b
  · subst e; simp
  · have h : ¬ (Sum.inl a : Key) = Sum.inl b := fun q => e (Sum.inl.inj q)
    rw [decide_eq_false h]
    exact (beq_eq_false_iff_ne.mpr e).symm
theorem key_rr (a b : Str) : decide ((Sum.inr a : Key) = Sum.inr b) = decide (a = b) := by
  by_cases e : a = b
  · subst e; simp
  · have h : ¬ (Sum.inr a : Key) = Sum.inr b := fun q => e (Sum.inr.inj q)
    rw [decide_eq_false h, decide_eq_false e]
theorem key_lr (a : Int) (b : Str) : decide ((Sum.inl a : Key) = Sum.inr b) = false := decide_eq_false (fun q => nomatch q)
theorem key_rl (a : Str) (b : Int) : decide ((Sum.inr a : Key) = Sum.inl b) = false := decide_eq_false (fun q => nomatch q)
noncomputable def mixKind (prog : Program) (w : World) : PySem.KeyKind prog w Key where
  is := keyIs
  hash := keyH w
  inj := fun v a b ha hb => by
    rcases keyIs_shape ha with ⟨i, t, rfl, rfl⟩ | ⟨x, t, rfl, rfl⟩
    · rcases keyIs_shape hb with ⟨j, u, rfl, e⟩ | ⟨y, u, rfl, e⟩
      · injection e with e1 _; rw [e1]
      · exact nomatch e
    · rcases keyIs_shape hb with ⟨j, u, rfl, e⟩ | ⟨y, u, rfl, e⟩
      · exact nomatch e
      · injection e with e1 _; rw [e1]
  byValue := fun k v h => by
    rcases keyIs_shape h with ⟨i, t, rfl, rfl⟩ | ⟨x, t, rfl, rfl⟩ <;> rfl
  pyHash := fun hv h => by
    rcases keyIs_shape hv with ⟨i, t, rfl, rfl⟩ | ⟨x, t, rfl, rfl⟩
    · exact wpAny_pyHash_int h
    · exact wpAny_pyHash_str h
  eqBool := fun hu hv h => by
    rcases keyIs_shape hu with ⟨i, t, rfl, rfl⟩ | ⟨x, t, rfl, rfl⟩
    · rcases keyIs_shape hv with ⟨j, u, rfl, rfl⟩ | ⟨y, u, rfl, rfl⟩
      · rw [key_ll] at h; exact wpAny_eqBool_int h
      · rw [key_lr] at h; exact SeqAt.EqAt.int_str i t y u _ _ _ _ h
    · rcases keyIs_shape hv with ⟨j, u, rfl, rfl⟩ | ⟨y, u, rfl, rfl⟩
      · rw [key_rl] at h; exact SeqAt.EqAt.str_int x t j u _ _ _ _ h
      · rw [key_rr] at h; exact wpAny_eqBool_str h
  «strs» := fun k x t v h => by
    rcases keyIs_shape h with ⟨i, u, rfl, e⟩ | ⟨y, u, rfl, e⟩
    · exact nomatch e
    · injection e with e1 _
      subst e1
      cases v <;> rfl
theorem mixKind_int (prog : Program) (w : World) (i : Int) (t : Tok) : (mixKind prog w).is (.inl i) (.int i t) = true := keyIs_int i t
theorem mixKind_str (prog : Program) (w : World) (x : Str) (t : Tok) : (mixKind prog w).is (.inr x) (.str x t) = true := keyIs_str x t
inductive Tr where
  | lf (w : Int) | pr (l r : Tr)
deriving DecidableEq
noncomputable def Tr.dep : Tr → Nat
  | .lf _ => 0
  | .pr l r => max l.dep r.dep + 1
section
variable {P : Program} {w : World}
noncomputable def IsTr (P : Program) (w : World) (h : Heap) : Tr → Addr → Prop
  | .lf i, a => IsTupleKey (mixKind P w) h [.inr "leaf", .inl i] a
  | .pr l r, a => ∃ o n t b c, h.get? a = some o ∧ o.cls = .type "tuple" ∧ o.data = .seq #[.str "pair" t, .ref b, .ref c] n ∧ IsTr P w h l b ∧ IsTr P w h r c
noncomputable def hashTr (P : Program) (w : World) : Tr → Int
  | .lf i => tupleKeyHash (mixKind P w) [.inr "leaf", .inl i]
  | .pr l r => reduceHash (Builtin.Tuple.tupleHashOf [keyH w (.inr "pair"), hashTr P w l, hashTr P w r])
noncomputable def drTr : Tr → Nat
  | .lf _ => 3
  | .pr l r => 2 + drTr l + drTr r
theorem IsTr.typeIs {s : Shared} {t : Tr} {a : Addr} (x : IsTr P w s.heap t a) : s.TypeIs (.ref a) "tuple" := by
  cases t with
  | lf i => exact IsTupleKey.typeIs x
  | pr l r => obtain ⟨o, _, _, _, _, ho, hc, _⟩ := x; exact ⟨o, ho, hc⟩
theorem IsTr.inj {h : Heap} : ∀ {x y : Tr} {a : Addr}, IsTr P w h x a → IsTr P w h y a → x = y
  | .lf i, .lf j, a, hx, hy => by
    have := IsTupleKey.inj hx hy
    simp at this; rw [this]
  | .lf i, .pr l r, a, hx, hy => by
    exfalso
    obtain ⟨o, items, n, ho, _, hd, hi⟩ := hx
    obtain ⟨o', n', t, b, c, ho', _, hd', _⟩ := hy
    obtain rfl : o = o' := Option.some.inj (ho.symm.trans ho')
    rw [hd] at hd'; injection hd' with h1 _; subst h1
    have := hi.length; simp at this
  | .pr l r, .lf i, a, hy, hx => by
    exfalso
    obtain ⟨o, items, n, ho, _, hd, hi⟩ := hx
    obtain ⟨o', n', t, b, c, ho', _, hd', _⟩ := hy
    obtain rfl : o = o' := Option.some.inj (ho.symm.trans ho')
    rw [hd] at hd'; injection hd' with h1 _; subst h1
    have := hi.length; simp at this
  | .pr l r, .pr l' r', a, hx, hy => by
    obtain ⟨o, n, t, b, c, ho, _, hd, h1, h2⟩ := hx
    obtain ⟨o', n', t', b', c', ho', _, hd', h1', h2'⟩ := hy
    obtain rfl : o = o' := Option.some.inj (ho.symm.trans ho')
    rw [hd] at hd'; injection hd' with e _
    simp at e
    obtain ⟨_, rfl, rfl⟩ := e
    rw [h1.inj h1', h2.inj h2']
theorem IsTr.keeps {h h' : Heap} {d : Addr} {o : Obj} {es ep} (ho : h.get? d = some o) (hd : o.data = .dict es ep) (hs : Heap.SameBut d h h') : ∀ {t : Tr} {a : Addr}, IsTr P w h t a → IsTr P w h' t a
  | .lf i, a, x => IsTupleKey.keeps x ho hd hs
  | .pr l r, a, ⟨o', n, t, b, c, ho', hc, hd', h1, h2⟩ => by
    have hne : a ≠ d := by
      rintro rfl
      obtain rfl : o' = o := Option.some.inj (ho'.symm.trans ho)
      rw [hd] at hd'; exact nomatch hd'
    exact ⟨o', n, t, b, c, (hs.2 a hne).trans ho', hc, hd', h1.keeps ho hd hs, h2.keeps ho hd hs⟩
variable {A : Around} {E : Value → Shared → Prop}
theorem tr_hash : ∀ {t : Tr} {A : Around} {s : Shared} {a : Addr} {Q : Int → Shared → Prop}, A.units + t.dep < cLine → IsTr P w s.heap t a → Q (hashTr P w t) { s with toks := s.toks + drTr t } →
    wpAny (model P w) A (pyHash (.ref a)) Q E s
  | .lf i, A, s, a, Q, hu, hk, h => wpAny_pyHash_tuple (by simpa [Tr.dep] using hu) hk h
  | .pr l r, A, s, a, Q, hu, hk, h => by
    have hl : A.in1.units + l.dep < cLine := by simp only [Tr.dep] at hu; show A.units + 1 + l.dep < cLine; lia
    have hr : A.in1.units + r.dep < cLine := by simp only [Tr.dep] at hu; show A.units + 1 + r.dep < cLine; lia
    have hu : A.units < cLine := by lia
    have hT := hk.typeIs
    obtain ⟨o, n, t, b, c, ho, _, hd, h1, h2⟩ := hk
    have lk := F.slot_tuple_hash.lookup
    have able : ¬ (some (Value.builtin "tuple.__hash__") == some Value.none) = true := by rw [beq_builtin_none]; exact Bool.false_ne_true
    unfold pyHash pyHashByItsType
    refine wpAny_bind (wpAny_cRoomFor_or (.inr hu) (wpAny_bind (wpAny_specialOf hT lk ?_)))
    rw [if_neg able]
    refine wpAny_bind (wpAny_specialOf hT lk (wpAny_bind (wpAny_callSpecialIfBoundUnlessNone?_slot hT F.slot_tuple_hash (wpAny_call_entry F.slot_tuple_hash hT F.entry_tuple_hash ?_ (F.args_tuple_hash_1 _)))))
    refine wpAny_bind (m := Builtin.Tuple.tupleItemsOf (.ref a)) (wpAny_tupleItemsOf ho hd (wpAny_bind ?_))
    rw [← Array.forIn_toList]
    refine wpAny_forIn_list _
      (fun rest (bs : Array Int) s' => (rest = [.str "pair" t, .ref b, .ref c] ∧ bs.toList = [] ∧ s' = s) ∨
        (rest = [.ref b, .ref c] ∧ bs.toList = [keyH w (.inr "pair")] ∧ s' = { s with toks := s.toks + 1 }) ∨
        (rest = [.ref c] ∧ bs.toList = [keyH w (.inr "pair"), hashTr P w l] ∧ s' = { s with toks := s.toks + (1 + drTr l) }) ∨
        (rest = [] ∧ bs.toList = [keyH w (.inr "pair"), hashTr P w l, hashTr P w r] ∧ s' = { s with toks := s.toks + (1 + drTr l + drTr r) }))
      _ ?_ ?_ _ _ (.inl ⟨rfl, rfl, rfl⟩)
    · rintro x rest bs s' (⟨e, hb, rfl⟩ | ⟨e, hb, rfl⟩ | ⟨e, hb, rfl⟩ | ⟨e, _⟩)
      · cases e
        refine wpAny_bind ((mixKind P w).pyHash (k := .inr "pair") (mixKind_str P w _ t) ?_)
        first
          | exact wpAny_pure (.inr (.inl ⟨rfl, by simp [hb]; rfl, rfl⟩))
          | exact wpAny_bind (wpAny_pure (wpAny_pure (.inr (.inl ⟨rfl, by simp [hb]; rfl, rfl⟩))))
      · cases e
        refine wpAny_bind (tr_hash hl h1 ?_)
        first
          | exact wpAny_pure (.inr (.inr (.inl ⟨rfl, by simp [hb], by simp [Nat.add_assoc]⟩)))
          | exact wpAny_bind (wpAny_pure (wpAny_pure (.inr (.inr (.inl ⟨rfl, by simp [hb], by simp [Nat.add_assoc]⟩)))))
      · cases e
        refine wpAny_bind (tr_hash hr h2 ?_)
        first
          | exact wpAny_pure (.inr (.inr (.inr ⟨rfl, by simp [hb], by simp [Nat.add_assoc]⟩)))
          | exact wpAny_bind (wpAny_pure (wpAny_pure (.inr (.inr (.inr ⟨rfl, by simp [hb], by simp [Nat.add_assoc]⟩)))))
      · cases e
    · rintro bs s' (⟨e, _⟩ | ⟨e, _⟩ | ⟨e, _⟩ | ⟨_, hb, rfl⟩)
      · cases e
      · cases e
      · cases e
      have ed : s.toks + (1 + drTr l + drTr r) + 1 = s.toks + drTr (.pr l r) := by simp only [drTr]; lia
      rw [← ed] at h
      show wpAny _ _ (retInt (Builtin.Tuple.tupleHashOf bs.toList)) _ _ _
      rw [hb]
      refine wpAny_ret_mkInt ?_
      unfold hashTr reduceHash at h
      generalize Builtin.Tuple.tupleHashOf [keyH w (.inr "pair"), hashTr P w l, hashTr P w r] = z at h ⊢
      show wpAny _ _ (if (decide (-(2 : Int) ^ 63 ≤ z) && decide (z < 2 ^ 63)) = true then _ else _) Q E _
      by_cases hr : (decide (-(2 : Int) ^ 63 ≤ z) && decide (z < 2 ^ 63)) = true
      · rw [if_pos hr]
        rw [if_pos hr] at h
        exact wpAny_pure h
      · rw [if_neg hr]
        rw [if_neg hr] at h
        exact wpAny_bind (wpAny_rule (wpAny_pure h))
/-- two values are compared, with the answer d -/
noncomputable def EqB (P : Program) (w : World) (A : Around) (E : Value → Shared → Prop) (s : Shared) (u v : Value) (d : Bool) : Prop := ∀ Q : Bool → Shared → Prop, Q d s → wpAny (model P w) A (eqBool u v) Q E s
inductive ZE (P : Program) (w : World) (A : Around) (E : Value → Shared → Prop) (s : Shared) : List (Value × Value) → Bool → Prop
  | nil : ZE P w A E s [] true
  | ne {u v : Value} {r} : EqB P w A E s u v false → ZE P w A E s ((u, v) :: r) false
  | eq {u v : Value} {r} {d : Bool} : EqB P w A E s u v true → ZE P w A E s r d → ZE P w A E s ((u, v) :: r) d
theorem tup_eq_ze {s : Shared} {a b : Addr} {oa ob : Obj} {xs ys : Array Value} {na nb} {d : Bool} {F : Fin → Shared → Prop} (hoa : s.heap.get? a = some oa) (hda : oa.data = .seq xs na) (hob : s.heap.get? b = some ob) (hcb : ob.cls = .type "tuple") (hdb : ob.data = .seq ys nb)
    (z : ZE P w A E s (List.zip xs.toList ys.toList) d) (h : F (.done (.ret (.bool (d && (xs.size == ys.size))))) s) : wpAny (model P w) A (Builtin.«tuple.__eq__» ⟨[.ref a, .ref b], []⟩) F E s := by
  show wpAny _ _ (isInstance (.ref b) (.type "tuple") >>= _) _ _ s
  refine wpAny_bind (wpAny_isInstance ⟨ob, hob, hcb⟩ isSubtype_tuple_tuple ?_)
  simp only [Bool.not_true, Bool.false_eq_true, if_false]
  refine wpAny_bind (wpAny_tupleItemsOf hoa hda ?_)
  refine wpAny_bind (wpAny_tupleItemsOf hob hdb ?_)
  refine wpAny_bind ?_
  refine wpAny_forIn_list _ (fun rest r s' => r.1 = none ∧ s' = s ∧ ZE P w A E s rest d) _ ?_ ?_ _ _ ⟨rfl, rfl, z⟩
  · rintro ⟨u, v⟩ rest r s' ⟨hr, rfl, hz⟩
    cases hz with
    | ne he =>
      refine wpAny_bind (he _ ?_)
      simp only [Bool.not_false, if_true]
      rw [Bool.false_and] at h
      exact wpAny_bind (wpAny_pure (wpAny_pure (wpAny_pure h)))
    | eq he hz =>
      refine wpAny_bind (he _ ?_)
      simp only [Bool.not_true, Bool.false_eq_true, if_false]
      exact wpAny_pure ⟨rfl, rfl, hz⟩
  · rintro ⟨r1, r2⟩ s' ⟨hr, rfl, hz⟩
    simp only at hr
    subst hr
    refine wpAny_pure ?_
    cases hz
    rw [Bool.true_and] at h
    exact h
theorem tr_eq : ∀ {x y : Tr} {A : Around} {s : Shared} {a b : Addr} {Q : Bool → Shared → Prop}, A.units + x.dep < cLine → IsTr P w s.heap x a → IsTr P w s.heap y b → Q (decide (x = y)) s →
    wpAny (model P w) A (eqBool (.ref a) (.ref b)) Q E s := by
  intro x
  induction x with
  | lf i =>
    intro y A s a b Q hu hx hy h
    have hu : A.units < cLine := by lia
    cases y with
    | lf j => exact wpAny_eqBool_tuple hu hx hy (by simpa using h)
    | pr l r =>
      have hTa := hx.typeIs; have hTb := hy.typeIs
      have hinj := hx.inj (y := .pr l r)
      obtain ⟨oa, xs, na, hoa, _, hda, hia⟩ := hx
      obtain ⟨ob, nb, t, b', c', hob, hcb, hdb, _⟩ := hy
      by_cases hab : (Value.ref a == Value.ref b) = true
      · exfalso
        have e : a = b := by have := eq_of_beq hab; injection this
        subst e
        obtain rfl : oa = ob := Option.some.inj (hoa.symm.trans hob)
        rw [hda] at hdb; injection hdb with h1 _; subst h1
        have := hia.length; simp at this
      · unfold eqBool
        try with_reducible refine wpAny_holding ?_
        rw [if_neg hab]
        refine wpAny_bind (wpAny_richCompare_same_room (op := .Eq) hTa hTb F.slot_tuple_eq
          (wpAny_call_entry F.slot_tuple_eq hTa F.entry_tuple_eq (tup_eq_ze (d := false) hoa hda hob hcb hdb ?_ ⟨_, rfl, (fun e => nomatch e), wpAny_truthy_bool (by simpa using h)⟩) (F.args_tuple_eq_2 _ _)) hu)
        generalize xs.toList = us at hia ⊢
        cases hia with
        | cons k1 r1 =>
          exact .ne fun Q' h' => (mixKind P w).eqBool (a := .inr "leaf") (b := .inr "pair") k1 (mixKind_str P w _ t) (by rw [decide_eq_false (fun z => absurd (Sum.inr.inj z) (by decide +kernel))]; exact h')
  | pr l r ihl ihr =>
    intro y A s a b Q hu hx hy h
    have hl : A.in1.units + l.dep < cLine := by simp only [Tr.dep] at hu; show A.units + 1 + l.dep < cLine; lia
    have hr : A.in1.units + r.dep < cLine := by simp only [Tr.dep] at hu; show A.units + 1 + r.dep < cLine; lia
    have hu : A.units < cLine := by lia
    cases y with
    | lf j =>
      have hTa := hx.typeIs; have hTb := hy.typeIs
      obtain ⟨ob, xs, nb, hob, hcb, hdb, hia⟩ := hy
      obtain ⟨oa, na, t, b', c', hoa, _, hda, _⟩ := hx
      by_cases hab : (Value.ref a == Value.ref b) = true
      · exfalso
        have e : a = b := by have := eq_of_beq hab; injection this
        subst e
        obtain rfl : oa = ob := Option.some.inj (hoa.symm.trans hob)
        rw [hdb] at hda; injection hda with h1 _; subst h1
        have := hia.length; simp at this
      · unfold eqBool
        try with_reducible refine wpAny_holding ?_
        rw [if_neg hab]
        refine wpAny_bind (wpAny_richCompare_same_room (op := .Eq) hTa hTb F.slot_tuple_eq
          (wpAny_call_entry F.slot_tuple_eq hTa F.entry_tuple_eq (tup_eq_ze (d := false) hoa hda hob hcb hdb ?_ ⟨_, rfl, (fun e => nomatch e), wpAny_truthy_bool (by simpa using h)⟩) (F.args_tuple_eq_2 _ _)) hu)
        generalize xs.toList = us at hia ⊢
        cases hia with
        | cons k1 r1 =>
          exact .ne fun Q' h' => (mixKind P w).eqBool (a := .inr "pair") (b := .inr "leaf") (mixKind_str P w _ t) k1 (by rw [decide_eq_false (fun z => absurd (Sum.inr.inj z) (by decide +kernel))]; exact h')
    | pr l' r' =>
      have hTa := hx.typeIs; have hTb := hy.typeIs
      have hinj : a = b → Tr.pr l r = .pr l' r' := fun e => by subst e; exact hx.inj hy
      obtain ⟨oa, na, t, p, q, hoa, _, hda, h1, h2⟩ := hx
      obtain ⟨ob, nb, t', p', q', hob, hcb, hdb, h1', h2'⟩ := hy
      unfold eqBool
      try with_reducible refine wpAny_holding ?_
      show wpAny _ _ (if (Value.ref a == Value.ref b) = true then _ else _) Q E s
      by_cases hab : (Value.ref a == Value.ref b) = true
      · rw [if_pos hab]
        have e : a = b := by have := eq_of_beq hab; injection this
        rw [hinj e] at h
        exact wpAny_bind (wpAny_rule (wpAny_pure (by simpa using h)))
      · rw [if_neg hab]
        refine wpAny_bind (wpAny_richCompare_same_room (op := .Eq) hTa hTb F.slot_tuple_eq
          (wpAny_call_entry F.slot_tuple_eq hTa F.entry_tuple_eq (tup_eq_ze (d := decide (Tr.pr l r = .pr l' r')) hoa hda hob hcb hdb ?_ ⟨_, rfl, (fun e => nomatch e), wpAny_truthy_bool (by simpa using h)⟩) (F.args_tuple_eq_2 _ _)) hu)
        refine .eq (fun Q' h' => (mixKind P w).eqBool (a := .inr "pair") (b := .inr "pair") (mixKind_str P w _ t) (mixKind_str P w _ t') (by simpa using h')) ?_
        by_cases e1 : l = l'
        · refine .eq (fun Q' h' => ihl hl h1 h1' (by simpa [e1] using h')) ?_
          by_cases e2 : r = r'
          · rw [decide_eq_true (by rw [e1, e2])]
            exact .eq (fun Q' h' => ihr hr h2 h2' (by simpa [e2] using h')) .nil
          · rw [decide_eq_false (fun z => e2 (by injection z))]
            exact .ne fun Q' h' => ihr hr h2 h2' (by simpa [e2] using h')
        · rw [decide_eq_false (fun z => e1 (by injection z))]
          exact .ne fun Q' h' => ihl hl h1 h1' (by simpa [e1] using h')
/-- a tuple is quiet where its items are -/
theorem quiet_of {a : Addr} {o : Obj} {us : Array Value} {c m : Nat} {s : Shared} {Q : Bool → Shared → Prop} (q : s.heap.get? a = some o) (ct : o.cls = .type "tuple") (dt : o.data = .seq us c)
    (all : ∀ v ∈ us.toList, ∀ R : Bool → Shared → Prop, R true s → wpAny (model P w) A (eqIsQuiet m v) R E s) (k : Q true s) : wpAny (model P w) A (eqIsQuiet (m + 1) (.ref a)) Q E s := by
  have ty : s.TypeIs (.ref a) "tuple" := ⟨o, q, ct⟩
  unfold eqIsQuiet
  refine wpAny_bind (wpAny_specialOf ty F.slot_tuple_eq.lookup (wpAny_bind (m := isInstance (.ref a) (.type "tuple")) (wpAny_isInstance ty isSubtype_tuple_tuple ?_)))
  simp only [Bool.not_true, Bool.false_eq_true, if_false]
  refine wpAny_bind (wpAny_seqItems q dt (wpAny_bind ?_))
  rw [← Array.forIn_toList]
  refine wpAny_forIn_list _ (fun l r t => t = s ∧ r.1 = none ∧ ∀ v ∈ l, v ∈ us.toList) _ (fun v l r t z => ?_) (fun r t z => ?_) _ _ ⟨rfl, rfl, fun _ m => m⟩
  · obtain ⟨rfl, z, sub⟩ := z
    refine wpAny_bind (all v (sub v (.head _)) _ ?_)
    simp only [Bool.not_true, Bool.false_eq_true, if_false]
    exact wpAny_pure ⟨rfl, rfl, fun u m => sub u (.tail _ m)⟩
  · obtain ⟨r1, r2⟩ := r
    obtain ⟨rfl, rfl, _⟩ := z
    exact wpAny_pure k
theorem tr_quiet : ∀ {t : Tr} {n : Nat} {s : Shared} {a : Addr} {Q : Bool → Shared → Prop}, t.dep + 1 ≤ n → IsTr P w s.heap t a → Q true s → wpAny (model P w) A (eqIsQuiet n (.ref a)) Q E s := by
  have plain : ∀ {m : Nat} {v : Value} {s : Shared} {R : Bool → Shared → Prop}, carriedByValue v = true → R true s → wpAny (model P w) A (eqIsQuiet m v) R E s := fun c k => by rw [eqIsQuiet_byValue _ c]; exact wpAny_pure k
  intro t
  induction t with
  | lf i =>
    intro n s a Q hn hk k
    obtain ⟨m, rfl⟩ : ∃ m, n = m + 1 := ⟨n - 1, by simp only [Tr.dep] at hn; omega⟩
    obtain ⟨o, us, c, q, ct, dt, is⟩ := hk
    exact quiet_of q ct dt (fun v mem R r => plain (is.byValue v mem) r) k
  | pr l r ihl ihr =>
    intro n s a Q hn hk k
    obtain ⟨m, rfl⟩ : ∃ m, n = m + 1 := ⟨n - 1, by simp only [Tr.dep] at hn; omega⟩
    obtain ⟨o, c, t, b, b', q, ct, dt, h1, h2⟩ := hk
    simp only [Tr.dep] at hn
    refine quiet_of q ct dt (fun v mem R r => ?_) k
    simp only [List.mem_cons, List.not_mem_nil, or_false] at mem
    rcases mem with rfl | rfl | rfl
    · exact plain rfl r
    · exact ihl (by omega) h1 r
    · exact ihr (by omega) h2 r
end
noncomputable def trKind (P : Program) (w : World) : HeapKind P w Tr where
  is := fun h t a => t.dep ≤ 6 ∧ IsTr P w h t a
  hash := hashTr P w
  draws := drTr
  room := fun A => A.units + 6 < cLine
  inj := fun hx hy => hx.2.inj hy.2
  keeps := fun x ho hd hs => ⟨x.1, x.2.keeps ho hd hs⟩
  pyHash := fun hu hk h => tr_hash (by have := hk.1; lia) hk.2 h
  eqBool := fun hu hx hy h => tr_eq (by have := hx.1; lia) hx.2 hy.2 h
  quiet := fun hk h => tr_quiet (by have := hk.1; lia) hk.2 h
end L2
namespace L2
open PySem PySem.Spec PyProof.Rows
/-- a value, without the heap -/
inductive V where
  | non | bl (b : Bool) | int (i : Int) | str (x : Str) | byt (b : Array UInt8) | flt (b : UInt64) | ref (a : Addr) | ty (n : String)
  deriving DecidableEq
noncomputable def RelV : V → Value → Prop
  | .non, u => u = Value.none
  | .bl b, u => u = Value.bool b
  | .int i, u => ∃ t, u = Value.int i t
  | .str x, u => ∃ t, u = Value.str x t
  | .byt b, u => ∃ t, u = Value.bytes b t
  | .flt b, u => ∃ t, u = Value.float b t
  | .ref a, u => u = Value.ref a
  | .ty n, u => u = Value.type n
noncomputable abbrev Vals : List V → List Value → Prop := Paired RelV
theorem Vals.length {xs : List V} {us : List Value} (r : Vals xs us) : xs.length = us.length := Paired.length r
theorem Vals.get : ∀ {xs : List V} {us : List Value} {i : Nat} {x : V}, Vals xs us → xs[i]? = some x → ∃ u, us[i]? = some u ∧ RelV x u
  | _, _, _, _, .nil, e => by simp at e
  | _, _, 0, _, .cons r _, e => by simp at e; subst e; exact ⟨_, rfl, r⟩
  | _, _, i + 1, x, .cons _ t, e => by
    obtain ⟨u, h1, h2⟩ := Vals.get (i := i) (x := x) t (by simpa using e)
    exact ⟨u, by simpa using h1, h2⟩
theorem Vals.set {x : V} {u : Value} (r : RelV x u) : ∀ {xs : List V} {us : List Value} (i : Nat), Vals xs us → Vals (xs.set i x) (us.set i u)
  | _, _, _, .nil => .nil
  | _, _, 0, .cons _ t => .cons r t
  | _, _, i + 1, .cons q t => .cons q (Vals.set r i t)
theorem Vals.append : ∀ {xs ys : List V} {us ws : List Value}, Vals xs us → Vals ys ws → Vals (xs ++ ys) (us ++ ws)
  | _, _, _, _, .nil, s => s
  | _, _, _, _, .cons r t, s => .cons r (Vals.append t s)
theorem Vals.take : ∀ {xs : List V} {us : List Value} (n : Nat), Vals xs us → Vals (xs.take n) (us.take n)
  | _, _, 0, _ => .nil
  | _, _, _ + 1, .nil => .nil
  | _, _, n + 1, .cons r t => .cons r (Vals.take n t)
theorem Vals.drop : ∀ {xs : List V} {us : List Value} (n : Nat), Vals xs us → Vals (xs.drop n) (us.drop n)
  | _, _, 0, r => r
  | _, _, _ + 1, .nil => .nil
  | _, _, n + 1, .cons _ t => Vals.drop n t
noncomputable def RelO : Option V → Option Value → Prop
  | some v, some u => RelV v u
  | none, none => True
  | _, _ => False
noncomputable def KV {κ : Type} : List (κ × V) → List (κ × Value) → Prop := Paired fun (p : κ × V) (q : κ × Value) => p.1 = q.1 ∧ RelV p.2 q.2
/-- a key of a dict (00_mix): an int or a text -/
noncomputable def kV : Key → V
  | .inl i => .int i
  | .inr x => .str x
/-- what stands at a tracked address -/
inductive HO where
  /-- a list -/
  | lst (xs : List V)
  /-- a tuple (never changes) -/
  | tup (xs : List V)
  /-- a dict whose keys are ints and texts; one whose keys are tuples of ints and texts (the empty one is both) -/
  | dK (kvs : List (Key × V)) | dT (kvs : List (List Key × V))
  /-- a dict whose keys are trees; what it holds there is not told -/
  | dN (ts : List Tr)
  /-- a set of ints: its members, its size -/
  | set (S : Int → Bool) (n : Nat)
  /-- an instance of the class at C, its dict at dx, its attributes -/
  | ins (C dx : Addr) (fs : List (Str × V))
  /-- the dict of the instance at x -/
  | own (x : Addr)
  /-- the dict of an exception -/
  | xd (fs : List (Str × V))
  /-- a bound method, f of x -/
  | met (f x : Addr)
  /-- a range object lo, lo + 1, .. below hi -/
  | rng (lo hi : Int)
  /-- a thing that is known to the object (the script; a dict while a loop walks it): read, never written while it is so -/
  | frz (o : Obj) (u : HO)
  /-- a code object's table -/
  | tbl (ps : Array Value)
  /-- any other thing, by what is true of its one object (a def of one's own: SetO a S n := HO.ext fun h => ..) -/
  | ext (φ : Heap → Prop)
noncomputable abbrev Hp := Addr → Option HO
noncomputable def upd (H : Hp) (a : Addr) (o : HO) : Hp := fun b => if b = a then some o else H b
theorem upd_same {H : Hp} {a : Addr} {o : HO} : upd H a o a = some o := by unfold upd; rw [if_pos rfl]
theorem upd_ne {H : Hp} {a b : Addr} {o : HO} (h : b ≠ a) : upd H a o b = H b := by unfold upd; rw [if_neg h]
/-- two objects of different content stand apart -/
theorem ne_of {H : Hp} {a b : Addr} {o u : HO} (h : H a = some o) (h' : H b = some u) (d : o ≠ u) : a ≠ b := by
  intro e; subst e; rw [h] at h'; exact d (Option.some.inj h')
theorem ne_of_none {H : Hp} {a b : Addr} {o : HO} (h : H a = some o) (h' : H b = none) : a ≠ b := by
  intro e; subst e; rw [h] at h'; cases h'
noncomputable def IsTupP (h : Heap) (a : Addr) (items : Array Value) : Prop := ∃ o, h.get? a = some o ∧ o.cls = .type "tuple" ∧ o.dict = none ∧ ∃ n, o.data = .seq items n
theorem IsTupP.tup {h : Heap} {a : Addr} {items : Array Value} (x : IsTupP h a items) : IsTup h a items := let ⟨o, e, c, _, n, d⟩ := x; ⟨o, e, c, n, d⟩
theorem IsTupP.keep {h h' : Heap} {a : Addr} {items : Array Value} (x : IsTupP h a items) (k : ∀ o, h.get? a = some o → h'.get? a = some o) : IsTupP h' a items := let ⟨o, e, r⟩ := x; ⟨o, k o e, r⟩
theorem IsTupP.mk' (h : Heap) (items : Array Value) : IsTupP (h.push { cls := .type "tuple", data := .seq items }) h.objs.size items := ⟨_, Heap.get?_push_size _ rfl, rfl, rfl, _, rfl⟩
noncomputable def TK (H : Hp) : Tr → Addr → Prop
  | .lf i, a => H a = some (.tup [.str "leaf", .int i])
  | .pr l r, a => ∃ b c, H a = some (.tup [.str "pair", .ref b, .ref c]) ∧ TK H l b ∧ TK H r c
theorem TK.mono {H H' : Hp} (ht : ∀ b xs, H b = some (.tup xs) → H' b = some (.tup xs)) : ∀ {t : Tr} {a : Addr}, TK H t a → TK H' t a
  | .lf _, _, h => ht _ _ h
  | .pr _ _, _, ⟨b, c, h, h1, h2⟩ => ⟨b, c, ht _ _ h, h1.mono ht, h2.mono ht⟩
section
variable (P : Program) (w : World)
noncomputable def ObjOk (H : Hp) (h : Heap) (a : Addr) : HO → Prop
  | .lst xs => xs.length ≤ sizeLine ∧ ∃ (its : List Value) (n : Nat), Vals xs its ∧ h.get? a = some { cls := .type "list", data := .seq its.toArray n }
  | .tup xs => xs.length ≤ sizeLine ∧ ∃ its : List Value, Vals xs its ∧ IsTupP h a its.toArray
  | .dK kvs => kvs.length ≤ sizeLine ∧ (a == sysModules) = false ∧ ∃ vs, KV kvs vs ∧ h.DictOf (mixKind P w) a vs
  | .dT kvs => kvs.length ≤ sizeLine ∧ (a == sysModules) = false ∧ ∃ xs : List (List Key × Addr × Value),
      Paired (fun (p : List Key × V) (q : List Key × Addr × Value) => p.1 = q.1 ∧ H q.2.1 = some (.tup (p.1.map kV)) ∧ RelV p.2 q.2.2) kvs xs ∧
      ∃ o es ep, h.get? a = some o ∧ o.ExactDict ∧ o.data = .dict es ep ∧ es.toList = xs.map (entryOfKey (tupleKind (mixKind P w))) ∧ (xs.map (·.1)).Nodup
  | .dN ts => ts.length ≤ sizeLine ∧ (a == sysModules) = false ∧ ∃ xs : List (Tr × Addr × Value), xs.map (·.1) = ts ∧ (∀ x ∈ xs, x.1.dep ≤ 6 ∧ TK H x.1 x.2.1) ∧
      ∃ o es ep, h.get? a = some o ∧ o.ExactDict ∧ o.data = .dict es ep ∧ es.toList = xs.map (entryOfKey (trKind P w)) ∧ (xs.map (·.1)).Nodup
  | .set S n => h.SetOf (intKind P w) a S n
  | .ins C dx fs => H dx = some (.own a) ∧ fs.length ≤ 1000 ∧ dx ≠ a ∧ h.get? a = some (PySem.W.instObj C dx) ∧
      ∃ mA, h.Ns1 dx mA ∧ (∀ f, RelO (fs.lookup f) (mA f)) ∧ PySem.Within mA (fs.map (·.1))
  | .own _ => ∃ o, h.get? a = some o
  | .xd fs => ∃ mA, h.Ns1 a mA ∧ ∀ f, RelO (fs.lookup f) (mA f)
  | .rng lo hi => ∃ t u v, h.get? a = some { cls := .type "range", data := .fields #[.int lo t, .int hi u, .int 1 v] }
  | .frz o u => h.get? a = some o ∧ ObjOk H h a u
  | .tbl ps => h.get? a = some { cls := .none, data := .fields ps }
  | .met f x => h.get? a = some (PySem.W.methodObj (.ref f) (.ref x))
  | .ext φ => φ h ∧ (∃ o, h.get? a = some o) ∧ ∀ h1 h2 : Heap, φ h1 → (∀ o, h1.get? a = some o → h2.get? a = some o) → φ h2
/-- the abstract heap is held -/
noncomputable def HOk (H : Hp) (h : Heap) : Prop := ∀ a o, H a = some o → ObjOk P w H h a o
end
section
variable {P : Program} {w : World} {H H' : Hp} {h h' : Heap} {a : Addr} {o : HO}
theorem ObjOk.lt (x : ObjOk P w H h a o) : a < h.objs.size := by
  cases o with
  | lst xs => obtain ⟨_, _, _, _, e⟩ := x; exact Heap.lt_size e
  | tup xs => obtain ⟨_, _, _, p⟩ := x; exact p.tup.lt
  | dK kvs => obtain ⟨_, _, _, _, o, _, _, e, _⟩ := x; exact Heap.lt_size e
  | dT kvs => obtain ⟨_, _, _, _, o, _, _, e, _⟩ := x; exact Heap.lt_size e
  | dN kvs => obtain ⟨_, _, _, _, _, o, _, _, e, _⟩ := x; exact Heap.lt_size e
  | set S n => obtain ⟨o, _, _, _, e, _⟩ := x; exact Heap.lt_size e
  | ins C dx fs => obtain ⟨_, _, _, e, _⟩ := x; exact Heap.lt_size e
  | own y => obtain ⟨_, e⟩ := x; exact Heap.lt_size e
  | xd fs => obtain ⟨_, ⟨_, _, _, e, _⟩, _⟩ := x; exact Heap.lt_size e
  | rng lo hi => obtain ⟨_, _, _, e⟩ := x; exact Heap.lt_size e
  | frz ob u => obtain ⟨e, _⟩ := x; exact Heap.lt_size e
  | tbl ps => exact Heap.lt_size (show h.get? a = some _ from x)
  | met f y => exact Heap.lt_size (show h.get? a = some _ from x)
  | ext φ => obtain ⟨_, ⟨_, e⟩, _⟩ := x; exact Heap.lt_size e
theorem Paired.mapP {α β : Type} {F G : α → β → Prop} : ∀ {l₁ : List α} {l₂ : List β}, Paired F l₁ l₂ → (∀ a b, F a b → G a b) → Paired G l₁ l₂
  | _, _, .nil, _ => .nil
  | _, _, .cons r t, f => .cons (f _ _ r) (Paired.mapP t f)
/-- what an object's description leans on: its own object, its own dict, the tuples -/
theorem ObjOk.stay (x : ObjOk P w H h a o) (k : ∀ b u, (b = a ∨ H b = some (.own a)) → h.get? b = some u → h'.get? b = some u)
    (ho : ∀ b, H b = some (.own a) → H' b = some (.own a)) (ht : ∀ b xs, H b = some (.tup xs) → H' b = some (.tup xs)) : ObjOk P w H' h' a o := by
  induction o with
  | lst xs => obtain ⟨z, its, n, r, e⟩ := x; exact ⟨z, its, n, r, k _ _ (.inl rfl) e⟩
  | tup xs => obtain ⟨z, its, r, ob, e, c⟩ := x; exact ⟨z, its, r, ob, k _ _ (.inl rfl) e, c⟩
  | dK kvs => obtain ⟨z, y, vs, r, ob, es, ep, e, c⟩ := x; exact ⟨z, y, vs, r, ob, es, ep, k _ _ (.inl rfl) e, c⟩
  | dT kvs =>
    obtain ⟨z, y, xs, r, ob, es, ep, e, c⟩ := x
    exact ⟨z, y, xs, Paired.mapP r fun p q z => ⟨z.1, ht _ _ z.2.1, z.2.2⟩, ob, es, ep, k _ _ (.inl rfl) e, c⟩
  | dN ts =>
    obtain ⟨z, y, xs, r, q, ob, es, ep, e, c⟩ := x
    exact ⟨z, y, xs, r, fun x hx => ⟨(q x hx).1, (q x hx).2.mono ht⟩, ob, es, ep, k _ _ (.inl rfl) e, c⟩
  | set S n => obtain ⟨ob, es, ep, t, e, c⟩ := x; exact ⟨ob, es, ep, t, k _ _ (.inl rfl) e, c⟩
  | ins C dx fs =>
    obtain ⟨d, z, ne, e, mA, ⟨od, es, ep, e2, c⟩, r⟩ := x
    exact ⟨ho _ d, z, ne, k _ _ (.inl rfl) e, mA, ⟨od, es, ep, k _ _ (.inr d) e2, c⟩, r⟩
  | own y => obtain ⟨ob, e⟩ := x; exact ⟨ob, k _ _ (.inl rfl) e⟩
  | xd fs => obtain ⟨mA, ⟨od, es, ep, e, c⟩, r⟩ := x; exact ⟨mA, ⟨od, es, ep, k _ _ (.inl rfl) e, c⟩, r⟩
  | rng lo hi => obtain ⟨t, u, v, e⟩ := x; exact ⟨t, u, v, k _ _ (.inl rfl) e⟩
  | frz ob u ih => obtain ⟨e, q⟩ := x; exact ⟨k _ _ (.inl rfl) e, ih q⟩
  | tbl ps =>
    have e : h.get? a = some { cls := .none, data := .fields ps } := x
    show h'.get? a = some { cls := .none, data := .fields ps }
    exact k a _ (.inl rfl) e
  | met f y =>
    have e : h.get? a = some (PySem.W.methodObj (.ref f) (.ref y)) := x
    show h'.get? a = some (PySem.W.methodObj (.ref f) (.ref y))
    exact k a _ (.inl rfl) e
  | ext φ => obtain ⟨p, ⟨o, e⟩, st⟩ := x; exact ⟨st _ _ p fun o q => k _ _ (.inl rfl) q, ⟨o, k _ _ (.inl rfl) e⟩, st⟩
theorem HOk.lt (x : HOk P w H h) (e : H a = some o) : a < h.objs.size := (x a o e).lt
theorem HOk.fresh (x : HOk P w H h) (e : h.objs.size ≤ a) : H a = none := by
  cases q : H a with
  | none => rfl
  | some u => exact absurd (Nat.lt_of_lt_of_le (x.lt q) e) (Nat.lt_irrefl _)
/-- every object of the heap is kept -/
theorem HOk.kept (x : HOk P w H h) (k : ∀ b u, h.get? b = some u → h'.get? b = some u) : HOk P w H h' := fun a o e =>
  (x a o e).stay (fun b u _ q => k b u q) (fun _ q => q) fun _ _ q => q
/-- a new object is laid and tracked -/
theorem HOk.laid (x : HOk P w H h) (k : ∀ b u, h.get? b = some u → h'.get? b = some u) (hp : h.objs.size ≤ a) (new : ObjOk P w (upd H a o) h' a o) : HOk P w (upd H a o) h' := fun b u e => by
  have hn := x.fresh hp
  by_cases hb : b = a
  · subst hb; rw [upd_same] at e; cases e; exact new
  · rw [upd_ne hb] at e
    exact (x b u e).stay (fun c v _ q => k c v q) (fun c q => by rw [upd_ne (ne_of_none q hn)]; exact q) fun c xs q => by rw [upd_ne (ne_of_none q hn)]; exact q
end
/-- what may be read as u: it is u, or a known u -/
noncomputable def Rd (H : Hp) (a : Addr) (u : HO) : Prop := H a = some u ∨ ∃ o, H a = some (.frz o u)
theorem Rd.ok {P : Program} {w : World} {H : Hp} {h : Heap} {a : Addr} {u : HO} (r : Rd H a u) (x : HOk P w H h) : ObjOk P w H h a u := by
  rcases r with r | ⟨o, r⟩
  · exact x a u r
  · obtain ⟨_, q⟩ := x a _ r
    exact q
/-- what may be written -/
noncomputable def Mut : Option HO → Prop
  | some (.lst _) => True
  | some (.dK _) => True
  | some (.dT _) => True
  | some (.dN _) => True
  | some (.set _ _) => True
  | some (.ins _ _ _) => True
  | some (.ext _) => True
  | _ => False
section
variable {P : Program} {w : World} {H : Hp} {h h' : Heap} {x e : Addr} {o' : HO}
/-- the object at e is changed: x itself, or the dict of the instance x -/
theorem HOk.write (ok : HOk P w H h) (mu : Mut (H x)) (he : e = x ∨ H e = some (.own x)) (k : ∀ b u, b ≠ e → h.get? b = some u → h'.get? b = some u) (heo : ∃ u, h'.get? e = some u)
    (new : ObjOk P w (upd H x o') h' x o') : HOk P w (upd H x o') h' := fun b u q => by
  have nown : ∀ c y, H c = some (.own y) → c ≠ x := fun c y r z => by subst z; rw [r] at mu; exact mu
  have ntup : ∀ c xs, H c = some (.tup xs) → c ≠ x := fun c xs r z => by subst z; rw [r] at mu; exact mu
  by_cases hb : b = x
  · subst hb; rw [upd_same] at q; cases q; exact new
  · rw [upd_ne hb] at q
    by_cases hbe : b = e
    · have q' : H b = some (.own x) := by
        rcases he with z | z
        · exact absurd (hbe.trans z) hb
        · rw [hbe]; exact z
      rw [q] at q'; cases q'
      obtain ⟨v, hv⟩ := heo
      exact ⟨v, by rw [hbe]; exact hv⟩
    · refine (ok b u q).stay (fun c v hc r => k c v ?_ r) (fun c r => by rw [upd_ne (nown c b r)]; exact r) fun c xs r => by rw [upd_ne (ntup c xs r)]; exact r
      rcases hc with rfl | hc
      · exact hbe
      · rintro rfl
        rcases he with z | z
        · exact nown c b hc z
        · rw [hc] at z; cases z; exact hb rfl
end
structure Un (fs ex : List Addr) (H H' : Hp) (h h' : Heap) : Prop where
  keep : ∀ b o, h.get? b = some o → H b = none → b ∉ fs → b ∉ ex → h'.get? b = some o
  slot : ∀ b o, h.get? b = some o → H b = none → b ∈ fs → b ∉ ex → ∃ sl, h'.get? b = some { o with slots := sl }
  free : ∀ b o, h.get? b = some o → H b = none → b ∉ ex → H' b = none
  there : ∀ b o, h.get? b = some o → b ∉ ex → ∃ o', h'.get? b = some o'
  tups : ∀ b xs, H b = some (.tup xs) → H' b = some (.tup xs)
  frzs : ∀ b o u, H b = some (.frz o u) → H' b = some (.frz o u)
  tbls : ∀ b ps, H b = some (.tbl ps) → ∃ more, H' b = some (.tbl (ps ++ more))
section
variable {fs fs' ex ex' : List Addr} {H H1 H2 : Hp} {h h1 h2 h' : Heap} {a x e : Addr} {o : HO}
theorem Un.any (u : Un fs ex H H1 h h1) {b : Addr} {ob : Obj} (q : h.get? b = some ob) (n : H b = none) (hx : b ∉ ex) : ∃ sl, h1.get? b = some { ob with slots := sl } := by
  by_cases hb : b ∈ fs
  · exact u.slot b ob q n hb hx
  · exact ⟨ob.slots, u.keep b ob q n hb hx⟩
theorem Un.kept (k : ∀ b u, h.get? b = some u → h'.get? b = some u) : Un fs ex H H h h' :=
  ⟨fun b ob q _ _ _ => k b ob q, fun b ob q _ _ _ => ⟨ob.slots, k b ob q⟩, fun _ _ _ n _ => n, fun b ob q _ => ⟨ob, k b ob q⟩, fun _ _ q => q, fun _ _ _ q => q, fun _ ps q => ⟨#[], by rw [q]; simp⟩⟩
theorem Un.refl : Un fs ex H H h h := Un.kept fun _ _ q => q
theorem Un.laid (k : ∀ b u, h.get? b = some u → h'.get? b = some u) (hp : h.objs.size ≤ a) (hn : H a = none) : Un fs ex H (upd H a o) h h' where
  keep := fun b u q _ _ _ => k b u q
  slot := fun b u q _ _ _ => ⟨u.slots, k b u q⟩
  free := fun b u q n _ => by rw [upd_ne (Nat.ne_of_lt (Nat.lt_of_lt_of_le (Heap.lt_size q) hp))]; exact n
  there := fun b u q _ => ⟨u, k b u q⟩
  tups := fun b xs q => by rw [upd_ne (ne_of_none q hn)]; exact q
  frzs := fun b u xs q => by rw [upd_ne (ne_of_none q hn)]; exact q
  tbls := fun b ps q => ⟨#[], by rw [upd_ne (ne_of_none q hn), q]; simp⟩
theorem Un.write (mu : Mut (H x)) (he : e = x ∨ H e = some (.own x)) (k : ∀ b u, b ≠ e → h.get? b = some u → h'.get? b = some u) (heo : ∃ u, h'.get? e = some u) : Un fs ex H (upd H x o) h h' := by
  have hx : ∀ b, H b = none → b ≠ x := fun b n z => by subst z; rw [n] at mu; exact mu
  have hb : ∀ b, H b = none → b ≠ e := fun b n z => by
    subst z
    rcases he with r | r
    · exact hx b n r
    · rw [n] at r; cases r
  have hm : ∀ b u, H b = some u → ¬ Mut (some u) → b ≠ x := fun b u q nm z => by subst z; rw [q] at mu; exact nm mu
  refine ⟨fun b u q n _ _ => k b u (hb b n) q, fun b u q n _ _ => ⟨u.slots, k b u (hb b n) q⟩, fun b u q n _ => by rw [upd_ne (hx b n)]; exact n, fun b u q _ => ?_,
    fun b xs q => by rw [upd_ne (hm b _ q fun z => z)]; exact q, fun b u xs q => by rw [upd_ne (hm b _ q fun z => z)]; exact q, fun b ps q => ⟨#[], by rw [upd_ne (hm b _ q fun z => z), q]; simp⟩⟩
  by_cases hbe : b = e
  · subst hbe; exact heo
  · exact ⟨u, k b u hbe q⟩
end
noncomputable def trk (h : Heap) (H : Hp) : List Addr := (List.range h.objs.size).filter fun a => (H a).isSome
noncomputable def hidT (h : Heap) (H : Hp) : Heap := PySem.W.hideAll h (trk h H)
theorem hidT_size (h : Heap) (H : Hp) : (hidT h H).objs.size = h.objs.size := PySem.W.hideAll_size _ _
theorem hidT_get {h : Heap} {H : Hp} {b : Addr} {o : Obj} (e : h.get? b = some o) (n : H b = none) : (hidT h H).get? b = some o :=
  PySem.W.hideAll_get _ e fun hm => by
    have q : (H b).isSome = true := (List.mem_filter.mp hm).2
    rw [n] at q; simp at q
theorem of_hidT {h : Heap} {H : Hp} {b : Addr} {o : Obj} (e : (hidT h H).get? b = some o) : h.get? b = some o ∧ H b = none := by
  have e' : h.get? b = some o := PySem.W.of_hideAll (trk h H) e
  refine ⟨e', ?_⟩
  cases q : H b with
  | none => rfl
  | some x =>
    have hm : b ∈ trk h H := List.mem_filter.mpr ⟨List.mem_range.mpr (Heap.lt_size e'), by simp [q]⟩
    have z : (hidT h H).get? b = none := PySem.W.hideAll_none (trk h H) hm
    rw [z] at e; cases e
noncomputable def allNews (g h : Heap) (L : Addr) : List (Addr × Obj) := (List.range h.objs.size).filterMap fun a => if a = L ∨ (g.get? a).isSome = true then none else (h.get? a).map fun o => (a, o)
noncomputable def rest (g h : Heap) (L d : Addr) : List (Addr × Obj) := (allNews g h L).filter fun p => decide (p.1 ≠ d)
end L2
namespace L2
open PySem PySem.Spec PyProof.Rows
/-- the module's facts, over the base: the heap at the law's entry without what is tracked there -/
structure Mod (K : PySem.W.Frag) (mg : Str → Option Value) (base : Heap) : Prop where
  kin : K.In base
  glob : base.Ns mainGlobals mg
  blt : ∃ mb, base.Ns builtinsNs mb ∧ ∀ x : Str, x ≠ "__name__" → mb x = bootBuiltins x
  nolimit : base.NoLimit
/-- the context: a def's body (or a comprehension's block) running. base: fixed through the whole law; s₀, H₀: the entry; outer: the frames whose slots others may change (a def's callers); stack: all frames that run;
   ex: iterators that were made ahead of the entry and are walked here (a comprehension's); fn: the names whose cells were made at the entry (a def: all; a comprehension's block: its own); calm: not within an except suite; pn: pins that every state bears; xe: what is wanted of an exception that leaves the code -/
structure Cx where
  prog : Program
  w : World
  K : PySem.W.Frag
  mg : Str → Option Value
  base : Heap
  A : Around
  N : List Str
  s₀ : Shared
  H₀ : Hp
  env : Env
  outer : List Env
  stack : List Env
  ex : List Addr
  fn : Str → Bool
  calm : Bool
  pn : List (Addr × Obj)
  xe : Value → Shared → Prop
/-- the callers' frames -/
noncomputable def frs (l : List Env) : List Addr := l.filterMap (·.frame)
noncomputable abbrev Cx.fs (X : Cx) : List Addr := frs X.outer
noncomputable def Vis (sc : Scope) (x : Str) : Prop := sc.names.lookup x = some .local ∨ sc.names.lookup x = some .cell ∨ sc.names.lookup x = some .free
noncomputable def Loc (sc : Scope) (x : Str) : Prop := sc.names.lookup x = some .local ∨ sc.names.lookup x = some .cell
noncomputable def Look (env : Env) (h : Heap) (m : Str → Option Value) (x : Str) (u : Value) : Prop :=
  (env.kindOf x = some .local ∧ m x = some u) ∨ ((env.kindOf x = some .cell ∨ env.kindOf x = some .free) ∧ ∃ c, env.cells.lookup x = some c ∧ h.IsCell c (some u))
structure Cx.Ok (X : Cx) : Prop where
  mod : Mod X.K X.mg X.base
  kind : X.env.scope.kind = .function
  glob : X.env.globals = mainGlobals
  blt : X.env.builtins = builtinsNs
  above : X.s₀.heap.objs.size ≤ X.env.locals
  inj : ∀ x y c, X.env.cells.lookup x = some c → X.env.cells.lookup y = some c → x = y
  has : ∀ x, (X.env.kindOf x = some .cell ∨ X.env.kindOf x = some .free) → ∃ c, X.env.cells.lookup x = some c
  cab : ∀ x c, X.fn x = true → X.env.cells.lookup x = some c → X.s₀.heap.objs.size ≤ c
  hd : X.calm = true → X.A.handled = none
  frames : X.A.frames = some X.stack
  stk : X.stack = X.outer ∨ (X.stack = X.env :: X.outer ∧ X.env.frame = some X.env.locals)
  exf : ∀ b ∈ X.ex, b ≠ X.env.locals ∧ ∀ x c, X.env.cells.lookup x = some c → c ≠ b
  bs : ∀ b o, X.base.get? b = some o → X.s₀.heap.get? b = some o ∧ X.H₀ b = none
  bsz : X.base.objs.size ≤ X.s₀.heap.objs.size
  noex : ∀ b o, X.base.get? b = some o → b ∉ X.ex
  exfs : ∀ b ∈ X.ex, b ∉ X.fs
  funs : X.s₀.heap.FunFrames X.base X.outer
  frf : ∀ b ∈ X.fs, X.H₀ b = none
structure Inv (X : Cx) (pins : List (Addr × Obj)) (σ : List (Option V)) (H : Hp) (s : Shared) : Prop where
  ok : X.Ok
  os : s.os = X.s₀.os
  bare : AllBare s.gens
  base : Un X.fs X.ex X.H₀ H X.s₀.heap s.heap
  loc : ∃ m, s.heap.Ns X.env.locals m ∧ ∀ (i : Nat) (x : Str) (v : V), X.N[i]? = some x → σ[i]? = some (some v) → Vis X.env.scope x → ∃ u, RelV v u ∧ Look X.env s.heap m x u
  cell : ∀ x c, X.env.cells.lookup x = some c → ∃ v, s.heap.IsCell c v
  free : H X.env.locals = none
  freeC : ∀ x c, X.env.cells.lookup x = some c → H c = none
  pin : ∀ p ∈ X.pn ++ pins, s.heap.get? p.1 = some p.2 ∧ H p.1 = none ∧ p.1 ≠ X.env.locals ∧ p.1 ∉ X.fs ∧ ∀ v, p.2.data ≠ .cell v
  hok : HOk X.prog X.w H s.heap
  len : σ.length = X.N.length
section
variable {X : Cx} {pins : List (Addr × Obj)} {σ : List (Option V)} {H H' : Hp} {s : Shared} {h' : Heap}
theorem Cx.Ok.nofr (ok : X.Ok) {b : Addr} {o : Obj} (e : X.base.get? b = some o) : b ∉ X.fs := fun hb => by
  have := (ok.funs.mem hb).1
  rw [e] at this; cases this
theorem Inv.bs (I : Inv X pins σ H s) : ∀ b o, X.base.get? b = some o → s.heap.get? b = some o ∧ H b = none := fun b o e =>
  ⟨I.base.keep b o (I.ok.bs b o e).1 (I.ok.bs b o e).2 (I.ok.nofr e) (I.ok.noex b o e), I.base.free b o (I.ok.bs b o e).1 (I.ok.bs b o e).2 (I.ok.noex b o e)⟩
theorem Inv.bk (I : Inv X pins σ H s) : ∀ b o, X.base.get? b = some o → s.heap.get? b = some o := fun b o e => (I.bs b o e).1
theorem Inv.mod (I : Inv X pins σ H s) : Mod X.K X.mg X.base := I.ok.mod
theorem Inv.kIn (I : Inv X pins σ H s) : X.K.In s.heap := I.ok.mod.kin.keeps I.bk
/-- the frame over the base: for OpenK's rules (K.In X.base is I.mod.kin) -/
theorem Inv.fr (I : Inv X pins σ H s) : ∃ m, Fr X.base X.env.locals s.heap m :=
  let ⟨m, hn, _⟩ := I.loc
  ⟨m, hn, I.bk, Nat.le_trans I.ok.bsz I.ok.above⟩
theorem Inv.lt (I : Inv X pins σ H s) : X.env.locals < s.heap.objs.size := let ⟨_, hn, _⟩ := I.loc; hn.lt
theorem Inv.sz (I : Inv X pins σ H s) : X.s₀.heap.objs.size ≤ s.heap.objs.size := Nat.le_trans I.ok.above (Nat.le_of_lt I.lt)
theorem Inv.nofs (I : Inv X pins σ H s) {a : Addr} (h : s.heap.objs.size ≤ a) : a ∉ X.fs := fun hb => by
  obtain ⟨_, o, ho, _⟩ := I.ok.funs.mem hb
  exact absurd (Nat.lt_of_lt_of_le (Heap.lt_size ho) (Nat.le_trans I.sz h)) (Nat.lt_irrefl _)
theorem Inv.cne (I : Inv X pins σ H s) : ∀ x c, X.env.cells.lookup x = some c → c ≠ X.env.locals := fun x c e z => by
  obtain ⟨v, o, ho, hd⟩ := I.cell x c e
  obtain ⟨m, ⟨o', es, ep, ho', hd', _⟩, _⟩ := I.loc
  rw [z, ho'] at ho; cases ho; rw [hd'] at hd; cases hd
theorem Inv.funs (I : Inv X pins σ H s) : s.heap.FunFrames X.base X.outer := by
  have all : ∀ (l : List Env), (∀ b ∈ frs l, b ∈ X.fs) → X.s₀.heap.FunFrames X.base l → s.heap.FunFrames X.base l := by
    intro l
    induction l with
    | nil => intro _ _; trivial
    | cons env r ih =>
      intro hs hl
      obtain ⟨hk, ⟨L, o, hf, hn, ho, hd⟩, hr⟩ := hl
      have hL : L ∈ X.fs := hs L (by unfold frs; rw [List.filterMap_cons, hf]; exact List.mem_cons_self)
      obtain ⟨sl, e⟩ := I.base.slot L o ho (I.ok.frf L hL) hL fun z => I.ok.exfs L z hL
      exact ⟨hk, ⟨L, _, hf, hn, e, hd⟩, ih (fun b hb => hs b (by unfold frs; rw [List.filterMap_cons, hf]; exact List.mem_cons_of_mem _ hb)) hr⟩
  exact all X.outer (fun _ hb => hb) I.ok.funs
/-- the frames that run, for a call -/
theorem Inv.stack (I : Inv X pins σ H s) : s.heap.FunFrames X.base X.stack := by
  rcases I.ok.stk with e | ⟨e, hf⟩
  · rw [e]; exact I.funs
  · rw [e]
    obtain ⟨m, hn, _⟩ := I.loc
    refine .cons (by rw [I.ok.kind]; decide) hf hn ?_ I.funs
    exact Heap.get?_none_of_le (Nat.le_trans I.ok.bsz I.ok.above)
theorem Inv.stkSub (I : Inv X pins σ H s) : ∀ b ∈ frs X.stack, b ∈ X.env.locals :: X.fs := fun b hb => by
  rcases I.ok.stk with e | ⟨e, hf⟩
  · rw [e] at hb; exact List.mem_cons_of_mem _ hb
  · rw [e] at hb
    unfold frs at hb
    rw [List.filterMap_cons, hf] at hb
    exact hb
theorem Inv.stkFree (I : Inv X pins σ H s) : ∀ b ∈ frs X.stack, H b = none := fun b hb => by
  rcases List.mem_cons.mp (I.stkSub b hb) with e | hb
  · rw [e]; exact I.free
  · obtain ⟨_, o, ho, _⟩ := I.ok.funs.mem hb
    exact I.base.free b o ho (I.ok.frf b hb) fun z => I.ok.exfs b z hb
/-- THE STEP: the untracked objects but the frame and the records at ch are kept (the callers' frames up to slots), the frame's map is kept, the new abstract heap is held -/
theorem Inv.step {g' : Array GenState} {t' : Nat} {d' : Drawn} {ch : List Addr} (I : Inv X pins σ H s)
    (hch : ∀ b ∈ ch, (b ∈ X.ex ∨ X.s₀.heap.objs.size ≤ b) ∧ b ≠ X.env.locals ∧ (∀ x c, X.env.cells.lookup x = some c → c ≠ b) ∧ ∀ p ∈ X.pn ++ pins, p.1 ≠ b)
    (keep : ∀ b o, b ≠ X.env.locals → b ∉ X.fs → b ∉ ch → s.heap.get? b = some o → H b = none → h'.get? b = some o)
    (slot : ∀ b o, b ≠ X.env.locals → b ∈ X.fs → b ∉ ch → s.heap.get? b = some o → H b = none → ∃ sl, h'.get? b = some { o with slots := sl }) (free : ∀ b o, b ∉ ch → s.heap.get? b = some o → H b = none → H' b = none)
    (there : ∀ b o, b ∉ ch → s.heap.get? b = some o → ∃ o', h'.get? b = some o')
    (tups : ∀ b xs, H b = some (.tup xs) → H' b = some (.tup xs)) (frzs : ∀ b o u, H b = some (.frz o u) → H' b = some (.frz o u)) (tbls : ∀ b ps, H b = some (.tbl ps) → ∃ more, H' b = some (.tbl (ps ++ more)))
    (ns : ∀ m, s.heap.Ns X.env.locals m → h'.Ns X.env.locals m) (hok : HOk X.prog X.w H' h') (hg : AllBare g') :
    Inv X pins σ H' { s with heap := h', gens := g', drawn := d', toks := t' } := by
  have neL : ∀ b o, X.s₀.heap.get? b = some o → b ≠ X.env.locals := fun b o e => Nat.ne_of_lt (Nat.lt_of_lt_of_le (Heap.lt_size e) I.ok.above)
  have neC : ∀ b o, X.s₀.heap.get? b = some o → b ∉ X.ex → b ∉ ch := fun b o e hx hb => by
    rcases (hch b hb).1 with z | z
    · exact hx z
    · exact absurd (Nat.lt_of_lt_of_le (Heap.lt_size e) z) (Nat.lt_irrefl _)
  have cellK : ∀ x c, X.env.cells.lookup x = some c → ∀ v, s.heap.IsCell c v → h'.IsCell c v := fun x c e v ⟨o, ho, hd⟩ => by
    have nch : c ∉ ch := fun z => (hch c z).2.2.1 x c e rfl
    by_cases hc : c ∈ X.fs
    · obtain ⟨sl, q⟩ := slot c o (I.cne x c e) hc nch ho (I.freeC x c e)
      exact ⟨_, q, hd⟩
    · exact ⟨o, keep c o (I.cne x c e) hc nch ho (I.freeC x c e), hd⟩
  refine ⟨I.ok, I.os, hg, ⟨fun b o e n hb hx => ?_, fun b o e n hb hx => ?_, fun b o e n hx => ?_, fun b o e hx => ?_, fun b xs e => tups b xs (I.base.tups b xs e), fun b o xs e => frzs b o xs (I.base.frzs b o xs e), fun b ps e => ?_⟩, ?_, fun x c e => ?_, ?_, fun x c e => ?_, fun p hp => ?_, hok, I.len⟩
  · exact keep b o (neL b o e) hb (neC b o e hx) (I.base.keep b o e n hb hx) (I.base.free b o e n hx)
  · obtain ⟨sl, e1⟩ := I.base.slot b o e n hb hx
    obtain ⟨sl', e2⟩ := slot b _ (neL b o e) hb (neC b o e hx) e1 (I.base.free b o e n hx)
    exact ⟨sl', e2⟩
  · obtain ⟨o', e1⟩ := I.base.there b o e hx
    exact free b o' (neC b o e hx) e1 (I.base.free b o e n hx)
  · obtain ⟨o', e1⟩ := I.base.there b o e hx
    exact there b o' (neC b o e hx) e1
  · obtain ⟨m1, e1⟩ := I.base.tbls b ps e
    obtain ⟨m2, e2⟩ := tbls b _ e1
    exact ⟨m1 ++ m2, by rw [e2, Array.append_assoc]⟩
  · obtain ⟨m, hn, hl⟩ := I.loc
    refine ⟨m, ns m hn, fun i x v e1 e2 e3 => ?_⟩
    obtain ⟨u, r, l⟩ := hl i x v e1 e2 e3
    refine ⟨u, r, ?_⟩
    rcases l with l | ⟨k, c, e, z⟩
    · exact .inl l
    · exact .inr ⟨k, c, e, cellK x c e _ z⟩
  · obtain ⟨v, z⟩ := I.cell x c e
    exact ⟨v, cellK x c e v z⟩
  · obtain ⟨m, ⟨o, _, _, ho, _⟩, _⟩ := I.loc
    exact free _ o (fun z => (hch _ z).2.1 rfl) ho I.free
  · obtain ⟨v, o, ho, hd⟩ := I.cell x c e
    exact free c o (fun z => (hch c z).2.2.1 x c e rfl) ho (I.freeC x c e)
  · obtain ⟨e, n, ne, nf, d⟩ := I.pin p hp
    have nch : p.1 ∉ ch := fun z => (hch p.1 z).2.2.2 p hp rfl
    exact ⟨keep p.1 p.2 ne nf nch e n, free p.1 p.2 nch e n, ne, nf, d⟩
/-- .. where the frame's own object is kept too -/
theorem Inv.un {t' : Nat} (I : Inv X pins σ H s) (u : Un X.fs [] H H' s.heap h') (hok : HOk X.prog X.w H' h') : Inv X pins σ H' { s with heap := h', toks := t' } := by
  obtain ⟨m, ⟨o, es, ep, ho, r⟩, _⟩ := id I.loc
  obtain ⟨sl, hL⟩ := u.any ho I.free (by simp)
  exact I.step (g' := s.gens) (d' := s.drawn) (ch := []) (fun _ z => nomatch z) (fun b o _ hb _ e n => u.keep b o e n hb (by simp)) (fun b o _ hb _ e n => u.slot b o e n hb (by simp)) (fun b o _ e n => u.free b o e n (by simp)) (fun b o _ e => u.there b o e (by simp)) u.tups u.frzs u.tbls (fun m' hm => by
    obtain ⟨o', es', ep', ho', r'⟩ := hm
    rw [ho] at ho'; cases ho'
    exact ⟨_, es', ep', hL, r'⟩) hok I.bare
/-- behind a call (or a comprehension's block): the slots of this frame may have changed too, the records at ch may have turned -/
theorem Inv.call {g' : Array GenState} {t' : Nat} {d' : Drawn} {ch : List Addr} (I : Inv X pins σ H s) (u : Un (frs X.stack) ch H H' s.heap h') (hok : HOk X.prog X.w H' h') (hg : AllBare g')
    (hch : ∀ b ∈ ch, (b ∈ X.ex ∨ X.s₀.heap.objs.size ≤ b) ∧ b ≠ X.env.locals ∧ (∀ x c, X.env.cells.lookup x = some c → c ≠ b) ∧ ∀ p ∈ X.pn ++ pins, p.1 ≠ b) :
    Inv X pins σ H' { s with heap := h', gens := g', drawn := d', toks := t' } := by
  obtain ⟨m, ⟨o, es, ep, ho, r⟩, _⟩ := id I.loc
  obtain ⟨sl, hL⟩ := u.any ho I.free fun z => (hch _ z).2.1 rfl
  exact I.step (ch := ch) hch (fun b o hL hb hc e n => u.keep b o e n (fun z => (List.mem_cons.mp (I.stkSub b z)).elim hL hb) hc) (fun b o _ _ hc e n => u.any e n hc) (fun b o hc e n => u.free b o e n hc) (fun b o hc e => u.there b o e hc) u.tups u.frzs u.tbls (fun m' hm => by
    obtain ⟨o', es', ep', ho', r'⟩ := hm
    rw [ho] at ho'; cases ho'
    exact ⟨_, es', ep', hL, r'⟩) hok hg
/-- an untracked record of ours (an iterator) has turned -/
theorem Inv.turned {t' : Nat} {it : Addr} (I : Inv X pins σ H s) (k : ∀ b o, b ≠ it → s.heap.get? b = some o → h'.get? b = some o) (hn : H it = none) (hL : it ≠ X.env.locals)
    (h1 : it ∈ X.ex ∨ X.s₀.heap.objs.size ≤ it) (h2 : ∀ x c, X.env.cells.lookup x = some c → c ≠ it) (h3 : ∀ p ∈ X.pn ++ pins, p.1 ≠ it) : Inv X pins σ H { s with heap := h', toks := t' } := by
  have nit : ∀ b u, H b = some u → b ≠ it := fun b u e z => by rw [z, hn] at e; cases e
  refine I.step (g' := s.gens) (d' := s.drawn) (ch := [it]) (fun b hb => ?_) (fun b o _ _ hc e _ => k b o (fun z => hc (by simp [z])) e) (fun b o _ _ hc e _ => ⟨o.slots, k b o (fun z => hc (by simp [z])) e⟩) (fun _ _ _ _ n => n)
    (fun b o hc e => ⟨o, k b o (fun z => hc (by simp [z])) e⟩) (fun _ _ e => e) (fun _ _ _ e => e) (fun b ps e => ⟨#[], by rw [e]; simp⟩) (fun m hm => ?_) (fun b u e => ?_) I.bare
  · have e : b = it := by simpa using hb
    subst e
    exact ⟨h1, hL, h2, h3⟩
  · obtain ⟨o, es, ep, ho, r⟩ := hm
    exact ⟨o, es, ep, k _ o (Ne.symm hL) ho, r⟩
  · refine (I.hok b u e).stay (fun c v hc q => k c v ?_ q) (fun _ q => q) fun _ _ q => q
    rcases hc with z | z
    · rw [z]; exact nit b u e
    · exact nit c _ z
theorem Inv.tok (I : Inv X pins σ H s) (t : Nat) : Inv X pins σ H { s with toks := t } := I.un (h' := s.heap) (t' := t) Un.refl I.hok
/-- all objects kept -/
theorem Inv.kept {t' : Nat} (I : Inv X pins σ H s) (k : ∀ b u, s.heap.get? b = some u → h'.get? b = some u) : Inv X pins σ H { s with heap := h', toks := t' } := I.un (Un.kept k) (I.hok.kept k)
/-- a new object laid and tracked -/
theorem Inv.laid {a : Addr} {o : HO} {t' : Nat} (I : Inv X pins σ H s) (k : ∀ b u, s.heap.get? b = some u → h'.get? b = some u) (hp : s.heap.objs.size ≤ a) (new : ObjOk X.prog X.w (upd H a o) h' a o) :
    Inv X pins σ (upd H a o) { s with heap := h', toks := t' } := I.un (Un.laid k hp (I.hok.fresh hp)) (I.hok.laid k hp new)
/-- an object written -/
theorem Inv.write {x e : Addr} {o : HO} {t' : Nat} (I : Inv X pins σ H s) (mu : Mut (H x)) (he : e = x ∨ H e = some (.own x)) (k : ∀ b u, b ≠ e → s.heap.get? b = some u → h'.get? b = some u) (heo : ∃ u, h'.get? e = some u)
    (new : ObjOk X.prog X.w (upd H x o) h' x o) : Inv X pins σ (upd H x o) { s with heap := h', toks := t' } := I.un (Un.write mu he k heo) (I.hok.write mu he k heo new)
/-- forgetting slots, pins -/
theorem Inv.weak {σ' : List (Option V)} (I : Inv X pins σ H s) (hl : σ'.length = σ.length) (w : ∀ (i : Nat) v, σ'[i]? = some (some v) → σ[i]? = some (some v)) : Inv X pins σ' H s :=
  ⟨I.ok, I.os, I.bare, I.base, let ⟨m, hn, hl'⟩ := I.loc; ⟨m, hn, fun i x v e1 e2 e3 => hl' i x v e1 (w i v e2) e3⟩, I.cell, I.free, I.freeC, I.pin, I.hok, hl.trans I.len⟩
theorem Inv.pins_of {pins' : List (Addr × Obj)} (I : Inv X pins σ H s) (h : ∀ p ∈ pins', s.heap.get? p.1 = some p.2 ∧ H p.1 = none ∧ p.1 ≠ X.env.locals ∧ p.1 ∉ X.fs ∧ ∀ v, p.2.data ≠ .cell v) : Inv X pins' σ H s :=
  ⟨I.ok, I.os, I.bare, I.base, I.loc, I.cell, I.free, I.freeC, fun p hp => (List.mem_append.mp hp).elim (fun z => I.pin p (List.mem_append_left _ z)) (h p), I.hok, I.len⟩
theorem nodup_ix {N : List Str} (hN : N.Nodup) {i j : Nat} {x : Str} (a : N[i]? = some x) (b : N[j]? = some x) : i = j := by
  obtain ⟨h1, e1⟩ := List.getElem?_eq_some_iff.mp a
  obtain ⟨h2, e2⟩ := List.getElem?_eq_some_iff.mp b
  exact (List.getElem_inj hN).mp (e1.trans e2.symm)
/-- a name is stored; what changed -/
theorem store_ok2 {M : Model} {A : Around} {E : Value → Shared → Prop} {i : Nat} {x : Str} {v : V} {u : Value} {Q : Unit → Shared → Prop} (I : Inv X pins σ H s) (hN : X.N.Nodup) (hi : X.N[i]? = some x) (hx : Loc X.env.scope x) (r : RelV v u)
    (h : ∀ s', Inv X pins (σ.set i (some v)) H s' → (∃ a, Heap.SameBut a s.heap s'.heap ∧ (a = X.env.locals ∨ X.env.cells.lookup x = some a)) → Q () s') (hf : X.fn x = true ∨ X.env.scope.names.lookup x = some .local := by first | exact .inl rfl | exact .inr rfl | assumption) : wpAny M A (storeName X.env x u) Q E s := by
  obtain ⟨m, hn, hl⟩ := id I.loc
  have hcls : (X.env.scope.kind == .class || (X.env.scope.kind == .module && X.env.locals != X.env.globals)) = false := by rw [I.ok.kind]; rfl
  have hiσ : i < σ.length := by rw [I.len]; exact (List.getElem?_eq_some_iff.mp hi).1
  have cne := I.cne
  have tracked : ∀ {a : Addr} {h' : Heap}, (∃ o, s.heap.get? a = some o ∧ H a = none) → Heap.SameBut a s.heap h' → HOk X.prog X.w H h' := fun {a h'} ha hs b ob e => by
    obtain ⟨_, _, hfree⟩ := ha
    refine (I.hok b ob e).stay (fun c w' hc q => (hs.2 c ?_).trans q) (fun _ q => q) fun _ _ q => q
    rintro rfl
    rcases hc with rfl | hc
    · rw [hfree] at e; cases e
    · rw [hfree] at hc; cases hc
  rcases hx with hk | hk
  · refine wpAny_storeName_local hk hn (fun h' hn' hs => ?_) hcls
    obtain ⟨oL, _, _, hoL, _⟩ := id hn
    refine h _ ⟨I.ok, I.os, I.bare, ⟨fun b o e n hb hx => ?_, fun b o e n hb hx => ?_, I.base.free, fun b o e hx => ?_, I.base.tups, I.base.frzs, I.base.tbls⟩, ⟨_, hn', fun j y v' e1 e2 e3 => ?_⟩, fun y c e => ?_, I.free, I.freeC, fun p hp => ?_, tracked ⟨oL, hoL, I.free⟩ hs, by simpa using I.len⟩ ⟨_, hs, .inl rfl⟩
    · exact (hs.2 b (Nat.ne_of_lt (Nat.lt_of_lt_of_le (Heap.lt_size e) I.ok.above))).trans (I.base.keep b o e n hb hx)
    · obtain ⟨sl, e1⟩ := I.base.slot b o e n hb hx
      exact ⟨sl, (hs.2 b (Nat.ne_of_lt (Nat.lt_of_lt_of_le (Heap.lt_size e) I.ok.above))).trans e1⟩
    · obtain ⟨o', e1⟩ := I.base.there b o e hx
      exact ⟨o', (hs.2 b (Nat.ne_of_lt (Nat.lt_of_lt_of_le (Heap.lt_size e) I.ok.above))).trans e1⟩
    · by_cases hj : j = i
      · subst hj
        rw [hi] at e1; cases e1
        rw [List.getElem?_set_self hiσ] at e2
        cases e2
        exact ⟨u, r, .inl ⟨hk, by simp⟩⟩
      · rw [List.getElem?_set_ne (Ne.symm hj)] at e2
        obtain ⟨u', r', q⟩ := hl j y v' e1 e2 e3
        refine ⟨u', r', ?_⟩
        rcases q with ⟨k, e⟩ | ⟨k, c, e, z⟩
        · refine .inl ⟨k, ?_⟩
          have : y ≠ x := fun e => hj (nodup_ix hN e1 (e ▸ hi))
          simp [this, e]
        · exact .inr ⟨k, c, e, z.sameBut hs (cne y c e)⟩
    · obtain ⟨w', z⟩ := I.cell y c e
      exact ⟨w', z.sameBut hs (cne y c e)⟩
    · obtain ⟨e, n, ne, nf, d⟩ := I.pin p hp
      exact ⟨(hs.2 p.1 ne).trans e, n, ne, nf, d⟩
  · have hfn : X.fn x = true := by
      rcases hf with z | z
      · exact z
      · rw [z] at hk; cases hk
    obtain ⟨c, hc⟩ := I.ok.has x (.inl hk)
    obtain ⟨w', z⟩ := I.cell x c hc
    refine wpAny_storeName_cell I.ok.kind hk hc z (fun h' hc' hs => ?_)
    obtain ⟨oc, hoc, hocd⟩ := id z
    refine h { s with heap := h' } ⟨I.ok, I.os, I.bare, ⟨fun b o e n hb hx => ?_, fun b o e n hb hx => ?_, I.base.free, fun b o e hx => ?_, I.base.tups, I.base.frzs, I.base.tbls⟩, ⟨m, hn.sameBut hs (Ne.symm (cne x c hc)), fun j y v' e1 e2 e3 => ?_⟩, fun y c' e => ?_, I.free, I.freeC, fun p hp => ?_, tracked ⟨oc, hoc, I.freeC x c hc⟩ hs, by simpa using I.len⟩ ⟨c, hs, .inr hc⟩
    · exact (hs.2 b (Nat.ne_of_lt (Nat.lt_of_lt_of_le (Heap.lt_size e) (I.ok.cab x c hfn hc)))).trans (I.base.keep b o e n hb hx)
    · obtain ⟨sl, e1⟩ := I.base.slot b o e n hb hx
      exact ⟨sl, (hs.2 b (Nat.ne_of_lt (Nat.lt_of_lt_of_le (Heap.lt_size e) (I.ok.cab x c hfn hc)))).trans e1⟩
    · obtain ⟨o', e1⟩ := I.base.there b o e hx
      exact ⟨o', (hs.2 b (Nat.ne_of_lt (Nat.lt_of_lt_of_le (Heap.lt_size e) (I.ok.cab x c hfn hc)))).trans e1⟩
    · by_cases hj : j = i
      · subst hj
        rw [hi] at e1; cases e1
        rw [List.getElem?_set_self hiσ] at e2
        cases e2
        exact ⟨u, r, .inr ⟨.inl hk, c, hc, hc'⟩⟩
      · rw [List.getElem?_set_ne (Ne.symm hj)] at e2
        obtain ⟨u', r', q⟩ := hl j y v' e1 e2 e3
        refine ⟨u', r', ?_⟩
        rcases q with q | ⟨k, c', e, z'⟩
        · exact .inl q
        · refine .inr ⟨k, c', e, z'.sameBut hs ?_⟩
          rintro rfl
          exact hj (nodup_ix hN e1 (I.ok.inj _ _ _ e hc ▸ hi))
    · by_cases hcc : c' = c
      · subst hcc; exact ⟨_, hc'⟩
      · obtain ⟨w2, z2⟩ := I.cell y c' e
        exact ⟨w2, z2.sameBut hs hcc⟩
    · obtain ⟨e, n, ne, nf, d⟩ := I.pin p hp
      refine ⟨(hs.2 p.1 ?_).trans e, n, ne, nf, d⟩
      intro q
      rw [q, hoc] at e
      have q' : oc = p.2 := Option.some.inj e
      exact d w' (by rw [← q']; exact hocd)
theorem store_ok {M : Model} {A : Around} {E : Value → Shared → Prop} {i : Nat} {x : Str} {v : V} {u : Value} {Q : Unit → Shared → Prop} (I : Inv X pins σ H s) (hN : X.N.Nodup) (hi : X.N[i]? = some x) (hx : Loc X.env.scope x) (r : RelV v u)
    (h : ∀ s', Inv X pins (σ.set i (some v)) H s' → Q () s') (hf : X.fn x = true ∨ X.env.scope.names.lookup x = some .local := by first | exact .inl rfl | exact .inr rfl | assumption) : wpAny M A (storeName X.env x u) Q E s :=
  store_ok2 I hN hi hx r (fun s' I' _ => h s' I') hf
/-- behind a call or a block, the state as it is -/
theorem Inv.call' {s' : Shared} {ch : List Addr} (I : Inv X pins σ H s) (ho : s'.os = s.os) (u : Un (frs X.stack) ch H H' s.heap s'.heap) (hok : HOk X.prog X.w H' s'.heap) (hg : AllBare s'.gens)
    (hch : ∀ b ∈ ch, (b ∈ X.ex ∨ X.s₀.heap.objs.size ≤ b) ∧ b ≠ X.env.locals ∧ (∀ x c, X.env.cells.lookup x = some c → c ≠ b) ∧ ∀ p ∈ X.pn ++ pins, p.1 ≠ b) : Inv X pins σ H' s' := by
  obtain ⟨h', g', d', t', o'⟩ := s'
  have e : o' = s.os := ho
  subst e
  exact I.call (g' := g') (t' := t') (d' := d') u hok hg hch
end
/-- an exception: its class, its own dict's address (where it has one), the abstract heap behind it -/
noncomputable abbrev XK := Value → Option Addr → Hp → Prop
noncomputable abbrev St := List (Option V)
noncomputable abbrev VK := V → Hp → Prop
/-- an expression's reading; a test's; an argument list's -/
noncomputable abbrev TE := St → Hp → VK → Prop
noncomputable abbrev TT := St → Hp → (Bool → Hp → Prop) → Prop
noncomputable abbrev TA := St → Hp → (List V → Hp → Prop) → Prop
/-- what is wanted behind a statement -/
structure Ends where
  nx : St → Hp → Prop
  rt : VK
  bk : St → Hp → Prop := fun _ _ => False
  ct : St → Hp → Prop := fun _ _ => False
noncomputable abbrev TS := Ends → St → Hp → Prop
noncomputable def EP (X : Cx) (pins : List (Addr × Obj)) (σ : St) (Q : VK) (u : Value) (s' : Shared) : Prop := ∃ v H', Inv X pins σ H' s' ∧ RelV v u ∧ Q v H'
noncomputable def TP (X : Cx) (pins : List (Addr × Obj)) (σ : St) (Q : Bool → Hp → Prop) (b : Bool) (s' : Shared) : Prop := ∃ H', Inv X pins σ H' s' ∧ Q b H'
noncomputable def AP (X : Cx) (pins : List (Addr × Obj)) (σ : St) (Q : List V → Hp → Prop) (us : List Value) (s' : Shared) : Prop := ∃ vs H', Inv X pins σ H' s' ∧ Vals vs us ∧ Q vs H'
noncomputable def SP (X : Cx) (pins : List (Addr × Obj)) (D : Ends) (f : Flow) (s' : Shared) : Prop :=
  match f with
  | .next => ∃ σ' H', Inv X pins σ' H' s' ∧ D.nx σ' H'
  | .brk => ∃ σ' H', Inv X pins σ' H' s' ∧ D.bk σ' H'
  | .cont => ∃ σ' H', Inv X pins σ' H' s' ∧ D.ct σ' H'
  | .ret u => ∃ v σ' H', Inv X pins σ' H' s' ∧ RelV v u ∧ D.rt v H'
noncomputable def PE (X : Cx) (e : Expr) (t : TE) : Prop :=
  ∀ (pins : List (Addr × Obj)) (s : Shared) (σ : St) (H : Hp) (Q : VK), Inv X pins σ H s → t σ H Q → wpAny (model X.prog X.w) X.A (eval e X.env) (EP X pins σ Q) X.xe s
noncomputable def PT (X : Cx) (e : Expr) (t : TT) : Prop :=
  ∀ (pins : List (Addr × Obj)) (s : Shared) (σ : St) (H : Hp) (Q : Bool → Hp → Prop), Inv X pins σ H s → t σ H Q → wpAny (model X.prog X.w) X.A (isTrue e X.env (eval e X.env)) (TP X pins σ Q) X.xe s
/-- a test whatever its 'whole' is (and, or) -/
noncomputable def PW (X : Cx) (e : Expr) (t : TT) : Prop :=
  ∀ (whole : Sem Value) (pins : List (Addr × Obj)) (s : Shared) (σ : St) (H : Hp) (Q : Bool → Hp → Prop), Inv X pins σ H s → t σ H Q → wpAny (model X.prog X.w) X.A (isTrue e X.env whole) (TP X pins σ Q) X.xe s
theorem PW.pt {X : Cx} {e : Expr} {t : TT} (h : PW X e t) : PT X e t := h _
/-- an argument list (no star), from the left -/
noncomputable def PA (X : Cx) (es : List Expr) (t : TA) : Prop :=
  ∀ (pos : Pos) (pins : List (Addr × Obj)) (s : Shared) (σ : St) (H : Hp) (Q : List V → Hp → Prop), Inv X pins σ H s → t σ H Q → wpAny (model X.prog X.w) X.A (spliced (backTo pos (starEach es X.env))) (AP X pins σ Q) X.xe s
noncomputable def PS (X : Cx) (st : Stmt) (t : TS) : Prop :=
  ∀ (pins : List (Addr × Obj)) (s : Shared) (σ : St) (H : Hp) (D : Ends), Inv X pins σ H s → t D σ H → wpAny (model X.prog X.w) X.A (exec st X.env) (SP X pins D) X.xe s
noncomputable def PSs (X : Cx) (st : List Stmt) (t : TS) : Prop :=
  ∀ (pins : List (Addr × Obj)) (s : Shared) (σ : St) (H : Hp) (D : Ends), Inv X pins σ H s → t D σ H → wpAny (model X.prog X.w) X.A (execs st X.env) (SP X pins D) X.xe s
/-- weaken the end -/
theorem thn {α : Type} {t : Sem α} {Q Q' : α → Shared → Prop} {M : Model} {A : Around} {E : Value → Shared → Prop} {s : Shared} (h : wpAny M A t Q E s) (hQ : ∀ a s, Q a s → Q' a s) : wpAny M A t Q' E s := wpAny_mono h hQ fun _ _ x => x
end L2
namespace L2
open PySem PySem.Spec PyProof.Rows
section
variable {X : Cx}
/-- two expressions in a row -/
theorem bin {a b : Expr} {ta tb : TE} (ha : PE X a ta) (hb : PE X b tb) {pins : List (Addr × Obj)} {s : Shared} {σ : St} {H : Hp} {R : V → V → Hp → Prop} (I : Inv X pins σ H s) (h : ta σ H fun x H1 => tb σ H1 fun y H2 => R x y H2)
    {α : Type} {Q : α → Shared → Prop} {f : Value → Value → Sem α}
    (hf : ∀ v u s2 x y H2, Inv X pins σ H2 s2 → RelV x v → RelV y u → R x y H2 → wpAny (model X.prog X.w) X.A (f v u) Q X.xe s2) :
    wpAny (model X.prog X.w) X.A (eval a X.env) (fun v s₁ => wpAny (model X.prog X.w) X.A (eval b X.env) (fun u s₂ => wpAny (model X.prog X.w) X.A (f v u) Q X.xe s₂) X.xe s₁) X.xe s := by
  refine thn (ha pins s σ H _ I h) fun v s1 ⟨x, H1, I1, r1, q1⟩ => ?_
  refine thn (hb pins s1 σ H1 _ I1 q1) fun u s2 ⟨y, H2, I2, r2, q2⟩ => ?_
  exact hf v u s2 x y H2 I2 r1 r2 q2
noncomputable def tVar (i : Nat) : TE := fun σ H Q => ∃ v, σ[i]? = some (some v) ∧ Q v H
noncomputable def tC (v : V) : TE := fun _ H Q => Q v H
theorem pe_var {i : Nat} {x : Str} {pos : Pos} (hN : X.N[i]? = some x) (hv : Vis X.env.scope x) (hd : (x == ("__debug__" : Str)) = false := by decide) (hcd : (x == ("__classdict__" : Str)) = false := by decide) : PE X (.Name x pos) (tVar i) := by
  intro pins s σ H Q I h
  obtain ⟨v, e, h⟩ := h
  obtain ⟨m, hn, hl⟩ := I.loc
  obtain ⟨u, r, l⟩ := hl i x v hN e hv
  have fin : EP X pins σ Q u s := ⟨v, H, I, r, h⟩
  rcases l with ⟨hk, hm⟩ | ⟨hk, c, hc, hcell⟩
  · exact wpAny_Name (wpAny_loadName_local I.ok.kind hk hn hm fin) hd
  · rcases hk with hk | hk
    · exact wpAny_Name (wpAny_loadName_cell I.ok.kind hk hc hcell fin) hd
    · exact wpAny_Name (wpAny_loadName_free I.ok.kind hk hc hcell fin hcd) hd
theorem pe_int {i j pos} : PE X (.Constant (.int i) j pos) (tC (.int i)) := fun _ _ _ H _ I h => wpAny_Constant_int ⟨.int i, H, I.tok _, ⟨_, rfl⟩, h⟩
theorem pe_bl {b j pos} : PE X (.Constant (.bool b) j pos) (tC (.bl b)) := fun _ _ _ H _ I h => Constant_bool ⟨.bl b, H, I, rfl, h⟩
theorem pe_non {j pos} : PE X (.Constant .none j pos) (tC .non) := fun _ _ _ H _ I h => Constant_none ⟨.non, H, I, rfl, h⟩
theorem pe_str {x j pos} : PE X (.Constant (.str x) j pos) (tC (.str x)) := fun _ _ _ H _ I h => Calls.Constant_str ⟨.str x, H, I.tok _, ⟨_, rfl⟩, h⟩
/-- a global name of the def -/
noncomputable def Gl (X : Cx) (x : Str) : Prop := X.env.kindOf x = some .globalImplicit
theorem ld_glob {E : Value → Shared → Prop} {pins : List (Addr × Obj)} {s : Shared} {σ : St} {H : Hp} {x : Str} {u : Value} {pos : Pos} {Q : Value → Shared → Prop} (I : Inv X pins σ H s) (hg : Gl X x) (hm : X.mg x = some u) (h : Q u s)
    (hd : (x == ("__debug__" : Str)) = false := by decide) : wpAny (model X.prog X.w) X.A (eval (.Name x pos) X.env) Q E s :=
  Calls.Name_function_global I.ok.kind hg (Calls.loadGlobal_global (by rw [I.ok.glob]; exact I.mod.glob.keeps I.bk) hm h) hd
theorem ld_blt {E : Value → Shared → Prop} {pins : List (Addr × Obj)} {s : Shared} {σ : St} {H : Hp} {x : Str} {u : Value} {pos : Pos} {Q : Value → Shared → Prop} (I : Inv X pins σ H s) (hg : Gl X x) (hm : X.mg x = none) (hv : bootBuiltins x = some u) (h : Q u s)
    (hn : x ≠ "__name__" := by decide) (hd : (x == ("__debug__" : Str)) = false := by decide) : wpAny (model X.prog X.w) X.A (eval (.Name x pos) X.env) Q E s := by
  obtain ⟨mb, h1, h2⟩ := I.mod.blt
  exact Calls.Name_function_global I.ok.kind hg (Calls.loadGlobal_builtin (by rw [I.ok.glob]; exact I.mod.glob.keeps I.bk) hm (by rw [I.ok.blt]; exact h1.keeps I.bk) ((h2 x hn).trans hv) h) hd
theorem pe_bltn {x : Str} {v : V} {u : Value} {pos : Pos} (hg : Gl X x) (hm : X.mg x = none) (hv : bootBuiltins x = some u) (r : RelV v u) (hn : x ≠ "__name__" := by decide) (hd : (x == ("__debug__" : Str)) = false := by decide) : PE X (.Name x pos) (tC v) :=
  fun _ _ _ H _ I h => ld_blt I hg hm hv ⟨v, H, I, r, h⟩ hn hd
/-- two ints -/
noncomputable def t2I (ta tb : TE) (k : Int → Int → Hp → Prop) : St → Hp → Prop := fun σ H => ta σ H fun x H1 => tb σ H1 fun y H2 => ∃ i j, x = .int i ∧ y = .int j ∧ k i j H2
noncomputable def tSub (ta tb : TE) : TE := fun σ H Q => t2I ta tb (fun i j H2 => Q (.int (i - j)) H2) σ H
variable {a b : Expr} {ta tb : TE} {pos : Pos}
noncomputable def PC (X : Cx) (op : CmpOp) (a b : Expr) (t : TE) : Prop :=
  ∀ (pins : List (Addr × Obj)) (s : Shared) (σ : St) (H : Hp) (Q : VK), Inv X pins σ H s → t σ H Q →
    wpAny (model X.prog X.w) X.A (eval a X.env) (fun v s₁ => wpAny (model X.prog X.w) X.A (eval b X.env) (fun u s₂ => wpAny (model X.prog X.w) X.A (compareOp op v u) (EP X pins σ Q) X.xe s₂) X.xe s₁) X.xe s
theorem nobehind (b : Expr) {op : CmpOp} (h : op ≠ .In) (h2 : op ≠ .NotIn) : behindInMarks op b = false := by
  have e1 : (op == CmpOp.In) = false := by cases op <;> first | rfl | exact absurd rfl h
  have e2 : (op == CmpOp.NotIn) = false := by cases op <;> first | rfl | exact absurd rfl h2
  cases b <;> simp [behindInMarks, e1, e2]
/-- a comparison as a value, as a test -/
noncomputable def tB (t : TE) : TT := fun σ H Q => t σ H fun x H1 => ∃ c, x = .bl c ∧ Q c H1
theorem pt_cmp {op : CmpOp} {t : TE} (h : PC X op a b t) (h1 : behindInMarks op b = false := by first | exact nobehind _ (by decide) (by decide) | rfl) : PT X (.Compare a [op] [b] pos) (tB t) := by
  intro pins s σ H Q I hw
  refine wpAny_isTrue_Compare1 (thn (h pins s σ H _ I hw) fun v s1 h1 => thn h1 fun u s2 h2 => thn h2 fun c s3 ⟨x, H1, I1, r1, q1⟩ => ?_) h1
  obtain ⟨d, rfl, q⟩ := q1
  cases r1
  exact wpAny_truthy_bool ⟨H1, I1, q⟩
variable {tA tB' : TT} {rest : List Expr}
noncomputable def tAnd (t u : TT) : TT := fun σ H Q => t σ H fun c H1 => if c = true then u σ H1 Q else Q false H1
noncomputable def tOr (t u : TT) : TT := fun σ H Q => t σ H fun c H1 => if c = true then Q true H1 else u σ H1 Q
noncomputable def tNot (t : TT) : TT := fun σ H Q => t σ H fun c H1 => Q (!c) H1
theorem pw_and1 (ha : PT X a tA) : PW X (.BoolOp .And [a] pos) tA := by
  intro wh pins s σ H Q I h
  refine isTrue_and (thn (ha pins s σ H Q I h) fun c s1 e => ?_)
  cases c with
  | true => exact isTrue_and_nil e
  | false => exact e
theorem pw_or1 (ha : PT X a tA) : PW X (.BoolOp .Or [a] pos) tA := by
  intro wh pins s σ H Q I h
  refine isTrue_or (thn (ha pins s σ H Q I h) fun c s1 e => ?_)
  cases c with
  | false => exact isTrue_or_nil e
  | true => exact e
theorem pw_and (ha : PT X a tA) (hb : PW X (.BoolOp .And (b :: rest) pos) tB') : PW X (.BoolOp .And (a :: b :: rest) pos) (tAnd tA tB') := by
  intro wh pins s σ H Q I h
  refine isTrue_and (thn (ha pins s σ H _ I h) fun c s1 ⟨H1, I1, q1⟩ => ?_)
  cases c with
  | true => exact hb wh pins s1 σ H1 Q I1 q1
  | false => exact ⟨H1, I1, q1⟩
theorem pw_or (ha : PT X a tA) (hb : PW X (.BoolOp .Or (b :: rest) pos) tB') : PW X (.BoolOp .Or (a :: b :: rest) pos) (tOr tA tB') := by
  intro wh pins s σ H Q I h
  refine isTrue_or (thn (ha pins s σ H _ I h) fun c s1 ⟨H1, I1, q1⟩ => ?_)
  cases c with
  | true => exact ⟨H1, I1, q1⟩
  | false => exact hb wh pins s1 σ H1 Q I1 q1
theorem pt_not (ha : PT X a tA) : PT X (.UnaryOp .Not a pos) (tNot tA) := by
  intro pins s σ H Q I h
  exact isTrue_not (ha pins s σ H (fun c H1 => Q (!c) H1) I h)
noncomputable def tOrV (ta tb : TE) : TE := fun σ H Q => ta σ H fun x H1 => ∃ c, x = .bl c ∧ if c = true then Q (.bl true) H1 else tb σ H1 Q
noncomputable def tNotV (ta : TE) : TE := fun σ H Q => ta σ H fun x H1 => ∃ c, x = .bl c ∧ Q (.bl (!c)) H1
theorem pe_one {op} {t : TE} (h : PE X a t) : PE X (.BoolOp op [a] pos) t := fun pins s σ H Q I hw => BoolOp_one (h pins s σ H Q I hw)
theorem pe_or (ha : PE X a ta) (hb : PE X (.BoolOp .Or (b :: rest) pos) tb) : PE X (.BoolOp .Or (a :: b :: rest) pos) (tOrV ta tb) := by
  intro pins s σ H Q I h
  refine BoolOp_or (thn (ha pins s σ H _ I h) fun v s1 ⟨x, H1, I1, r1, q1⟩ => ?_)
  obtain ⟨c, rfl, q1⟩ := q1
  cases r1
  refine wpAny_truthy_bool ?_
  cases c with
  | false => exact hb pins s1 σ H1 Q I1 q1
  | true => exact ⟨.bl true, H1, I1, rfl, q1⟩
theorem pe_not (ha : PE X a ta) : PE X (.UnaryOp .Not a pos) (tNotV ta) := by
  intro pins s σ H Q I h
  refine UnaryOp_ (thn (ha pins s σ H _ I h) fun v s1 ⟨x, H1, I1, r1, q1⟩ => ?_)
  obtain ⟨c, rfl, q1⟩ := q1
  cases r1
  exact not_of (wpAny_truthy_bool ⟨.bl (!c), H1, I1, rfl, q1⟩)
end
end L2
namespace L2
open PySem PySem.Spec PyProof.Rows
noncomputable def SqL (K : PySem.W.Frag) (H : Hp) (a : Addr) (xs : List V) : Prop :=
  Rd H a (.lst xs) ∨
    ∃ (o : Obj) (its : Array Value) (n : Nat), K.lookup a = some o ∧ o.cls = .type "list" ∧ o.dict = none ∧ o.data = .seq its n ∧ its.size ≤ sizeLine ∧ Vals xs its.toList
noncomputable def SqT (K : PySem.W.Frag) (H : Hp) (a : Addr) (xs : List V) : Prop :=
  Rd H a (.tup xs) ∨
    ∃ (o : Obj) (its : Array Value) (n : Nat), K.lookup a = some o ∧ o.cls = .type "tuple" ∧ o.data = .seq its n ∧ its.size ≤ sizeLine ∧ Vals xs its.toList
noncomputable def absV : Value → Option V
  | .none => some .non
  | .bool b => some (.bl b)
  | .int i _ => some (.int i)
  | .str x _ => some (.str x)
  | .bytes b _ => some (.byt b)
  | .float b _ => some (.flt b)
  | .ref a => some (.ref a)
  | .type n => some (.ty n)
  | _ => none
theorem RelV.abs {x : V} {u : Value} (r : RelV x u) : absV u = some x := by
  cases x with
  | non => cases r; rfl
  | bl _ => cases r; rfl
  | int _ => obtain ⟨t, rfl⟩ := r; rfl
  | str _ => obtain ⟨t, rfl⟩ := r; rfl
  | byt _ => obtain ⟨t, rfl⟩ := r; rfl
  | flt _ => obtain ⟨t, rfl⟩ := r; rfl
  | ref _ => cases r; rfl
  | ty _ => cases r; rfl
theorem RelV.inj {x y : V} {u : Value} (r : RelV x u) (q : RelV y u) : x = y := Option.some.inj (r.abs.symm.trans q.abs)
theorem Vals.inj : ∀ {xs ys : List V} {us : List Value}, Vals xs us → Vals ys us → xs = ys
  | _, _, _, .nil, .nil => rfl
  | _, _, _, .cons r t, .cons r' t' => by rw [r.inj r', Vals.inj t t']
section
variable {X : Cx} {pins : List (Addr × Obj)} {σ : St} {H : Hp} {s : Shared} {a : Addr} {xs ys : List V}
theorem SqL.of {K : PySem.W.Frag} (h : H a = some (.lst xs)) : SqL K H a xs := .inl (.inl h)
theorem SqT.of {K : PySem.W.Frag} (h : H a = some (.tup xs)) : SqT K H a xs := .inl (.inl h)
theorem Inv.list (I : Inv X pins σ H s) (h : SqL X.K H a xs) : ∃ its : List Value, Vals xs its ∧ PlainL s.heap a its.toArray ∧ xs.length ≤ sizeLine := by
  rcases h with h | ⟨o, its, n, hk, hc, hd, hs, hz, r⟩
  · obtain ⟨z, its, n, r, e⟩ := h.ok I.hok
    exact ⟨its, r, ⟨_, n, e, rfl, rfl, rfl⟩, z⟩
  · refine ⟨its.toList, r, ⟨o, n, I.kIn a o hk, hc, hd, by simpa using hs⟩, ?_⟩
    have e := r.length
    simp only [Array.length_toList] at e
    lia
theorem Inv.tuple (I : Inv X pins σ H s) (h : SqT X.K H a xs) : ∃ its : List Value, Vals xs its ∧ IsTup s.heap a its.toArray ∧ xs.length ≤ sizeLine := by
  rcases h with h | ⟨o, its, n, hk, hc, hs, hz, r⟩
  · obtain ⟨z, its, r, p⟩ := h.ok I.hok
    exact ⟨its, r, p.tup, z⟩
  · refine ⟨its.toList, r, ⟨o, I.kIn a o hk, hc, n, by simpa using hs⟩, ?_⟩
    have e := r.length
    simp only [Array.length_toList] at e
    lia
theorem Inv.list_inj (I : Inv X pins σ H s) (h : SqL X.K H a xs) (h' : SqL X.K H a ys) : xs = ys := by
  obtain ⟨its, r, ⟨o, n, e, _, _, d⟩, _⟩ := I.list h
  obtain ⟨its', r', ⟨o', n', e', _, _, d'⟩, _⟩ := I.list h'
  rw [e] at e'; cases e'
  rw [d] at d'
  injection d' with d1 _
  have : its = its' := by simpa using congrArg Array.toList d1
  subst this
  exact r.inj r'
theorem Inv.tuple_inj (I : Inv X pins σ H s) (h : SqT X.K H a xs) (h' : SqT X.K H a ys) : xs = ys := by
  obtain ⟨its, r, ⟨o, e, _, n, d⟩, _⟩ := I.tuple h
  obtain ⟨its', r', ⟨o', e', _, n', d'⟩, _⟩ := I.tuple h'
  rw [e] at e'; cases e'
  rw [d] at d'
  injection d' with d1 _
  have : its = its' := by simpa using congrArg Array.toList d1
  subst this
  exact r.inj r'
end
noncomputable abbrev Cx.wish (X : Cx) (E : Value → Shared → Prop) : Cx := { X with xe := E }
/-- no exception leaves -/
noncomputable abbrev Cx.nox (X : Cx) : Cx := X.wish fun _ _ => False
theorem Cx.Ok.wish {X : Cx} (ok : X.Ok) (E : Value → Shared → Prop) : (X.wish E).Ok :=
  ⟨ok.mod, ok.kind, ok.glob, ok.blt, ok.above, ok.inj, ok.has, ok.cab, ok.hd, ok.frames, ok.stk, ok.exf, ok.bs, ok.bsz, ok.noex, ok.exfs, ok.funs, ok.frf⟩
theorem Cx.Ok.unwish {X : Cx} {E : Value → Shared → Prop} (ok : (X.wish E).Ok) : X.Ok :=
  ⟨ok.mod, ok.kind, ok.glob, ok.blt, ok.above, ok.inj, ok.has, ok.cab, ok.hd, ok.frames, ok.stk, ok.exf, ok.bs, ok.bsz, ok.noex, ok.exfs, ok.funs, ok.frf⟩
section
variable {X : Cx} {pins : List (Addr × Obj)} {σ : St} {H : Hp} {s : Shared} {E : Value → Shared → Prop}
theorem Inv.wish (I : Inv X pins σ H s) (E : Value → Shared → Prop) : Inv (X.wish E) pins σ H s := ⟨I.ok.wish E, I.os, I.bare, I.base, I.loc, I.cell, I.free, I.freeC, I.pin, I.hok, I.len⟩
theorem Inv.unwish (I : Inv (X.wish E) pins σ H s) : Inv X pins σ H s := ⟨I.ok.unwish, I.os, I.bare, I.base, I.loc, I.cell, I.free, I.freeC, I.pin, I.hok, I.len⟩
theorem SP.unwish {D : Ends} {f : Flow} {s' : Shared} (h : SP (X.wish E) pins D f s') : SP X pins D f s' := by
  cases f with
  | next => obtain ⟨σ', H', I, q⟩ := h; exact ⟨σ', H', I.unwish, q⟩
  | brk => obtain ⟨σ', H', I, q⟩ := h; exact ⟨σ', H', I.unwish, q⟩
  | cont => obtain ⟨σ', H', I, q⟩ := h; exact ⟨σ', H', I.unwish, q⟩
  | ret u => obtain ⟨v, σ', H', I, r, q⟩ := h; exact ⟨v, σ', H', I.unwish, r, q⟩
theorem PSs.nox {st : List Stmt} {t : TS} (h : PSs X.nox st t) : PSs X st t := fun pins s σ H D I hw =>
  wpAny_mono (h pins s σ H D (I.wish _) hw) (fun _ _ q => q.unwish) fun _ _ z => False.elim z
end
section
variable {X : Cx} {st : Stmt} {rest : List Stmt} {t u : TS} {e : Expr} {te : TE} {pos : Pos}
noncomputable def tNext : TS := fun D σ H => D.nx σ H
noncomputable def tSeq (t u : TS) : TS := fun D σ H => t { D with nx := u D } σ H
theorem pss_nil : PSs X [] tNext := fun _ _ σ H _ I h => wpAny_execs_nil ⟨σ, H, I, h⟩
theorem pss_cons (h1 : PS X st t) (h2 : PSs X rest u) : PSs X (st :: rest) (tSeq t u) := by
  intro pins s σ H D I h
  refine wpAny_execs_cons (thn (h1 pins s σ H { D with nx := u D } I h) fun f s1 q => ?_)
  cases f with
  | next =>
    obtain ⟨σ', H', I', q⟩ := q
    exact h2 pins s1 σ' H' D I' q
  | ret v => exact q
  | brk => exact q
  | cont => exact q
theorem pss_one (h1 : PS X st t) : PSs X [st] t := by
  intro pins s σ H D I h
  refine wpAny_execs_cons (thn (h1 pins s σ H D I h) fun f s1 q => ?_)
  cases f with
  | next => exact wpAny_execs_nil q
  | ret v => exact q
  | brk => exact q
  | cont => exact q
/-- in a def's body nothing is shown -/
theorem Inv.quiet {pins : List (Addr × Obj)} {σ : St} {H : Hp} {s : Shared} (I : Inv X pins σ H s) : interactive X.env = false := by simp [interactive, I.ok.kind]
/-- an expression whose value is dropped -/
noncomputable def tDrop (te : TE) : TS := fun D σ H => te σ H fun _ H1 => D.nx σ H1
theorem ps_expr (he : PE X e te) (hs : swapsWith e none pos.line X.env = pure false := by rfl) : PS X (.Expr e pos) (tDrop te) := by
  intro pins s σ H D I h
  exact wpAny_Expr_any (thn (he pins s σ H _ I h) fun v s1 ⟨x, H1, I1, r1, q1⟩ => ⟨σ, H1, I1, q1⟩) I.quiet hs
noncomputable def tRet (te : TE) : TS := fun D σ H => te σ H D.rt
theorem ps_ret (he : PE X e te) : PS X (.Return (some e) pos) (tRet te) := by
  intro pins s σ H D I h
  exact wpAny_Return_some (thn (he pins s σ H _ I h) fun v s1 ⟨x, H1, I1, r1, q1⟩ => ⟨x, σ, H1, I1, r1, q1⟩)
noncomputable def tIfS (c : TT) (t u : TS) : TS := fun D σ H => c σ H fun b H1 => if b = true then t D σ H1 else u D σ H1
theorem ps_if {c : Expr} {a b : List Stmt} {tc : TT} (hc : PT X c tc) (ha : PSs X a t) (hb : PSs X b u) : PS X (.If c a b pos) (tIfS tc t u) := by
  intro pins s σ H D I h
  refine wpAny_If (thn (hc pins s σ H _ I h) fun d s1 ⟨H1, I1, q1⟩ => ?_)
  cases d with
  | true => exact ha pins s1 σ H1 D I1 q1
  | false => exact hb pins s1 σ H1 D I1 q1
end
noncomputable abbrev TG := V → St → Hp → (St → Hp → Prop) → Prop
noncomputable abbrev TGs := List V → St → Hp → (St → Hp → Prop) → Prop
noncomputable def PG (X : Cx) (target : Expr) (t : TG) : Prop :=
  ∀ (pins : List (Addr × Obj)) (s : Shared) (σ : St) (H : Hp) (v : V) (u : Value) (Q : St → Hp → Prop), Inv X pins σ H s → RelV v u → t v σ H Q →
    wpAny (model X.prog X.w) X.A (assign target X.env u) (fun _ s' => ∃ σ' H', Inv X pins σ' H' s' ∧ Q σ' H') X.xe s
/-- several targets, one after another -/
noncomputable def PGs (X : Cx) (ts : List Expr) (t : TGs) : Prop :=
  ∀ (pins : List (Addr × Obj)) (s : Shared) (σ : St) (H : Hp) (vs : List V) (us : List Value) (Q : St → Hp → Prop), Inv X pins σ H s → Vals vs us → t vs σ H Q →
    wpAny (model X.prog X.w) X.A (assignInOrder ((assignEach ts X.env).map (·.2)) us) (fun _ s' => ∃ σ' H', Inv X pins σ' H' s' ∧ Q σ' H') X.xe s
/-- o[i] = v, by values -/
noncomputable abbrev TSet := V → V → V → Hp → (Hp → Prop) → Prop
noncomputable def PSet (X : Cx) (t : TSet) : Prop :=
  ∀ (pins : List (Addr × Obj)) (s : Shared) (σ : St) (H : Hp) (o i v : V) (ov iv u : Value) (Q : Hp → Prop), Inv X pins σ H s → RelV o ov → RelV i iv → RelV v u → t o i v H Q →
    wpAny (model X.prog X.w) X.A (setItem ov iv u) (fun _ s' => ∃ H', Inv X pins σ H' s' ∧ Q H') X.xe s
section
variable {X : Cx} {pos : Pos}
noncomputable def gName (i : Nat) : TG := fun v σ H Q => Q (σ.set i (some v)) H
theorem pg_name {i : Nat} {x : Str} (hN : X.N.Nodup) (hi : X.N[i]? = some x) (hx : Loc X.env.scope x) (hf : X.fn x = true ∨ X.env.scope.names.lookup x = some .local := by first | exact .inl rfl | exact .inr rfl | assumption) : PG X (.Name x pos) (gName i) := by
  intro pins s σ H v u Q I r h
  exact wpAny_assign_Name (store_ok I hN hi hx r (fun s' I' => ⟨_, H, I', h⟩) hf)
noncomputable def gNil : TGs := fun vs σ H Q => vs = [] ∧ Q σ H
noncomputable def gCons (t : TG) (u : TGs) : TGs := fun vs σ H Q => ∃ v r, vs = v :: r ∧ t v σ H fun σ' H' => u r σ' H' Q
theorem pgs_nil : PGs X [] gNil := by
  intro pins s σ H vs us Q I r h
  obtain ⟨e, h⟩ := h
  subst e
  cases r
  exact assignInOrder_nil ⟨σ, H, I, h⟩
theorem pgs_cons {e : Expr} {es : List Expr} {t : TG} {u : TGs} (h1 : PG X e t) (h2 : PGs X es u)
    (hs : (assignEach (e :: es) X.env).map (·.2) = assign e X.env :: (assignEach es X.env).map (·.2) := by rfl) : PGs X (e :: es) (gCons t u) := by
  intro pins s σ H vs us Q I r h
  obtain ⟨v, vr, e1, h⟩ := h
  subst e1
  cases r with
  | cons r rr =>
    rw [hs]
    refine assignInOrder_cons (thn (h1 pins s σ H _ _ _ I r h) fun _ s1 ⟨σ1, H1, I1, q1⟩ => ?_)
    exact h2 pins s1 σ1 H1 _ _ Q I1 rr q1
/-- (a, b, ..) = a tuple of that length -/
noncomputable def gTup (K : PySem.W.Frag) (n : Nat) (t : TGs) : TG := fun v σ H Q => ∃ a xs, v = .ref a ∧ SqT K H a xs ∧ xs.length = n ∧ t xs σ H Q
theorem pg_tup {es : List Expr} {k : Nat} {t : TGs} {n : Nat} (hc : X.calm = true) (h : PGs X es t)
    (hn : (assignEach es X.env).length = n := by rfl) (hst : (assignEach es X.env).findIdx? (·.1) = none := by rfl) : PG X (.Tuple es k pos) (gTup X.K n t) := by
  intro pins s σ H v u Q I r hw
  obtain ⟨a, xs, e1, hq, hl, hw⟩ := hw
  subst e1
  cases r
  obtain ⟨its, rv, ht, hz⟩ := I.tuple hq
  refine assign_Tuple_tuple (I.ok.hd hc) ht (by simp [hn, ← hl, rv.length]) hst fun h' hx => ?_
  have I1 : Inv X pins σ H { s with heap := h' } := I.kept (t' := s.toks) fun b o e => hx b o (Nat.ne_of_lt (Heap.lt_size e)) e
  exact h pins _ σ H xs _ Q I1 (by simpa using rv) hw
/-- o[i] = .. -/
noncomputable def gSub (to ti : TE) (t : TSet) : TG := fun v σ H Q => to σ H fun o H1 => ti σ H1 fun i H2 => t o i v H2 fun H3 => Q σ H3
theorem pg_sub {o i : Expr} {to ti : TE} {t : TSet} (ho : PE X o to) (hi : PE X i ti) (hs : PSet X t)
    (ha : ∀ v, assign (.Subscript o i pos) X.env v = (do
      let ov ← holding [v] (eval o X.env)
      let iv ← holding [v, ov] (eval i X.env)
      standAt pos
      holding [v, ov, iv] (setItem ov iv v)
      release [v, ov, iv] []) := by intro _; rfl) : PG X (.Subscript o i pos) (gSub to ti t) := by
  intro pins s σ H v u Q I r h
  rw [ha]
  refine wpAny_bind (wpAny_holding (thn (ho pins s σ H _ I h) fun ov s1 ⟨x, H1, I1, r1, q1⟩ => ?_))
  refine wpAny_bind (wpAny_holding (thn (hi pins s1 σ H1 _ I1 q1) fun iv s2 ⟨y, H2, I2, r2, q2⟩ => ?_))
  refine wpAny_bind (wpAny_standAt (wpAny_bind (wpAny_holding (thn (hs pins s2 σ H2 x y v ov iv u _ I2 r1 r2 r q2) fun _ s3 ⟨H3, I3, q3⟩ => ?_))))
  exact wpAny_release ⟨σ, H3, I3, q3⟩
/-- target = value -/
noncomputable def tAsg (te : TE) (g : TG) : TS := fun D σ H => te σ H fun x H1 => g x σ H1 D.nx
theorem ps_asg {tg e : Expr} {te : TE} {g : TG} (he : PE X e te) (hg : PG X tg g) (hs : swapsWithSole [tg] e pos.line X.env = pure false := by rfl) (hw : swappedStores [tg] e X.env = pure none := by rfl)
    (h1 : (assignEach [tg] X.env).map (·.2) = [assign tg X.env] := by rfl) : PS X (.Assign [tg] e pos) (tAsg te g) := by
  intro pins s σ H D I h
  refine wpAny_Assign_stores (thn (he pins s σ H _ I h) fun v s1 ⟨x, H1, I1, r1, q1⟩ => ?_) hs hw
  rw [h1]
  exact thn (hg pins s1 σ H1 x v _ I1 r1 q1) fun _ s2 q => q
/-- name = value -/
theorem ps_set {i : Nat} {x : Str} {e : Expr} {te : TE} {pos' : Pos} (hN : X.N.Nodup) (hi : X.N[i]? = some x) (hx : Loc X.env.scope x) (he : PE X e te) (hs : swapsWith e (some (.Name x pos')) pos.line X.env = pure false := by rfl) (hf : X.fn x = true ∨ X.env.scope.names.lookup x = some .local := by first | exact .inl rfl | exact .inr rfl | assumption) :
    PS X (.Assign [.Name x pos'] e pos) (tAsg te (gName i)) := by
  intro pins s σ H D I h
  refine wpAny_Assign_Name (thn (he pins s σ H _ I h) fun v s1 ⟨y, H1, I1, r1, q1⟩ => ?_) hs
  exact store_ok I1 hN hi hx r1 (fun s2 I2 => ⟨_, H1, I2, q1⟩) hf
end
section
variable {X : Cx} {pos : Pos}
/-- the invariant W with its measure -/
noncomputable def tWhile (c : TT) (tb : TS) : TS := fun D σ H => ∃ W : Nat → St → Hp → Prop, (∃ m, W m σ H) ∧ ∀ m σ H, W m σ H →
  c σ H fun b H1 => if b = true then ∃ N : St → Hp → Prop, (∀ σ' H', N σ' H' → ∃ m', m' < m ∧ W m' σ' H') ∧ tb { D with nx := N, ct := N, bk := D.nx } σ H1 else D.nx σ H1
theorem ps_while {c : Expr} {body : List Stmt} {tc : TT} {tb : TS} (hp : PassesOwn (model X.prog X.w) X.A X.env X.xe) (hc : PT X c tc) (hb : PSs X body tb) : PS X (.While c body [] pos) (tWhile tc tb) := by
  intro pins s σ H D I h
  obtain ⟨W, ⟨m0, w0⟩, turn⟩ := h
  refine wpAny_While (codeAny_whileLoop (fun n s' => ∃ σ' H', Inv X pins σ' H' s' ∧ W n σ' H') ?_ m0 ⟨σ, H, I, w0⟩)
  rintro n s1 ⟨σ1, H1, I1, w1⟩
  refine wpAny_passesOwn hp (thn (hc pins s1 σ1 H1 _ I1 (turn n σ1 H1 w1)) fun b s2 ⟨H2, I2, q2⟩ => ?_)
  cases b with
  | true =>
    obtain ⟨N, hN, q2⟩ := q2
    rw [if_pos rfl]
    refine wpAny_passesOwn hp (thn (hb pins s2 σ1 H2 _ I2 q2) fun f s3 q3 => ?_)
    cases f with
    | next =>
      obtain ⟨σ3, H3, I3, n3⟩ := q3
      obtain ⟨m', hm, w3⟩ := hN σ3 H3 n3
      exact ⟨m', hm, σ3, H3, I3, w3⟩
    | cont =>
      obtain ⟨σ3, H3, I3, n3⟩ := q3
      obtain ⟨m', hm, w3⟩ := hN σ3 H3 n3
      exact ⟨m', hm, σ3, H3, I3, w3⟩
    | brk => exact q3
    | ret v => exact q3
  | false =>
    rw [if_neg Bool.false_ne_true]
    exact wpAny_execs_nil ⟨σ1, H2, I2, q2⟩
end
/-- at turn i: it yields x (the heap may grow), or it stops -/
structure It where
  go : Nat → Hp → Prop
  yld : Nat → Hp → V → Hp → Prop
  stop : Nat → Hp → Prop
/-- the iterator's own objects may turn: they are not the frame's, not pinned, younger than the entry (or a comprehension's own) -/
noncomputable def FpOk (X : Cx) (pins : List (Addr × Obj)) (H : Hp) (b : Addr) : Prop :=
  H b = none ∧ b ≠ X.env.locals ∧ b ∉ X.fs ∧ (b ∈ X.ex ∨ X.s₀.heap.objs.size ≤ b) ∧ (∀ x c, X.env.cells.lookup x = some c → c ≠ b) ∧ ∀ p ∈ X.pn ++ pins, p.1 ≠ b
theorem Inv.fpOk {X : Cx} {pins : List (Addr × Obj)} {σ : St} {H H' : Hp} {s : Shared} {b : Addr} (I : Inv X pins σ H s) (hb : s.heap.objs.size ≤ b) (hn : H' b = none) : FpOk X pins H' b := by
  refine ⟨hn, Nat.ne_of_gt (Nat.lt_of_lt_of_le I.lt hb), I.nofs hb, .inr (Nat.le_trans I.sz hb), fun x c e z => ?_, fun p hp z => ?_⟩
  · obtain ⟨v, q⟩ := I.cell x c e
    exact absurd (Nat.lt_of_lt_of_le q.lt (by rw [z]; exact hb)) (Nat.lt_irrefl _)
  · exact absurd (Nat.lt_of_lt_of_le (Heap.lt_size (I.pin p hp).1) (by rw [z]; exact hb)) (Nat.lt_irrefl _)
structure Turn (P : Program) (w : World) (K : PySem.W.Frag) (tg : Expr) (J : It) (fp : List Addr) (it : Addr) (tn : Nat → Heap → Prop) : Prop where
  mem : it ∈ fp
  obj : ∀ i h, tn i h → ∀ b ∈ fp, ∃ o, h.get? b = some o ∧ ∀ v, o.data ≠ .cell v
  keep : ∀ i h h', tn i h → (∀ b ∈ fp, ∀ o, h.get? b = some o → h'.get? b = some o) → tn i h'
  item : ∀ (X : Cx), X.prog = P → X.w = w → X.K = K → X.calm = true → ∀ (i : Nat) (pins : List (Addr × Obj)) (s : Shared) (σ : St) (H : Hp) (E : Value → Shared → Prop), Inv X pins σ H s → (∀ b ∈ fp, FpOk X pins H b) → tn i s.heap → J.go i H →
    wpAny (model P w) X.A (pyNext (.ref it)) (fun r s1 => ∃ u, r = some u ∧
      wpAny (model P w) X.A (letOwnedTupleGo tg (.ref it) u) (fun _ s2 => ∃ x H', Inv X pins σ H' s2 ∧ RelV x u ∧ J.yld i H x H' ∧ tn (i + 1) s2.heap ∧ ∀ b ∈ fp, H' b = none) E s1) E s
  done : ∀ (X : Cx), X.prog = P → X.w = w → X.K = K → X.calm = true → ∀ (i : Nat) (pins : List (Addr × Obj)) (s : Shared) (σ : St) (H : Hp) (E : Value → Shared → Prop), Inv X pins σ H s → (∀ b ∈ fp, FpOk X pins H b) → tn i s.heap → J.stop i H →
    wpAny (model P w) X.A (pyNext (.ref it)) (fun r s1 => r = none ∧ Inv X pins σ H s1) E s
  self : ∀ (A : Around) (i : Nat) (s : Shared) (Q : Value → Shared → Prop) (E : Value → Shared → Prop), tn i s.heap → Q (.ref it) s → wpAny (model P w) A (pyIter (.ref it)) Q E s
noncomputable abbrev TI := St → Hp → (It → Hp → Prop) → Prop
/-- an iterator has come -/
noncomputable def PIE (X : Cx) (pins : List (Addr × Obj)) (σ : St) (tg : Expr) (R : It → Hp → Prop) (itv : Value) (s2 : Shared) : Prop :=
  ∃ (it : Addr) (fp : List Addr) (tn : Nat → Heap → Prop) (J : It) (H' : Hp), itv = .ref it ∧ Inv X pins σ H' s2 ∧ Turn X.prog X.w X.K tg J fp it tn ∧ tn 0 s2.heap ∧ (∀ b ∈ fp, FpOk X pins H' b) ∧ R J H'
noncomputable def PI (X : Cx) (tg iter : Expr) (wi : TI) : Prop :=
  ∀ (pins : List (Addr × Obj)) (s : Shared) (σ : St) (H : Hp) (R : It → Hp → Prop), Inv X pins σ H s → wi σ H R →
    wpAny (model X.prog X.w) X.A (eval iter X.env) (fun v s1 => wpAny (model X.prog X.w) X.A (pyIter v) (PIE X pins σ tg R) X.xe s1) X.xe s
/-- the step ahead of the store is nothing for an iterator that keeps no tuple -/
theorem go_of {M : Model} {A : Around} {E : Value → Shared → Prop} {s : Shared} {tg : Expr} {it : Addr} {u : Value} {o : Obj} {n : String} {vs : Array Value} {Q : Unit → Shared → Prop} (ho : s.heap.get? it = some o) (hc : o.cls = .type n) (hd : o.data = .fields vs)
    (hn : ["enumerate", "zip", "dict_itemiterator", "dict_reverseitemiterator", "odict_iterator", "itertools.zip_longest", "itertools.pairwise"].contains n = false) (hQ : Q () s) : wpAny M A (letOwnedTupleGo tg (.ref it) u) Q E s := by
  unfold letOwnedTupleGo
  cases tg <;> first
    | exact wpAny_pure hQ
    | (cases u <;> first
        | exact wpAny_pure hQ
        | (refine wpAny_bind (wpAny_load ho ?_)
           rw [hc, hd]
           show wpAny M A (if (["enumerate", "zip", "dict_itemiterator", "dict_reverseitemiterator", "odict_iterator", "itertools.zip_longest", "itertools.pairwise"].contains n && vs[0]? == some (rawInt _)) = true then _ else _) Q E s
           rw [if_neg (by intro h; rw [hn, Bool.false_and] at h; cases h)]
           exact wpAny_pure hQ))
/-- the list at a, as it stands at each turn (a loop may append to it) -/
noncomputable def Itl (K : PySem.W.Frag) (a : Addr) : It :=
  ⟨fun i H => ∃ xs x, SqL K H a xs ∧ xs[i]? = some x, fun i H x H' => H' = H ∧ ∀ xs, SqL K H a xs → xs[i]? = some x, fun i H => ∃ xs, SqL K H a xs ∧ xs.length ≤ i⟩
noncomputable def Itt (K : PySem.W.Frag) (a : Addr) : It :=
  ⟨fun i H => ∃ xs x, SqT K H a xs ∧ xs[i]? = some x, fun i H x H' => H' = H ∧ ∀ xs, SqT K H a xs → xs[i]? = some x, fun i H => ∃ xs, SqT K H a xs ∧ xs.length ≤ i⟩
/-- lo, lo + 1, .. (n of them) -/
noncomputable def Itr (lo : Int) (n : Nat) : It := ⟨fun i _ => i < n, fun i H x H' => H' = H ∧ x = .int (lo + i), fun i _ => n ≤ i⟩
theorem turn_list {P : Program} {w : World} {K : PySem.W.Frag} {tg : Expr} (a it : Addr) : Turn P w K tg (Itl K a) [it] it (fun i h => h.IsListIter it a i) where
  mem := by simp
  obj := fun i h st b hb => by
    have e : b = it := by simpa using hb
    subst e
    obtain ⟨o, e, c, d⟩ := st
    exact ⟨o, e, fun v z => by rw [d] at z; cases z⟩
  keep := fun i h h' st k => st.at fun o e => k it (by simp) o e
  item := by
    intro X hP hw hK hc i pins s σ H E I hf st hg
    subst hP hw hK
    obtain ⟨xs, x, hq, hx⟩ := hg
    obtain ⟨its, rv, p, hz⟩ := I.list hq
    obtain ⟨u, hu, ru⟩ := rv.get hx
    obtain ⟨f0, f1, f2, f3, f4, f5⟩ := hf it (by simp)
    refine wpAny_pyNext_list_item st p.isList (x := u) (by simpa using hu) fun h' st' sb => ?_
    have I1 : Inv X pins σ H { s with heap := h' } := I.turned (t' := s.toks) (fun b o hb e => (sb.2 b hb).trans e) f0 f1 f3 f4 f5
    obtain ⟨o, e, c, d⟩ := id st'
    exact ⟨u, rfl, go_of (s := { s with heap := h' }) e c d (by decide) ⟨x, H, I1, ru, ⟨rfl, fun ys hy => by rw [I.list_inj hy hq]; exact hx⟩, st', fun b hb => (hf b hb).1⟩⟩
  done := by
    intro X hP hw hK hc i pins s σ H E I hf st hg
    subst hP hw hK
    obtain ⟨xs, hq, hx⟩ := hg
    obtain ⟨its, rv, p, hz⟩ := I.list hq
    obtain ⟨f0, f1, f2, f3, f4, f5⟩ := hf it (by simp)
    have hl := rv.length
    exact wpAny_pyNext_list_end (I.ok.hd hc) st p.isList (by simp; lia) fun h' eb => ⟨rfl, I.turned (t' := s.toks) (fun b o hb e => eb b o hb e) f0 f1 f3 f4 f5⟩
  self := fun _ _ _ _ _ st h => wpAny_pyIter_listiter st h
theorem turn_tuple {P : Program} {w : World} {K : PySem.W.Frag} {tg : Expr} (a it : Addr) : Turn P w K tg (Itt K a) [it] it (fun i h => h.IsTupleIter it a i) where
  mem := by simp
  obj := fun i h st b hb => by
    have e : b = it := by simpa using hb
    subst e
    obtain ⟨o, e, c, d⟩ := st
    exact ⟨o, e, fun v z => by rw [d] at z; cases z⟩
  keep := fun i h h' st k => st.at fun o e => k it (by simp) o e
  item := by
    intro X hP hw hK hc i pins s σ H E I hf st hg
    subst hP hw hK
    obtain ⟨xs, x, hq, hx⟩ := hg
    obtain ⟨its, rv, p, hz⟩ := I.tuple hq
    obtain ⟨u, hu, ru⟩ := rv.get hx
    obtain ⟨f0, f1, f2, f3, f4, f5⟩ := hf it (by simp)
    refine wpAny_pyNext_tuple_item st (show s.heap.IsTuple a its.toArray from p) (x := u) (by simpa using hu) fun h' st' sb => ?_
    have I1 : Inv X pins σ H { s with heap := h' } := I.turned (t' := s.toks) (fun b o hb e => (sb.2 b hb).trans e) f0 f1 f3 f4 f5
    obtain ⟨o, e, c, d⟩ := id st'
    exact ⟨u, rfl, go_of (s := { s with heap := h' }) e c d (by decide) ⟨x, H, I1, ru, ⟨rfl, fun ys hy => by rw [I.tuple_inj hy hq]; exact hx⟩, st', fun b hb => (hf b hb).1⟩⟩
  done := by
    intro X hP hw hK hc i pins s σ H E I hf st hg
    subst hP hw hK
    obtain ⟨xs, hq, hx⟩ := hg
    obtain ⟨its, rv, p, hz⟩ := I.tuple hq
    obtain ⟨f0, f1, f2, f3, f4, f5⟩ := hf it (by simp)
    have hl := rv.length
    exact wpAny_pyNext_tuple_end (I.ok.hd hc) st (show s.heap.IsTuple a its.toArray from p) (by simp; lia) fun h' eb => ⟨rfl, I.turned (t' := s.toks) (fun b o hb e => eb b o hb e) f0 f1 f3 f4 f5⟩
  self := fun _ _ _ _ _ st h => wpAny_pyIter_tupleiter st h
theorem turn_range {P : Program} {w : World} {K : PySem.W.Frag} {tg : Expr} (it : Addr) (lo : Int) (n : Nat) : Turn P w K tg (Itr lo n) [it] it (fun i h => IsRangeIter h it (lo + (i : Nat) * 1) ((n : Int) - (i : Nat)) 1) where
  mem := by simp
  obj := fun i h st b hb => by
    have e : b = it := by simpa using hb
    subst e
    exact ⟨_, st, fun v z => by
      have z' : Data.fields _ = Data.cell v := z
      cases z'⟩
  keep := fun i h h' st k => k it (by simp) _ st
  item := by
    intro X hP hw hK hc i pins s σ H E I hf st hg
    subst hP hw hK
    obtain ⟨f0, f1, f2, f3, f4, f5⟩ := hf it (by simp)
    have W := Walks.range (prog := X.prog) (w := X.w) (I.ok.hd hc) it lo 1 n
    refine W.item i s _ _ hg st fun v h' tk hv st' kk => ?_
    obtain ⟨t, rfl⟩ := hv
    have I1 : Inv X pins σ H { s with heap := h', toks := tk } := I.turned (fun b o hb e => kk b o (by simpa using hb) e) f0 f1 f3 f4 f5
    refine ⟨_, rfl, go_of (s := { s with heap := h', toks := tk }) (n := "range_iterator") st' rfl rfl (by decide) ⟨.int (lo + i), H, I1, ⟨t, ?_⟩, ⟨rfl, rfl⟩, st', fun b hb => (hf b hb).1⟩⟩
    rw [Int.mul_one]
  done := by
    intro X hP hw hK hc i pins s σ H E I hf st hg
    subst hP hw hK
    obtain ⟨f0, f1, f2, f3, f4, f5⟩ := hf it (by simp)
    exact wpAny_pyNext_range_end (I.ok.hd hc) st (by have : n ≤ i := hg; lia) fun h' eb => ⟨rfl, I.turned (t' := s.toks) (fun b o hb e => eb b o hb e) f0 f1 f3 f4 f5⟩
  self := fun _ _ _ _ _ st h => wpAny_pyIter_rangeiter st h
end L2
namespace L2
open PySem PySem.Spec PyProof.Rows
section
variable {X : Cx} {tg : Expr}
noncomputable def iList (K : PySem.W.Frag) (tl : TE) : TI := fun σ H R => tl σ H fun x H1 => ∃ a, x = .ref a ∧ (∃ xs, SqL K H1 a xs) ∧ R (Itl K a) H1
noncomputable def iTup (K : PySem.W.Frag) (tl : TE) : TI := fun σ H R => tl σ H fun x H1 => ∃ a, x = .ref a ∧ (∃ xs, SqT K H1 a xs) ∧ R (Itt K a) H1
theorem pi_list {l : Expr} {tl : TE} (hl : PE X l tl) : PI X tg l (iList X.K tl) := by
  intro pins s σ H R I h
  refine thn (hl pins s σ H _ I h) fun v s1 ⟨x, H1, I1, r1, q1⟩ => ?_
  obtain ⟨a, e, ⟨xs, hq⟩, q⟩ := q1
  subst e
  cases r1
  obtain ⟨its, rv, p, hz⟩ := I1.list hq
  refine wpAny_pyIter_list p.isList ?_
  refine ⟨s1.heap.objs.size, [s1.heap.objs.size], _, _, H1, rfl, I1.kept (t' := s1.toks) fun b o e => Heap.get?_push_of_some _ e, turn_list a _, ⟨_, Heap.get?_push_size _ rfl, rfl, rfl⟩, fun b hb => ?_, q⟩
  have e : b = s1.heap.objs.size := by simpa using hb
  subst e
  exact I1.fpOk (Nat.le_refl _) (I1.hok.fresh (Nat.le_refl _))
theorem pi_tup {l : Expr} {tl : TE} (hl : PE X l tl) : PI X tg l (iTup X.K tl) := by
  intro pins s σ H R I h
  refine thn (hl pins s σ H _ I h) fun v s1 ⟨x, H1, I1, r1, q1⟩ => ?_
  obtain ⟨a, e, ⟨xs, hq⟩, q⟩ := q1
  subst e
  cases r1
  obtain ⟨its, rv, p, hz⟩ := I1.tuple hq
  refine wpAny_pyIter_tuple (show s1.heap.IsTuple a its.toArray from p) ?_
  refine ⟨s1.heap.objs.size, [s1.heap.objs.size], _, _, H1, rfl, I1.kept (t' := s1.toks) fun b o e => Heap.get?_push_of_some _ e, turn_tuple a _, ⟨_, Heap.get?_push_size _ rfl, rfl, rfl⟩, fun b hb => ?_, q⟩
  have e : b = s1.heap.objs.size := by simpa using hb
  subst e
  exact I1.fpOk (Nat.le_refl _) (I1.hok.fresh (Nat.le_refl _))
/-- a range object just made, walked -/
theorem range_it {pins : List (Addr × Obj)} {σ : St} {H : Hp} {s : Shared} {R : It → Hp → Prop} {E : Value → Shared → Prop} {lo hi : Int} {t u v : Tok} {tk : Nat} (I : Inv X pins σ H s) (h1 : -(2 ^ 62) ≤ lo) (h2 : lo < 2 ^ 62) (h3 : -(2 ^ 62) ≤ hi) (h4 : hi < 2 ^ 62)
    (q : R (Itr lo (hi - lo).toNat) H) : wpAny (model X.prog X.w) X.A (pyIter (.ref s.heap.objs.size)) (PIE X pins σ tg R) E { s with heap := s.heap.push { cls := .type "range", data := .fields #[.int lo t, .int hi u, .int 1 v] }, toks := tk } := by
  refine wpAny_pyIter_range (IsRange.new ..) (small_one h1 h2 h3 h4) ?_
  have I1 : Inv X pins σ H { s with heap := s.heap.push { cls := .type "range", data := .fields #[.int lo t, .int hi u, .int 1 v] }, toks := tk } := I.kept fun b o e => Heap.get?_push_of_some _ e
  refine ⟨(s.heap.push { cls := .type "range", data := .fields #[.int lo t, .int hi u, .int 1 v] }).objs.size, [(s.heap.push { cls := .type "range", data := .fields #[.int lo t, .int hi u, .int 1 v] }).objs.size], _, _, H, rfl,
    I1.kept (t' := tk) fun b o e => Heap.get?_push_of_some _ e, turn_range _ lo (hi - lo).toNat, ?_, fun b hb => ?_, q⟩
  · have e1 : lo + ((0 : Nat) : Int) * 1 = lo := by simp
    have e2 : (((hi - lo).toNat : Nat) : Int) - ((0 : Nat) : Int) = Builtin.Range.rangeSize lo hi 1 := by rw [rangeSize_one]; split <;> lia
    show IsRangeIter _ _ (lo + ((0 : Nat) : Int) * 1) ((((hi - lo).toNat : Nat) : Int) - ((0 : Nat) : Int)) 1
    rw [e1, e2]
    exact Heap.get?_push_size _ rfl
  · have e : b = (s.heap.push { cls := .type "range", data := .fields #[.int lo t, .int hi u, .int 1 v] }).objs.size := by simpa using hb
    subst e
    exact I1.fpOk (Nat.le_refl _) (I1.hok.fresh (Nat.le_refl _))
noncomputable def iRng1 (ta : TA) : TI := fun σ H R => ta σ H fun vs H1 => ∃ j : Int, vs = [.int j] ∧ -(2 ^ 62) ≤ j ∧ j < 2 ^ 62 ∧ R (Itr 0 j.toNat) H1
theorem pi_range1 {a : Expr} {ta : TA} {p pos : Pos} (hg : Gl X "range") (hm : X.mg "range" = none) (ha : PA X [a] ta) (hs : starEach [a] X.env = [(false, eval a X.env)] := by rfl) : PI X tg (.Call (.Name "range" p) [a] [] pos) (iRng1 ta) := by
  intro pins s σ H R I h
  refine Call_ (ld_blt I hg hm boot_range (PyProof.Rows.callWith_type1 (thn (ha pos pins s σ H _ I h) fun us s1 ⟨vs, H1, I1, r1, q1⟩ => ?_) hs rfl))
  obtain ⟨j, e, q1, q2, q⟩ := q1
  subst e
  cases r1 with
  | cons r rr =>
    cases rr
    obtain ⟨t, rfl⟩ := r
    exact call_range_1 (range_it I1 (by lia) (by lia) q1 q2 (by simpa using q))
/-- W: the invariant by the turn and a measure; N: what the body is to reach -/
noncomputable def tFor (wi : TI) (g : TG) (tb : TS) : TS := fun D σ H => wi σ H fun J H1 => ∃ W : Nat → Nat → St → Hp → Prop, (∃ m, W 0 m σ H1) ∧ ∀ i m σ H, W i m σ H →
  (J.stop i H ∧ D.nx σ H) ∨ (J.go i H ∧ ∃ N : St → Hp → Prop, (∀ σ' H', N σ' H' → ∃ m', m' < m ∧ W (i + 1) m' σ' H') ∧ ∀ x H', J.yld i H x H' → g x σ H' fun σ2 H2 => tb { D with nx := N, ct := N, bk := D.nx } σ2 H2)
/-- the records at fp as they stand -/
noncomputable def pinsAt (fp : List Addr) (h : Heap) : List (Addr × Obj) := fp.filterMap fun b => (h.get? b).map fun o => (b, o)
theorem mem_pinsAt {fp : List Addr} {h : Heap} {b : Addr} {o : Obj} (hb : b ∈ fp) (e : h.get? b = some o) : (b, o) ∈ pinsAt fp h := List.mem_filterMap.mpr ⟨b, hb, by rw [e]; rfl⟩
theorem of_pinsAt {fp : List Addr} {h : Heap} {p : Addr × Obj} (hp : p ∈ pinsAt fp h) : p.1 ∈ fp ∧ h.get? p.1 = some p.2 := by
  obtain ⟨b, hb, e⟩ := List.mem_filterMap.mp hp
  cases q : h.get? b with
  | none => rw [q] at e; cases e
  | some o =>
    rw [q] at e
    have e' : (b, o) = p := Option.some.inj e
    subst e'
    exact ⟨hb, q⟩
theorem Inv.pinned {pins : List (Addr × Obj)} {σ : St} {H : Hp} {s : Shared} {fp : List Addr} (I : Inv X pins σ H s) (hf : ∀ b ∈ fp, FpOk X pins H b) (ho : ∀ b ∈ fp, ∃ o, s.heap.get? b = some o ∧ ∀ v, o.data ≠ .cell v) : Inv X (pins ++ pinsAt fp s.heap) σ H s :=
  I.pins_of fun p hp => (List.mem_append.mp hp).elim (fun z => I.pin p (List.mem_append_right _ z)) fun z => by
    obtain ⟨hb, e⟩ := of_pinsAt z
    obtain ⟨f0, f1, f2, _⟩ := hf p.1 hb
    obtain ⟨o, e', d⟩ := ho p.1 hb
    rw [e] at e'; cases e'
    exact ⟨e, f0, f1, f2, d⟩
theorem Inv.unpinned {pins pl : List (Addr × Obj)} {σ : St} {H : Hp} {s : Shared} (I : Inv X (pins ++ pl) σ H s) : Inv X pins σ H s := I.pins_of fun p hp => I.pin p (List.mem_append_right _ (List.mem_append_left _ hp))
theorem ps_for {iter : Expr} {body : List Stmt} {wi : TI} {g : TG} {tb : TS} {pos : Pos} (hp : PassesOwn (model X.prog X.w) X.A X.env X.xe) (hc : X.calm = true) (hi : PI X tg iter wi) (hg : PG X tg g) (hb : PSs X body tb)
    (hs : ∀ x, foldedSetIterable iter X.env x = pure x := by intro _; rfl) : PS X (.For tg iter body [] pos) (tFor wi g tb) := by
  intro pins s σ H D I h
  refine wpAny_For (thn (hi pins s σ H _ I h) fun v s1 h1 => thn h1 fun itv s2 h2 => ?_) hs
  obtain ⟨it, fp, tn, J, H2, e, I2, T, st2, f2, W, ⟨m0, w0⟩, turn⟩ := h2
  subst e
  -- what stays true of the iterator's objects through the loop
  have stat : ∀ {H' : Hp}, (∀ b ∈ fp, H' b = none) → ∀ b ∈ fp, FpOk X pins H' b := fun hn b hb => ⟨hn b hb, (f2 b hb).2⟩
  refine codeAny_forLoop_any (fun n s' => ∃ i σ' H', Inv X pins σ' H' s' ∧ tn i s'.heap ∧ (∀ b ∈ fp, H' b = none) ∧ W i n σ' H') ?_ m0 ⟨0, σ, H2, I2, st2, fun b hb => (f2 b hb).1, w0⟩
  rintro n s3 ⟨i, σ3, H3, I3, st3, fr3, w3⟩
  rcases turn i n σ3 H3 w3 with ⟨stop, qn⟩ | ⟨go, N, hN, step⟩
  · refine wpAny_passesOwn hp (thn (T.done X rfl rfl rfl hc i pins s3 σ3 H3 X.xe I3 (stat fr3) st3 stop) fun r s4 ⟨hr, I4⟩ => ?_)
    subst hr
    exact wpAny_execs_nil ⟨σ3, H3, I4, qn⟩
  · refine wpAny_passesOwn hp (thn (T.item X rfl rfl rfl hc i pins s3 σ3 H3 X.xe I3 (stat fr3) st3 go) fun r s4 ⟨u, hr, h4⟩ => ?_)
    subst hr
    refine wpAny_passesOwn hp (thn h4 fun _ s5 ⟨x, H5, I5, r5, y5, st5, fr5⟩ => ?_)
    have I5' := I5.pinned (stat fr5) (T.obj _ _ st5)
    refine wpAny_passesOwn hp (thn (hg _ s5 σ3 H5 x u _ I5' r5 (step x H5 y5)) fun _ s6 ⟨σ6, H6, I6, q6⟩ => ?_)
    refine wpAny_passesOwn hp (thn (hb _ s6 σ6 H6 _ I6 q6) fun f s7 q7 => ?_)
    have again : ∀ {σ7 : St} {H7 : Hp}, Inv X (pins ++ pinsAt fp s5.heap) σ7 H7 s7 → N σ7 H7 → ∃ m, m < n ∧ ∃ i σ' H', Inv X pins σ' H' s7 ∧ tn i s7.heap ∧ (∀ b ∈ fp, H' b = none) ∧ W i m σ' H' := fun {σ7 H7} I7 n7 => by
      obtain ⟨m', hm, w7⟩ := hN σ7 H7 n7
      refine ⟨m', hm, i + 1, σ7, H7, I7.unpinned, T.keep _ _ _ st5 fun b hb o e => (I7.pin (b, o) (List.mem_append_right _ (List.mem_append_right _ (mem_pinsAt hb e)))).1, fun b hb => ?_, w7⟩
      obtain ⟨o, e, d⟩ := T.obj _ _ st5 b hb
      exact (I7.pin (b, o) (List.mem_append_right _ (List.mem_append_right _ (mem_pinsAt hb e)))).2.1
    cases f with
    | next => obtain ⟨σ7, H7, I7, n7⟩ := q7; exact again I7 n7
    | cont => obtain ⟨σ7, H7, I7, n7⟩ := q7; exact again I7 n7
    | brk => obtain ⟨σ7, H7, I7, q7⟩ := q7; exact ⟨σ7, H7, I7.unpinned, q7⟩
    | ret v => obtain ⟨x7, σ7, H7, I7, r7, q7⟩ := q7; exact ⟨x7, σ7, H7, I7.unpinned, r7, q7⟩
end
end L2
namespace L2
open PySem PySem.Spec PyProof.Rows
noncomputable abbrev R2 := V → V → Hp → VK → Prop
/-- a two-place operation on values: f is binaryOp op, inplaceOp op or compareOp op -/
noncomputable def OpR (X : Cx) (f : Value → Value → Sem Value) (r : R2) : Prop :=
  ∀ (pins : List (Addr × Obj)) (s : Shared) (σ : St) (H : Hp) (x y : V) (v u : Value) (Q : VK), Inv X pins σ H s → RelV x v → RelV y u → r x y H Q →
    wpAny (model X.prog X.w) X.A (f v u) (EP X pins σ Q) X.xe s
/-- a one-place operation -/
noncomputable def UnR (X : Cx) (f : Value → Sem Value) (r : V → Hp → VK → Prop) : Prop :=
  ∀ (pins : List (Addr × Obj)) (s : Shared) (σ : St) (H : Hp) (x : V) (v : Value) (Q : VK), Inv X pins σ H s → RelV x v → r x H Q →
    wpAny (model X.prog X.w) X.A (f v) (EP X pins σ Q) X.xe s
/-- a call of a value that is known (a builtin, a type) with values -/
noncomputable def CallR (X : Cx) (f : Value) (r : List V → Hp → VK → Prop) : Prop :=
  ∀ (pins : List (Addr × Obj)) (s : Shared) (σ : St) (H : Hp) (xs : List V) (us : List Value) (Q : VK), Inv X pins σ H s → Vals xs us → r xs H Q →
    wpAny (model X.prog X.w) X.A (call f us) (EP X pins σ Q) X.xe s
/-- a value's truth -/
noncomputable def TruR (X : Cx) (r : V → Hp → (Bool → Hp → Prop) → Prop) : Prop :=
  ∀ (pins : List (Addr × Obj)) (s : Shared) (σ : St) (H : Hp) (x : V) (v : Value) (Q : Bool → Hp → Prop), Inv X pins σ H s → RelV x v → r x H Q →
    wpAny (model X.prog X.w) X.A (truthy v) (TP X pins σ Q) X.xe s
noncomputable def tOp (r : R2) (ta tb : TE) : TE := fun σ H Q => ta σ H fun x H1 => tb σ H1 fun y H2 => r x y H2 Q
noncomputable def tUn (r : V → Hp → VK → Prop) (ta : TE) : TE := fun σ H Q => ta σ H fun x H1 => r x H1 Q
/-- ints in, under C, and a value out -/
noncomputable def rI (C : Int → Int → Prop) (g : Int → Int → V) : R2 := fun x y H Q => ∃ i j, x = .int i ∧ y = .int j ∧ C i j ∧ Q (g i j) H
noncomputable def rI0 (g : Int → Int → V) : R2 := fun x y H Q => ∃ i j, x = .int i ∧ y = .int j ∧ Q (g i j) H
noncomputable def rU (g : Int → V) : V → Hp → VK → Prop := fun x H Q => ∃ i, x = .int i ∧ Q (g i) H
section
variable {X : Cx} {a b c : Expr} {ta tb tc : TE} {pos : Pos}
theorem binT (ha : PE X a ta) (hb : PE X b tb) {pins : List (Addr × Obj)} {s : Shared} {σ : St} {H : Hp} {R : V → V → Hp → Prop} (I : Inv X pins σ H s)
    (h : ta σ H fun x H1 => tb σ H1 fun y H2 => R x y H2) {Q : Value → Shared → Prop} {f : Value → Value → Sem Value}
    (hf : ∀ v u s2 x y H2, Inv X pins σ H2 s2 → RelV x v → RelV y u → R x y H2 → wpAny (model X.prog X.w) X.A (f v u) Q X.xe s2) :
    wpAny (model X.prog X.w) X.A (eval a X.env) (fun v s₁ => wpAny (model X.prog X.w) X.A (eval b X.env) (fun u s₂ => wpAny (model X.prog X.w) X.A (f v u) Q X.xe s₂) X.xe s₁) X.xe s := by
  refine thn (ha pins s σ H _ I h) fun v s1 ⟨x, H1, I1, r1, q1⟩ => ?_
  refine thn (hb pins s1 σ H1 _ I1 q1) fun u s2 ⟨y, H2, I2, r2, q2⟩ => ?_
  exact hf v u s2 x y H2 I2 r1 r2 q2
theorem pe_op {op : Operator} {r : R2} (ho : OpR X (binaryOp op) r) (ha : PE X a ta) (hb : PE X b tb) : PE X (.BinOp a op b pos) (tOp r ta tb) := by
  intro pins s σ H Q I h
  exact wpAny_BinOp (binT ha hb I h fun v u s2 x y H2 I2 rx ry q => ho pins s2 σ H2 x y v u Q I2 rx ry q)
theorem pe_un {op : UnaryOp} {r : V → Hp → VK → Prop} (ho : UnR X (unaryOp op) r) (ha : PE X a ta) : PE X (.UnaryOp op a pos) (tUn r ta) := by
  intro pins s σ H Q I h
  exact UnaryOp_ (thn (ha pins s σ H _ I h) fun v s1 ⟨x, H1, I1, r1, q1⟩ => ho pins s1 σ H1 x v Q I1 r1 q1)
theorem opI {f : Value → Value → Sem Value} {C : Int → Int → Prop} {g : Int → Int → Int}
    (rule : ∀ (i j : Int) (t u : Tok) (s : Shared) (Q : Value → Shared → Prop) (E : Value → Shared → Prop), C i j → Q (.int (g i j) s.toks) { s with toks := s.toks + 1 } → wpAny (model X.prog X.w) X.A (f (.int i t) (.int j u)) Q E s) :
    OpR X f (rI C fun i j => .int (g i j)) := by
  intro pins s σ H x y v u Q I rx ry h
  obtain ⟨i, j, rfl, rfl, hc, q⟩ := h
  obtain ⟨t, rfl⟩ := rx
  obtain ⟨t', rfl⟩ := ry
  exact rule i j t t' s _ _ hc ⟨.int (g i j), H, I.tok _, ⟨_, rfl⟩, q⟩
theorem opI0 {f : Value → Value → Sem Value} {g : Int → Int → Int}
    (rule : ∀ (i j : Int) (t u : Tok) (s : Shared) (Q : Value → Shared → Prop) (E : Value → Shared → Prop), Q (.int (g i j) s.toks) { s with toks := s.toks + 1 } → wpAny (model X.prog X.w) X.A (f (.int i t) (.int j u)) Q E s) :
    OpR X f (rI0 fun i j => .int (g i j)) := by
  intro pins s σ H x y v u Q I rx ry h
  obtain ⟨i, j, rfl, rfl, q⟩ := h
  obtain ⟨t, rfl⟩ := rx
  obtain ⟨t', rfl⟩ := ry
  exact rule i j t t' s _ _ ⟨.int (g i j), H, I.tok _, ⟨_, rfl⟩, q⟩
theorem opB0 {f : Value → Value → Sem Value} {g : Int → Int → Bool}
    (rule : ∀ (i j : Int) (t u : Tok) (s : Shared) (Q : Value → Shared → Prop) (E : Value → Shared → Prop), Q (.bool (g i j)) s → wpAny (model X.prog X.w) X.A (f (.int i t) (.int j u)) Q E s) :
    OpR X f (rI0 fun i j => .bl (g i j)) := by
  intro pins s σ H x y v u Q I rx ry h
  obtain ⟨i, j, rfl, rfl, q⟩ := h
  obtain ⟨t, rfl⟩ := rx
  obtain ⟨t', rfl⟩ := ry
  exact rule i j t t' s _ _ ⟨.bl (g i j), H, I, rfl, q⟩
noncomputable def CDiv (i j : Int) : Prop := 0 < j ∧ j < 1073741824
noncomputable def CPow (i j : Int) : Prop := 0 ≤ j ∧ j ≤ 1000000 ∧ i.natAbs < 2 ^ 64
noncomputable def CMul (i j : Int) : Prop := (-(2 ^ 64) < i ∧ i < 2 ^ 64) ∨ (-(2 ^ 64) < j ∧ j < 2 ^ 64)
theorem CMul.ok {i j : Int} (h : CMul i j) : IntMulOk i j := by
  rcases h with ⟨h1, h2⟩ | ⟨h1, h2⟩
  · exact .of_left (intBits_le_64 h1 h2)
  · exact .of_right (intBits_le_64 h1 h2)
theorem op_add : OpR X (binaryOp .Add) (rI0 fun i j => .int (i + j)) := opI0 fun _ _ _ _ _ _ _ q => add_int q
theorem op_sub : OpR X (binaryOp .Sub) (rI0 fun i j => .int (i - j)) := opI0 fun _ _ _ _ _ _ _ q => sub_int q
theorem op_mul : OpR X (binaryOp .Mult) (rI CMul fun i j => .int (i * j)) := opI fun _ _ _ _ _ _ _ hc q => mul_int q hc.ok
/-- // by a positive divisor -/
theorem op_fdiv : OpR X (binaryOp .FloorDiv) (rI CDiv fun i j => .int (i / j)) := opI fun i j _ _ _ _ _ hc q => by
  have h1 : (0 : Int) < j := hc.1
  have h2 : j < 1073741824 := hc.2
  exact floordiv_int (by lia) (by rw [Int.fdiv_eq_ediv_of_nonneg i (by lia)]; exact q) (.inl (PyProof.noPylong_small (by lia)))
/-- % by a positive divisor of any size -/
theorem op_mod : OpR X (binaryOp .Mod) (rI (fun _ j => 0 < j) fun i j => .int (i % j)) := opI fun i j _ _ _ _ _ hc q => by
  have h1 : (0 : Int) < j := hc
  exact mod_int' (by lia) (by rw [Int.fmod_eq_emod_of_nonneg i (by lia)]; exact q)
theorem op_pow : OpR X (binaryOp .Pow) (rI CPow fun i j => .int (i ^ j.toNat)) := opI fun _ _ _ _ _ _ _ hc q => pow_int_small hc.1 hc.2.1 hc.2.2 q
theorem op_shl : OpR X (binaryOp .LShift) (rI CPow fun i j => .int (i * 2 ^ j.toNat)) := opI fun _ _ _ _ _ _ _ hc q => lshift_int_small hc.1 hc.2.1 hc.2.2 q
theorem unI {f : Value → Sem Value} {g : Int → Int}
    (rule : ∀ (i : Int) (t : Tok) (s : Shared) (Q : Value → Shared → Prop) (E : Value → Shared → Prop), Q (.int (g i) s.toks) { s with toks := s.toks + 1 } → wpAny (model X.prog X.w) X.A (f (.int i t)) Q E s) :
    UnR X f (rU fun i => .int (g i)) := by
  intro pins s σ H x v Q I rx h
  obtain ⟨i, rfl, q⟩ := h
  obtain ⟨t, rfl⟩ := rx
  exact rule i t s _ _ ⟨.int (g i), H, I.tok _, ⟨_, rfl⟩, q⟩
theorem un_neg : UnR X (unaryOp .USub) (rU fun i => .int (-i)) := unI fun _ _ _ _ _ q => neg_int q
end
/-- the scalars that == tells apart as data does -/
noncomputable def scal : V → V → Bool
  | .non, .non => true | .non, .int _ => true | .int _, .non => true | .non, .bl _ => true | .bl _, .non => true | .non, .str _ => true | .str _, .non => true
  | .int _, .int _ => true | .bl _, .bl _ => true | .str _, .str _ => true | .byt _, .byt _ => true
  | .int _, .str _ => true | .str _, .int _ => true | .bl _, .str _ => true | .str _, .bl _ => true
  | _, _ => false
noncomputable def rEq : R2 := fun x y H Q => scal x y = true ∧ Q (.bl (decide (x = y))) H
noncomputable def rNe : R2 := fun x y H Q => scal x y = true ∧ Q (.bl (!decide (x = y))) H
theorem dec_int {i j : Int} : decide (V.int i = V.int j) = (i == j) := by
  rw [Bool.eq_iff_iff]
  simp
theorem dec_bl {i j : Bool} : decide (V.bl i = V.bl j) = (i == j) := by
  rw [Bool.eq_iff_iff]
  simp
theorem dec_str {i j : Str} : decide (V.str i = V.str j) = (i == j) := by
  rw [Bool.eq_iff_iff]
  simp
theorem dec_byt {i j : Array UInt8} : decide (V.byt i = V.byt j) = (i.toList == j.toList) := by
  rw [Bool.eq_iff_iff]
  cases i
  cases j
  simp
section
variable {X : Cx} {a b c : Expr} {ta tb tc : TE} {pos : Pos}
theorem fin_bl {pins : List (Addr × Obj)} {σ : St} {H : Hp} {s : Shared} {Q : VK} {k k' : Bool} (I : Inv X pins σ H s) (q : Q (.bl k) H) (e : k = k') : EP X pins σ Q (.bool k') s := by
  subst e
  exact ⟨.bl k, H, I, rfl, q⟩
theorem op_eq : OpR X (compareOp .Eq) rEq := by
  intro pins s σ H x y v u Q I rx ry h
  obtain ⟨hs, q⟩ := h
  cases x with
  | non =>
    cases rx
    cases y with
    | non => cases ry; exact PySem.EqNone.eq_none_none (fin_bl I q (by simp))
    | bl j => cases ry; exact PySem.EqNone.eq_none_bool (fin_bl I q (by simp))
    | int j => obtain ⟨t', rfl⟩ := ry; exact PySem.EqNone.eq_none_int (fin_bl I q (by simp))
    | str j => obtain ⟨t', rfl⟩ := ry; exact PySem.EqNone.eq_none_str (fin_bl I q (by simp))
    | _ => exact absurd (show false = true from hs) Bool.false_ne_true
  | bl i =>
    cases rx
    cases y with
    | non => cases ry; exact PySem.EqNone.eq_bool_none (fin_bl I q (by simp))
    | bl j => cases ry; exact eq_bool (fin_bl I q dec_bl)
    | str j => obtain ⟨t', rfl⟩ := ry; exact PySem.EqMixed.eq_bool_str (fin_bl I q (by simp))
    | _ => exact absurd (show false = true from hs) Bool.false_ne_true
  | int i =>
    obtain ⟨t, rfl⟩ := rx
    cases y with
    | non => cases ry; exact PySem.EqNone.eq_int_none (fin_bl I q (by simp))
    | int j => obtain ⟨t', rfl⟩ := ry; exact eq_int (fin_bl I q dec_int)
    | str j => obtain ⟨t', rfl⟩ := ry; exact PySem.EqMixed.eq_int_str (fin_bl I q (by simp))
    | _ => exact absurd (show false = true from hs) Bool.false_ne_true
  | str i =>
    obtain ⟨t, rfl⟩ := rx
    cases y with
    | non => cases ry; exact PySem.EqNone.eq_str_none (fin_bl I q (by simp))
    | bl j => cases ry; exact PySem.EqMixed.eq_str_bool (fin_bl I q (by simp))
    | int j => obtain ⟨t', rfl⟩ := ry; exact PySem.EqMixed.eq_str_int (fin_bl I q (by simp))
    | str j => obtain ⟨t', rfl⟩ := ry; exact eq_str (fin_bl I q dec_str)
    | _ => exact absurd (show false = true from hs) Bool.false_ne_true
  | byt i =>
    obtain ⟨t, rfl⟩ := rx
    cases y with
    | byt j => obtain ⟨t', rfl⟩ := ry; exact PySem.W.eq_bytes (fin_bl I q dec_byt)
    | _ => exact absurd (show false = true from hs) Bool.false_ne_true
  | _ => cases y <;> exact absurd (show false = true from hs) Bool.false_ne_true
theorem op_ne : OpR X (compareOp .NotEq) rNe := by
  intro pins s σ H x y v u Q I rx ry h
  obtain ⟨hs, q⟩ := h
  cases x with
  | non =>
    cases rx
    cases y with
    | non => cases ry; exact PySem.EqNone.ne_none_none (fin_bl I q (by simp))
    | bl j => cases ry; exact PySem.EqNone.ne_none_bool (fin_bl I q (by simp))
    | int j => obtain ⟨t', rfl⟩ := ry; exact PySem.EqNone.ne_none_int (fin_bl I q (by simp))
    | str j => obtain ⟨t', rfl⟩ := ry; exact PySem.EqNone.ne_none_str (fin_bl I q (by simp))
    | _ => exact absurd (show false = true from hs) Bool.false_ne_true
  | bl i =>
    cases rx
    cases y with
    | non => cases ry; exact PySem.EqNone.ne_bool_none (fin_bl I q (by simp))
    | bl j => cases ry; exact ne_bool (fin_bl I q (congrArg not dec_bl))
    | str j => obtain ⟨t', rfl⟩ := ry; exact PySem.EqMixed.ne_bool_str (fin_bl I q (by simp))
    | _ => exact absurd (show false = true from hs) Bool.false_ne_true
  | int i =>
    obtain ⟨t, rfl⟩ := rx
    cases y with
    | non => cases ry; exact PySem.EqNone.ne_int_none (fin_bl I q (by simp))
    | int j => obtain ⟨t', rfl⟩ := ry; exact ne_int (fin_bl I q (congrArg not dec_int))
    | str j => obtain ⟨t', rfl⟩ := ry; exact PySem.EqMixed.ne_int_str (fin_bl I q (by simp))
    | _ => exact absurd (show false = true from hs) Bool.false_ne_true
  | str i =>
    obtain ⟨t, rfl⟩ := rx
    cases y with
    | non => cases ry; exact PySem.EqNone.ne_str_none (fin_bl I q (by simp))
    | bl j => cases ry; exact PySem.EqMixed.ne_str_bool (fin_bl I q (by simp))
    | int j => obtain ⟨t', rfl⟩ := ry; exact PySem.EqMixed.ne_str_int (fin_bl I q (by simp))
    | str j => obtain ⟨t', rfl⟩ := ry; exact ne_str (fin_bl I q (congrArg not dec_str))
    | _ => exact absurd (show false = true from hs) Bool.false_ne_true
  | byt i =>
    obtain ⟨t, rfl⟩ := rx
    cases y with
    | byt j => obtain ⟨t', rfl⟩ := ry; exact PySem.W.ne_bytes (fin_bl I q (congrArg not dec_byt))
    | _ => exact absurd (show false = true from hs) Bool.false_ne_true
  | _ => cases y <;> exact absurd (show false = true from hs) Bool.false_ne_true
theorem op_lt : OpR X (compareOp .Lt) (rI0 fun i j => .bl (decide (i < j))) := opB0 fun _ _ _ _ _ _ _ q => lt_int q
theorem op_le : OpR X (compareOp .LtE) (rI0 fun i j => .bl (decide (i ≤ j))) := opB0 fun _ _ _ _ _ _ _ q => le_int q
theorem op_gt : OpR X (compareOp .Gt) (rI0 fun i j => .bl (decide (j < i))) := opB0 fun _ _ _ _ _ _ _ q => gt_int q
theorem op_ge : OpR X (compareOp .GtE) (rI0 fun i j => .bl (decide (j ≤ i))) := opB0 fun _ _ _ _ _ _ _ q => ge_int q
/-- two rules for one operation: by cases -/
theorem OpR.or {f : Value → Value → Sem Value} {r r' : R2} (h : OpR X f r) (h' : OpR X f r') : OpR X f (fun x y H Q => r x y H Q ∨ r' x y H Q) := by
  intro pins s σ H x y v u Q I rx ry q
  rcases q with q | q
  · exact h pins s σ H x y v u Q I rx ry q
  · exact h' pins s σ H x y v u Q I rx ry q
theorem nomark (b : Expr) {op : CmpOp} (h : op ≠ .In := by decide) (h2 : op ≠ .NotIn := by decide) : behindInMarks op b = false := by
  have e1 : (op == CmpOp.In) = false := by cases op <;> first | rfl | exact absurd rfl h
  have e2 : (op == CmpOp.NotIn) = false := by cases op <;> first | rfl | exact absurd rfl h2
  cases b <;> simp [behindInMarks, e1, e2]
/-- a comparison as a value; hm: nomark b, or (for in, not in) by with_unfolding_all rfl -/
theorem pe_cmpR {op : CmpOp} {r : R2} (ho : OpR X (compareOp op) r) (ha : PE X a ta) (hb : PE X b tb) (hm : behindInMarks op b = false) : PE X (.Compare a [op] [b] pos) (tOp r ta tb) := by
  intro pins s σ H Q I h
  exact wpAny_Compare1 (binT ha hb I h fun v u s2 x y H2 I2 rx ry q => ho pins s2 σ H2 x y v u Q I2 rx ry q) hm
/-- a reading of a value as a test -/
noncomputable def tTest (t : TE) : TT := fun σ H Q => t σ H fun x H' => ∃ k, x = .bl k ∧ Q k H'
theorem pt_cmpR {op : CmpOp} {r : R2} (ho : OpR X (compareOp op) r) (ha : PE X a ta) (hb : PE X b tb) (hm : behindInMarks op b = false) : PT X (.Compare a [op] [b] pos) (tTest (tOp r ta tb)) := by
  intro pins s σ H Q I h
  refine wpAny_isTrue_Compare1 (thn (ha pins s σ H _ I h) fun v s1 ⟨x, H1, I1, r1, q1⟩ => thn (hb pins s1 σ H1 _ I1 q1) fun u s2 ⟨y, H2, I2, r2, q2⟩ =>
    thn (ho pins s2 σ H2 x y v u _ I2 r1 r2 q2) fun c s3 ⟨z, H3, I3, r3, k, e, q3⟩ => ?_) hm
  subst e
  cases r3
  exact wpAny_truthy_bool ⟨H3, I3, q3⟩
/-- a value's truth by the abstract heap -/
noncomputable def TruV (K : PySem.W.Frag) (x : V) (H : Hp) (k : Bool) : Prop :=
  match x with
  | .non => k = false
  | .bl b => k = b
  | .int i => k = (i != 0)
  | .str y => y.length ≤ sizeLine ∧ k = ((y.length : Int) != 0)
  | .byt y => y.size ≤ sizeLine ∧ k = ((y.size : Int) != 0)
  | .ref p => (∃ xs, SqL K H p xs ∧ k = !xs.isEmpty) ∨ (∃ xs, SqT K H p xs ∧ k = !xs.isEmpty) ∨ ∃ kvs, H p = some (.dK kvs) ∧ k = !kvs.isEmpty
  | _ => False
theorem isEmpty_kv {κ : Type} {kvs : List (κ × V)} {vs : List (κ × Value)} (r : KV kvs vs) : (!vs.isEmpty) = !kvs.isEmpty := by
  cases r <;> rfl
theorem isEmpty_of {xs : List V} {its : List Value} (r : Vals xs its) : (!its.toArray.isEmpty) = !xs.isEmpty := by
  cases r <;> simp
theorem line63 : (sizeLine : Nat) < 2 ^ 63 := by rw [sizeLine_eq]; decide
theorem tru_ok : TruR X (fun x H Q => ∃ k, TruV X.K x H k ∧ Q k H) := by
  intro pins s σ H x v Q I rx h
  obtain ⟨k, e, q⟩ := h
  have hl := line63
  have hs : sizeLine = 16777216 := sizeLine_eq
  cases x with
  | non =>
    cases rx
    have e' : k = false := e
    subst e'
    exact truthy_none ⟨H, I, q⟩
  | bl b =>
    cases rx
    have e' : k = b := e
    subst e'
    exact wpAny_truthy_bool ⟨H, I, q⟩
  | int i =>
    obtain ⟨t, rfl⟩ := rx
    have e' : k = (i != 0) := e
    subst e'
    exact PySem.P.truthy_int ⟨H, I, q⟩
  | str y =>
    obtain ⟨t, rfl⟩ := rx
    obtain ⟨hy, e'⟩ : y.length ≤ sizeLine ∧ k = ((y.length : Int) != 0) := e
    subst e'
    exact PySem.P.truthy_str (by lia) ⟨H, I.tok _, q⟩
  | byt y =>
    obtain ⟨t, rfl⟩ := rx
    obtain ⟨hy, e'⟩ : y.size ≤ sizeLine ∧ k = ((y.size : Int) != 0) := e
    subst e'
    exact PySem.W.truthy_bytes (by lia) ⟨H, I.tok _, q⟩
  | ref p =>
    cases rx
    have e' : (∃ xs, SqL X.K H p xs ∧ k = !xs.isEmpty) ∨ (∃ xs, SqT X.K H p xs ∧ k = !xs.isEmpty) ∨ ∃ kvs, H p = some (.dK kvs) ∧ k = !kvs.isEmpty := e
    rcases e' with ⟨xs, hx, e'⟩ | ⟨xs, hx, e'⟩ | ⟨kvs, hx, e'⟩
    · subst e'
      obtain ⟨its, r, pl, hz⟩ := I.list hx
      have hlen := r.length
      exact wpAny_truthy_list pl.isList (by simp only [List.size_toArray]; lia) ⟨H, I.tok _, by rw [isEmpty_of r]; exact q⟩
    · subst e'
      obtain ⟨its, r, pl, hz⟩ := I.tuple hx
      have hlen := r.length
      exact truthy_tuple pl (by simp only [List.size_toArray]; lia) ⟨H, I.tok _, by rw [isEmpty_of r]; exact q⟩
    · subst e'
      obtain ⟨hz, hS, vs, r, m⟩ : kvs.length ≤ sizeLine ∧ (p == sysModules) = false ∧ ∃ vs, KV kvs vs ∧ s.heap.DictOf (mixKind X.prog X.w) p vs := I.hok p _ hx
      have hlen : kvs.length = vs.length := Paired.length r
      exact wpAny_truthy_dict hS m (by lia) ⟨H, I.tok _, by rw [isEmpty_kv r]; exact q⟩
  | _ => exact (show False from e).elim
/-- any expression whose test is its value's truth (a name, a call, a subscript, a field ..: he by fun _ => rfl) -/
theorem pt_truth (ha : PE X a ta) (he : ∀ whole, isTrue a X.env whole = (do let v ← whole; standAt a.pos; holding [v] (truthy v))) :
    PT X a (fun σ H Q => ta σ H fun x H' => ∃ k, TruV X.K x H' k ∧ Q k H') := by
  intro pins s σ H Q I h
  exact isTrue_plain (thn (ha pins s σ H _ I h) fun v s1 ⟨x, H1, I1, r1, q1⟩ => tru_ok pins s1 σ H1 x v Q I1 r1 q1) (he _)
theorem op_add_str : OpR X (binaryOp .Add) (fun x y H Q => ∃ i j, x = .str i ∧ y = .str j ∧ i.length + j.length ≤ sizeLine ∧ Q (.str (i ++ j)) H) := by
  intro pins s σ H x y v u Q I rx ry h
  obtain ⟨i, j, rfl, rfl, hz, q⟩ := h
  obtain ⟨t, rfl⟩ := rx
  obtain ⟨t', rfl⟩ := ry
  exact add_str (fun t' tk => ⟨.str (i ++ j), H, I.tok _, ⟨_, rfl⟩, q⟩) hz
theorem vals1 {x : V} {us : List Value} (r : Vals [x] us) : ∃ u, us = [u] ∧ RelV x u := by
  cases r with
  | cons r1 r2 => cases r2; exact ⟨_, rfl, r1⟩
theorem vals2 {x y : V} {us : List Value} (r : Vals [x, y] us) : ∃ u w', us = [u, w'] ∧ RelV x u ∧ RelV y w' := by
  cases r with
  | cons r1 r2 =>
    cases r2 with
    | cons r3 r4 => cases r4; exact ⟨_, _, rfl, r1, r3⟩
theorem call_max2 (hc : X.calm = true) : CallR X (.builtin "max") (fun xs H Q => ∃ i j, xs = [.int i, .int j] ∧ Q (.int (if j > i then j else i)) H) := by
  intro pins s σ H xs us Q I r h
  obtain ⟨i, j, rfl, q⟩ := h
  obtain ⟨u, w', rfl, ⟨t, rfl⟩, ⟨t', rfl⟩⟩ := vals2 r
  refine max_two_ints (I.ok.hd hc) fun h' tk k => ⟨_, H, I.kept k, ?_, q⟩
  by_cases hj : j > i
  · rw [if_pos hj, if_pos hj]; exact ⟨_, rfl⟩
  · rw [if_neg hj, if_neg hj]; exact ⟨_, rfl⟩
end
end L2
namespace L2
open PySem PySem.Spec PyProof.Rows
structure ObjM (h : Heap) (x dx C : Addr) (mA : Str → Option Value) : Prop where
  obj : h.get? x = some (PySem.W.instObj C dx)
  ns : h.Ns1 dx mA
  ne : dx ≠ x
theorem lookIn_ns {h : Heap} {dx : Addr} {mA : Str → Option Value} (n : h.Ns1 dx mA) : ∃ od, h.get? dx = some od ∧ ∀ name, PySem.W.lookIn name od = some (mA name) := by
  obtain ⟨o, es, ep, ho, hd, hk, _, hm⟩ := n
  refine ⟨o, ho, fun name => ?_⟩
  have e := hm name
  unfold nsFind findBy at e
  rw [← Array.find?_toList] at e
  unfold PySem.W.lookIn
  rw [hd]
  dsimp only
  split
  · rename_i y q
    rw [q] at e
    exact congrArg some e
  · rename_i q
    rw [q] at e
    have a : es.toList.any (·.refKey) = false := by
      rw [List.any_eq_false]
      intro y hy
      obtain ⟨z, t, hkey⟩ := hk y (Array.mem_toList_iff.mp hy)
      simp [DictEntry.refKey, hkey]
    have a' : ¬ es.toList.any (·.refKey) = true := by rw [a]; exact Bool.false_ne_true
    rw [if_neg a']
    exact congrArg some e
theorem ObjM.look {h : Heap} {x dx C : Addr} {mA : Str → Option Value} (I : ObjM h x dx C mA) : ∃ od, PySem.W.InstAt h x (PySem.W.instObj C dx) C (some od) ∧ ∀ name, PySem.W.lookIn name od = some (mA name) :=
  let ⟨od, ho, hl⟩ := lookIn_ns I.ns
  ⟨od, ⟨I.obj, rfl, rfl, ho⟩, hl⟩
section
variable {prog : Program} {w : World} {A : Around} {E : Value → Shared → Prop} {s : Shared} {K : PySem.W.Frag} {x dx C f : Addr} {mA : Str → Option Value} {name : Str} {v : Value}
theorem get_map {expr : Bool} {Q : Value → Shared → Prop} (X : K.In s.heap) (I : ObjM s.heap x dx C mA) (hg : PySem.W.plainGet K C name = true) (hh : PySem.W.hasDictIn K C = true)
    (ha : PySem.W.findIn K (.ref C) name = some none) (hv : mA name = some v) (hv' : PySem.W.handedIn v = true) (h : Q v { s with toks := s.toks + 1 }) :
    wpAny (model prog w) A (getAttr (.ref x) name expr) Q E s := by
  obtain ⟨od, J, hl⟩ := I.look
  exact PySem.W.get_value X J (PySem.W.plainGet_of hg).1 (PySem.W.findObj_own hh ha rfl (by rw [hl, hv])) hv' h
theorem get_meth {pl : Sem Bool} {Q : Value × List Value → Shared → Prop} (X : K.In s.heap) (I : ObjM s.heap x dx C mA) (hg : PySem.W.plainGet K C name = true)
    (hf : PySem.W.findIn K (.ref C) name = some (some (.ref f))) (ht : PySem.W.isFn K (.ref f) = true) (hv : mA name = none) (h : Q (.ref f, [.ref x]) s) :
    wpAny (model prog w) A (getMethod (.ref x) name pl) Q E s := by
  obtain ⟨od, J, hl⟩ := I.look
  exact PySem.W.method_fn X J (PySem.W.plainGet_of hg).1 (PySem.W.plainGet_of hg).2 hf (beq_iff_eq.mp ht) (by show (PySem.W.lookIn name od).map (·.isSome) = some false; rw [hl, hv]; rfl) h
theorem set_map {ns : List Str} {Q : Unit → Shared → Prop} (X : K.In s.heap) (I : ObjM s.heap x dx C mA)
    (hs : PySem.W.findIn K (.ref C) "__setattr__" = some (some (.builtin "object.__setattr__"))) (hp : PySem.W.plainOver K C = true) (ht : PySem.W.takerIn K C name = some none) (hh : PySem.W.hasDictIn K C = true)
    (hw : PySem.Within mA ns) (hsz : ns.length ≤ sizeLine)
    (h : ∀ h', ObjM h' x dx C (fun y => if y = name then some v else mA y) → Heap.SameBut dx s.heap h' → Q () { s with heap := h', toks := s.toks + 2 }) :
    wpAny (model prog w) A (setAttr (.ref x) name v) Q E s := by
  obtain ⟨od, J, hl⟩ := I.look
  refine PySem.W.set_plain X J hs (PySem.W.osa_open (s := { s with toks := s.toks + 1 }) (r := none) X J hp ht fun b => ?_)
  obtain ⟨cd, hc, hd'⟩ := PySem.W.any_some hh
  have hx : s.heap.get? x = some ⟨.ref C, some dx, .plain, #[]⟩ := I.obj
  refine wpAny_bind (wpAny_pure (wpAny_bind (wpAny_bind (wpAny_loadPart hx (wpAny_bind (PySem.W.Looks.here (s := { s with toks := s.toks + 1 }) (PySem.W.looks_clsIn X hc) ?_))))))
  rw [hd']
  refine wpAny_pure (a := some dx) (wpAny_bind (wpAny_pure (wpAny_bind ?_)))
  refine wpAny_nsSet1 (s := { s with toks := s.toks + 1 }) I.ns fun h' hn2 hs2 => ?_
  obtain ⟨oD, esD, epD, hoD, hdD, hcD⟩ := hn2.count (PySem.Within.cons name v hw)
  refine wpAny_bind (wpAny_lookBehind hoD (by rw [hdD]; exact pastItsLine_dict (Nat.le_trans hcD (by rw [List.length_cons]; lia))) ?_)
  exact wpAny_pure (h _ ⟨(hs2.2 _ (Ne.symm I.ne)).trans I.obj, hn2, I.ne⟩ hs2)
/-- C(..): the dict at the heap's end, the instance behind it; then its __init__ -/
theorem make_map {R : Result → Shared → Prop} {vs : List Value} {kw : List (Str × Value)} (X : K.In s.heap) (hm : PySem.W.makesIn K C = true)
    (hi : PySem.W.findIn K (.ref C) "__init__" = some (some (.ref f))) (hf : PySem.W.typeIn K (.ref f) = some (.type "function"))
    (h : codeAny (model prog w) (A.under (.builtin "type.__call__" ⟨.ref C :: vs, kw⟩)) (.call (.ref f) ⟨.ref (s.heap.objs.size + 1) :: vs, kw⟩) (PySem.W.InitBack (s.heap.objs.size + 1) R)
      { s with heap := (s.heap.push PySem.W.emptyDict).push (PySem.W.instObj C s.heap.objs.size) }) :
    codeAny (model prog w) A (.call (.ref C) ⟨vs, kw⟩) R s := by
  obtain ⟨hh, g, d, t, os⟩ := s
  exact PySem.W.make_core (PySem.W.makes_of X hm) (PySem.W.looks_findIn X hi) (fun self => PySem.W.bind_fn X self hf) (.inl rfl) h
end
noncomputable def putF (f : Str) (v : V) : List (Str × V) → List (Str × V)
  | [] => [(f, v)]
  | (g, x) :: r => if g = f then (g, v) :: r else (g, x) :: putF f v r
theorem lookup_putF (f g : Str) (v : V) : ∀ fs : List (Str × V), (putF f v fs).lookup g = if g = f then some v else fs.lookup g
  | [] => by
    show List.lookup g [(f, v)] = _
    by_cases h : g = f
    · have hb : (g == f) = true := beq_iff_eq.mpr h
      simp only [List.lookup, hb, if_pos h]
    · have hb : (g == f) = false := beq_eq_false_iff_ne.mpr h
      simp only [List.lookup, hb, if_neg h]
  | (k, x) :: r => by
    have ih := lookup_putF f g v r
    rw [show putF f v ((k, x) :: r) = (if k = f then (k, v) :: r else (k, x) :: putF f v r) from rfl]
    by_cases hk : k = f
    · rw [if_pos hk]
      by_cases h : g = k
      · have hb : (g == k) = true := beq_iff_eq.mpr h
        simp only [List.lookup, hb, if_pos (h.trans hk)]
      · have hb : (g == k) = false := beq_eq_false_iff_ne.mpr h
        simp only [List.lookup, hb, if_neg (fun e : g = f => h (e.trans hk.symm))]
    · rw [if_neg hk]
      by_cases h : g = k
      · have hb : (g == k) = true := beq_iff_eq.mpr h
        simp only [List.lookup, hb, if_neg (fun e : g = f => hk (h.symm.trans e))]
      · have hb : (g == k) = false := beq_eq_false_iff_ne.mpr h
        simp only [List.lookup, hb]
        exact ih
theorem keys_putF (f : Str) (v : V) : ∀ fs : List (Str × V), f ∈ (putF f v fs).map (·.1) ∧ ∀ g, g ∈ fs.map (·.1) → g ∈ (putF f v fs).map (·.1)
  | [] => ⟨by simp [putF], fun g h => by simp at h⟩
  | (k, x) :: r => by
    obtain ⟨i1, i2⟩ := keys_putF f v r
    rw [show putF f v ((k, x) :: r) = (if k = f then (k, v) :: r else (k, x) :: putF f v r) from rfl]
    by_cases hk : k = f
    · rw [if_pos hk]
      subst hk
      exact ⟨by simp, fun g h => by simpa using h⟩
    · rw [if_neg hk]
      refine ⟨?_, fun g h => ?_⟩
      · rw [List.map_cons]
        exact List.mem_cons_of_mem _ i1
      · rw [List.map_cons] at h ⊢
        rcases List.mem_cons.mp h with e | e
        · exact List.mem_cons.mpr (.inl e)
        · exact List.mem_cons_of_mem _ (i2 g e)
theorem length_putF (f : Str) (v : V) : ∀ fs : List (Str × V), (putF f v fs).length ≤ fs.length + 1
  | [] => by simp [putF]
  | (k, x) :: r => by
    have ih := length_putF f v r
    rw [show putF f v ((k, x) :: r) = (if k = f then (k, v) :: r else (k, x) :: putF f v r) from rfl]
    by_cases hk : k = f
    · rw [if_pos hk, List.length_cons, List.length_cons]; lia
    · rw [if_neg hk, List.length_cons, List.length_cons]; lia
theorem RelO.some_of {v : V} {o : Option Value} (r : RelO (some v) o) : ∃ u, o = some u ∧ RelV v u := by
  cases o with
  | none => exact (show False from r).elim
  | some u => exact ⟨u, rfl, r⟩
theorem RelO.none_of {o : Option Value} (r : RelO none o) : o = none := by
  cases o with
  | none => rfl
  | some u => exact (show False from r).elim
theorem handed_of {v : V} {u : Value} (r : RelV v u) : PySem.W.handedIn u = true := by
  cases v with
  | non => cases (show u = Value.none from r); rfl
  | bl b => cases (show u = Value.bool b from r); rfl
  | int i => obtain ⟨t, e⟩ := (show ∃ t, u = Value.int i t from r); cases e; rfl
  | str x => obtain ⟨t, e⟩ := (show ∃ t, u = Value.str x t from r); cases e; rfl
  | byt b => obtain ⟨t, e⟩ := (show ∃ t, u = Value.bytes b t from r); cases e; rfl
  | flt b => obtain ⟨t, e⟩ := (show ∃ t, u = Value.float b t from r); cases e; rfl
  | ref a => cases (show u = Value.ref a from r); rfl
  | ty n => cases (show u = Value.type n from r); rfl
section
variable {P : Program} {w : World} {H H' : Hp} {h h' : Heap} {a C dx : Addr} {fs fs' : List (Str × V)}
theorem ins_get (hok : HOk P w H h) (e : H a = some (.ins C dx fs)) : ∃ mA, ObjM h a dx C mA ∧ (∀ f, RelO (fs.lookup f) (mA f)) ∧ PySem.Within mA (fs.map (·.1)) ∧ fs.length ≤ 1000 ∧ H dx = some (.own a) := by
  obtain ⟨d, z, ne, ob, mA, n, r, q⟩ := (show ObjOk P w H h a (.ins C dx fs) from hok a _ e)
  exact ⟨mA, ⟨ob, n, ne⟩, r, q, z, d⟩
end
structure Cls (K : PySem.W.Frag) (C : Addr) : Prop where
  pg : PySem.W.plainGet K C Str.empty = true
  hd : PySem.W.hasDictIn K C = true
  po : PySem.W.plainOver K C = true
  sa : PySem.W.findIn K (.ref C) "__setattr__" = some (some (.builtin "object.__setattr__"))
theorem Cls.get {K : PySem.W.Frag} {C : Addr} (c : Cls K C) (f : Str) : PySem.W.plainGet K C f = true := c.pg
/-- no class of it has the name -/
noncomputable def NoAttr (K : PySem.W.Frag) (C : Addr) (f : Str) : Prop := PySem.W.findIn K (.ref C) f = some none
theorem NoAttr.taker {K : PySem.W.Frag} {C : Addr} {f : Str} (n : NoAttr K C f) : PySem.W.takerIn K C f = some none := by
  unfold PySem.W.takerIn
  rw [show PySem.W.findIn K (.ref C) f = some none from n]
  rfl
/-- a constant of the class -/
structure Con (K : PySem.W.Frag) (C : Addr) (f : Str) (v : V) (u : Value) : Prop where
  at_ : PySem.W.findIn K (.ref C) f = some (some u)
  rel : RelV v u
  get : PySem.W.specialIn K u "__get__" = some none
  cp : PySem.W.copiedNames.contains f = false
/-- a method: a plain def of the class or of one above it -/
structure Meth (K : PySem.W.Frag) (C : Addr) (m : Str) (f : Addr) : Prop where
  at_ : PySem.W.findIn K (.ref C) m = some (some (.ref f))
  fn : PySem.W.isFn K (.ref f) = true
  kp : PySem.W.keepIn K (.ref f) = true
section
variable {X : Cx} {pins : List (Addr × Obj)} {σ : St} {H : Hp} {s : Shared} {a C dx : Addr} {fs : List (Str × V)} {f : Str} {v : V} {A : Around} {E : Value → Shared → Prop}
theorem getattr_ok {b : Bool} {Q : Value → Shared → Prop} (I : Inv X pins σ H s) (e : H a = some (.ins C dx fs)) (c : Cls X.K C) (n : NoAttr X.K C f) (l : fs.lookup f = some v)
    (h : ∀ u s', Inv X pins σ H s' → RelV v u → Q u s') : wpAny (model X.prog X.w) A (getAttr (.ref a) f b) Q E s := by
  obtain ⟨mA, O, r, _, _, _⟩ := ins_get I.hok e
  obtain ⟨u, hu, ru⟩ := RelO.some_of (v := v) (o := mA f) (by rw [← l]; exact r f)
  exact get_map I.kIn O (c.get f) c.hd n hu (handed_of ru) (h u _ (I.tok _) ru)
theorem getmeth_ok {m : Str} {g : Addr} {pl : Sem Bool} {Q : Value × List Value → Shared → Prop} (I : Inv X pins σ H s) (e : H a = some (.ins C dx fs)) (c : Cls X.K C) (k : Meth X.K C m g) (l : fs.lookup m = none)
    (h : Q (.ref g, [.ref a]) s) : wpAny (model X.prog X.w) A (getMethod (.ref a) m pl) Q E s := by
  obtain ⟨mA, O, r, _, _, _⟩ := ins_get I.hok e
  have hn : mA m = none := RelO.none_of (by rw [← l]; exact r m)
  exact get_meth I.kIn O (c.get m) k.at_ k.fn hn h
theorem setattr_ok {y : V} {u : Value} {Q : Unit → Shared → Prop} (I : Inv X pins σ H s) (e : H a = some (.ins C dx fs)) (c : Cls X.K C) (n : NoAttr X.K C f) (hl : fs.length < 1000) (ry : RelV y u)
    (h : ∀ s', Inv X pins σ (upd H a (.ins C dx (putF f y fs))) s' → Q () s') : wpAny (model X.prog X.w) A (setAttr (.ref a) f u) Q E s := by
  obtain ⟨mA, O, r, wi, _, ho⟩ := ins_get I.hok e
  have hz : (fs.map (·.1)).length ≤ sizeLine := by rw [List.length_map, sizeLine_eq]; lia
  refine set_map I.kIn O c.sa c.po n.taker c.hd wi hz fun h' O' sb => h _ ?_
  have hd : ∃ o, h'.get? dx = some o := let ⟨o, _, _, e', _⟩ := O'.ns; ⟨o, e'⟩
  refine I.write (x := a) (e := dx) (by rw [e]; exact True.intro) (.inr ho) (fun b q hb z => (sb.2 b hb).trans z) hd ?_
  refine ⟨by rw [upd_ne O.ne]; exact ho, ?_, O.ne, O'.obj, _, O'.ns, fun g => ?_, fun g hg => ?_⟩
  · have := length_putF f y fs; lia
  · show RelO ((putF f y fs).lookup g) (if g = f then some u else mA g)
    rw [lookup_putF]
    by_cases q : g = f
    · rw [if_pos q, if_pos q]; exact ry
    · rw [if_neg q, if_neg q]; exact r g
  · by_cases q : g = f
    · rw [q]; exact (keys_putF f y fs).1
    · refine (keys_putF f y fs).2 g (wi g fun z => hg ?_)
      show (if g = f then some u else mA g) = none
      rw [if_neg q]; exact z
/-- a new instance, tracked, without attributes -/
theorem Inv.made (I : Inv X pins σ H s) : Inv X pins σ (upd (upd H s.heap.objs.size (.own (s.heap.objs.size + 1))) (s.heap.objs.size + 1) (.ins C s.heap.objs.size []))
    { s with heap := (s.heap.push PySem.W.emptyDict).push (PySem.W.instObj C s.heap.objs.size) } := by
  have e1 : (s.heap.push PySem.W.emptyDict).get? s.heap.objs.size = some PySem.W.emptyDict := Heap.get?_push_size s.heap rfl
  have e2 : ((s.heap.push PySem.W.emptyDict).push (PySem.W.instObj C s.heap.objs.size)).get? (s.heap.objs.size + 1) = some (PySem.W.instObj C s.heap.objs.size) := by
    have := Heap.get?_push_size (s.heap.push PySem.W.emptyDict) (o := PySem.W.instObj C s.heap.objs.size) rfl
    rwa [Heap.size_push] at this
  have e3 : (s.heap.push PySem.W.emptyDict).Ns s.heap.objs.size (fun _ => none) := ⟨PySem.W.emptyDict, #[], _, e1, rfl, (fun e he => absurd he (by simp)), fun _ => rfl⟩
  have I1 := I.laid (a := s.heap.objs.size) (o := .own (s.heap.objs.size + 1)) (h' := s.heap.push PySem.W.emptyDict) (t' := s.toks) (fun b u q => Heap.get?_push_of_some _ q) (Nat.le_refl _) ⟨_, e1⟩
  refine I1.laid (a := s.heap.objs.size + 1) (o := .ins C s.heap.objs.size []) (t' := s.toks) (fun b u q => Heap.get?_push_of_some _ q) (Nat.le_of_eq (Heap.size_push _ _)) ?_
  have ne : s.heap.objs.size ≠ s.heap.objs.size + 1 := Nat.ne_of_lt (Nat.lt_succ_self _)
  refine ⟨by rw [upd_ne ne, upd_same], Nat.zero_le _, ne, e2, fun _ => none, (Heap.Ns1.of_empty e3).at fun o q => Heap.get?_push_of_some _ q, fun _ => True.intro, fun y hy => absurd rfl hy⟩
/-- e.f where nothing but the object is asked: through attributeBase (super) and the last hold -/
theorem attr_of {prog : Program} {w : World} {env : Env} {e : Expr} {f : Str} {pos : Pos} {s : Shared} {Q : Value → Shared → Prop} (hb : attributeBase e f env (eval e env) = eval e env)
    (h : wpAny (model prog w) A (eval e env) (fun o s₁ => wpAny (model prog w) A (getAttr o f true) Q E s₁) E s) : wpAny (model prog w) A (eval (.Attribute e f pos) env) Q E s :=
  Attribute_any_ h (by rw [arm_eval_Attribute, hb])
end
/-- e.f, an attribute of the instance -/
noncomputable def tFld (K : PySem.W.Frag) (ta : TE) (f : Str) : TE := fun σ H Q => ta σ H fun x H1 => ∃ a C dx fs v, x = .ref a ∧ H1 a = some (.ins C dx fs) ∧ Cls K C ∧ NoAttr K C f ∧ fs.lookup f = some v ∧ Q v H1
/-- e.f = value -/
noncomputable def sFld (K : PySem.W.Frag) (ta tv : TE) (f : Str) : TS := fun D σ H => tv σ H fun y H1 => ta σ H1 fun x H2 => ∃ a C dx fs, x = .ref a ∧ H2 a = some (.ins C dx fs) ∧ Cls K C ∧ NoAttr K C f ∧ fs.length < 1000 ∧
  D.nx σ (upd H2 a (.ins C dx (putF f y fs)))
section
variable {X : Cx} {o e value : Expr} {f : Str} {pos pos' tpos : Pos} {ta tv : TE}
theorem pe_fld (he : PE X e ta) (hb : attributeBase e f X.env (eval e X.env) = eval e X.env) : PE X (.Attribute e f pos) (tFld X.K ta f) := by
  intro pins s σ H Q I h
  refine attr_of hb (thn (he pins s σ H _ I h) fun u s1 ⟨x, H1, I1, rx, a, C, dx, fs, v, ex, ea, c, n, l, q⟩ => ?_)
  subst ex
  obtain rfl : u = Value.ref a := rx
  exact getattr_ok I1 ea c n l fun u' s2 I2 ru => ⟨v, H1, I2, ru, q⟩
theorem ps_fld (ha : PE X o ta) (hv : PE X value tv) (hs : swapsWith value (some (.Attribute o f pos')) pos.line X.env = pure false) : PS X (.Assign [.Attribute o f pos'] value pos) (sFld X.K ta tv f) := by
  intro pins s σ H D I h
  refine plainObj_wpAny_Assign_Attribute (thn (hv pins s σ H _ I h) fun u s1 ⟨y, H1, I1, ry, q⟩ => thn (ha pins s1 σ H1 _ I1 q) fun ov s2 ⟨x, H2, I2, rx, a, C, dx, fs, ex, ea, c, n, l, q2⟩ => ?_) hs
  subst ex
  obtain rfl : ov = Value.ref a := rx
  exact setattr_ok I2 ea c n l ry fun s3 I3 => ⟨σ, _, I3, q2⟩
noncomputable def rSub : V → V → Hp → VK → Prop := fun x y H Q => ∃ i j, x = .int i ∧ y = .int j ∧ Q (.int (i - j)) H
/-- what is between an instance and its method: the tree of a method call -/
theorem methcall_of {pl : Sem Bool} {m : Str} {apos : Pos} {args : List Expr} {pins : List (Addr × Obj)} {s : Shared} {σ : St} {H : Hp} {Q : Value → Shared → Prop} {te : TE} (he : PE X e te) (I : Inv X pins σ H s)
    (h : te σ H fun x H1 => ∃ a C dx fs g, x = .ref a ∧ H1 a = some (.ins C dx fs) ∧ Cls X.K C ∧ Meth X.K C m g ∧ fs.lookup m = none ∧
      ∀ s1, Inv X pins σ H1 s1 → wpAny (model X.prog X.w) X.A (callWith pos (.ref g) [.ref a] (backTo pos (starEach args X.env)) (backToKw pos (keywordEach [] X.env))) Q X.xe s1)
    (ht : eval (.Call (.Attribute e m apos) args [] pos) X.env = (do
      let ov ← eval e X.env
      standAt apos.atName
      let (f, first) ← holding [ov] (getMethod ov m pl)
      callWith pos f first (backTo pos (starEach args X.env)) (backToKw pos (keywordEach [] X.env)))) :
    wpAny (model X.prog X.w) X.A (eval (.Call (.Attribute e m apos) args [] pos) X.env) Q X.xe s := by
  refine PySem.W.methodCall_KW (pl := pl) (thn (he pins s σ H _ I h) fun u s1 ⟨x, H1, I1, rx, a, C, dx, fs, g, ex, ea, c, k, l, q⟩ => ?_) ht
  subst ex
  obtain rfl : u = Value.ref a := rx
  exact getmeth_ok I1 ea c k l (q s1 I1)
end
section
variable {X : Cx} {pins : List (Addr × Obj)} {σ : St} {H : Hp} {s : Shared} {A : Around} {E : Value → Shared → Prop} {Q : Value → Shared → Prop} {c : Value} {b : Bool}
/-- the type of a value, as the fragment's deciders take it; for an instance its class -/
inductive TyOf (K : PySem.W.Frag) (H : Hp) : V → Value → Prop where
  | non : TyOf K H .non (.type "NoneType")
  | bl (x : Bool) : TyOf K H (.bl x) (.type "bool")
  | int (i : Int) : TyOf K H (.int i) (.type "int")
  | str (x : Str) : TyOf K H (.str x) (.type "str")
  | flt (x : UInt64) : TyOf K H (.flt x) (.type "float")
  | lst {a : Addr} {xs : List V} (e : H a = some (.lst xs)) : TyOf K H (.ref a) (.type "list")
  | frz {a : Addr} {o : Obj} {xs : List V} (e : H a = some (.frz o (.lst xs))) : TyOf K H (.ref a) (.type "list")
  | tup {a : Addr} {xs : List V} (e : H a = some (.tup xs)) : TyOf K H (.ref a) (.type "tuple")
  | dK {a : Addr} {kvs : List (Key × V)} (e : H a = some (.dK kvs)) : TyOf K H (.ref a) (.type "dict")
  | dT {a : Addr} {kvs : List (List Key × V)} (e : H a = some (.dT kvs)) : TyOf K H (.ref a) (.type "dict")
  | ins {a C dx : Addr} {fs : List (Str × V)} (e : H a = some (.ins C dx fs)) (cl : Cls K C) (ha : PySem.W.findIn K (.ref C) "__class__" = some (some (.builtin "object.__class__")))
      (hn : PySem.W.specialIn K (.builtin "object.__class__") "__get__" = some (some (.builtin "getset_descriptor.__get__"))) (htk : PySem.W.takesIn K (.builtin "object.__class__") = some true)
      (hm : PySem.W.mroIn K C (.type "object") = some true) : TyOf K H (.ref a) (.ref C)
/-- isinstance(x, c) for one class c, a built-in or an own one: kitOne's answer -/
theorem isinst_ok {x : V} {u t : Value} (I : Inv X pins σ H s) (rx : RelV x u) (ty : TyOf X.K H x t) (e : PySem.W.kitOne X.K t c = some b) (h : ∀ tk, Q (.bool b) { s with toks := tk }) :
    wpAny (model X.prog X.w) A (call (.builtin "isinstance") [u, c]) Q E s := by
  cases ty with
  | non => cases (show u = Value.none from rx); exact PySem.W.kia_one PySem.W.kitx_none I.kIn True.intro e (fun z => nomatch z) h
  | bl y => cases (show u = Value.bool y from rx); exact PySem.W.kia_one PySem.W.kitx_bool I.kIn True.intro e (fun z => nomatch z) h
  | int i => obtain ⟨t, q⟩ := (show ∃ t, u = Value.int i t from rx); cases q; exact PySem.W.kia_one PySem.W.kitx_int I.kIn True.intro e (fun z => nomatch z) h
  | str y => obtain ⟨t, q⟩ := (show ∃ t, u = Value.str y t from rx); cases q; exact PySem.W.kia_one PySem.W.kitx_str I.kIn True.intro e (fun z => nomatch z) h
  | flt y => obtain ⟨t, q⟩ := (show ∃ t, u = Value.float y t from rx); cases q; exact PySem.W.kia_one PySem.W.kitx_float I.kIn True.intro e (fun z => nomatch z) h
  | @lst a xs ea =>
    cases (show u = Value.ref a from rx)
    obtain ⟨_, _, n, _, h1⟩ := (show ObjOk X.prog X.w H s.heap a (.lst xs) from I.hok a _ ea)
    exact PySem.W.kia_one PySem.W.kitx_list I.kIn ⟨_, h1, rfl⟩ e (fun z => nomatch z) h
  | @frz a ob xs ea =>
    cases (show u = Value.ref a from rx)
    obtain ⟨_, _, _, n, _, h1⟩ := (show ObjOk X.prog X.w H s.heap a (.frz ob (.lst xs)) from I.hok a _ ea)
    exact PySem.W.kia_one PySem.W.kitx_list I.kIn ⟨_, h1, rfl⟩ e (fun z => nomatch z) h
  | @tup a xs ea =>
    cases (show u = Value.ref a from rx)
    obtain ⟨_, _, _, p⟩ := (show ObjOk X.prog X.w H s.heap a (.tup xs) from I.hok a _ ea)
    obtain ⟨o, h1, h2, _⟩ := p
    exact PySem.W.kia_one PySem.W.kitx_tuple I.kIn ⟨o, h1, h2⟩ e (fun z => nomatch z) h
  | @dK a kvs ea =>
    cases (show u = Value.ref a from rx)
    obtain ⟨_, _, vs, _, p⟩ := (show ObjOk X.prog X.w H s.heap a (.dK kvs) from I.hok a _ ea)
    obtain ⟨o, es, ep, h1, h2, _⟩ := p
    exact PySem.W.kia_one PySem.W.kitx_dict I.kIn ⟨o, h1, h2.1⟩ e (fun z => nomatch z) h
  | @dT a kvs ea =>
    cases (show u = Value.ref a from rx)
    obtain ⟨_, _, xs, _, o, es, ep, h1, h2, _⟩ := (show ObjOk X.prog X.w H s.heap a (.dT kvs) from I.hok a _ ea)
    exact PySem.W.kia_one PySem.W.kitx_dict I.kIn ⟨o, h1, h2.1⟩ e (fun z => nomatch z) h
  | @ins a C dx fs ea cl ha hn htk hm =>
    cases (show u = Value.ref a from rx)
    obtain ⟨mA, O, _⟩ := ins_get I.hok ea
    obtain ⟨od, J, _⟩ := O.look
    exact PySem.W.kia_one (PySem.W.kitx_own (cl.get _) cl.hd ha hn htk hm) I.kIn J e (fun z => nomatch z) h
end
end L2
namespace L2
open PySem PySem.Spec PyProof.Rows
structure Room (k : Nat) (A : Around) : Prop where
  hd : A.handled = none
  dp : A.depth + 3 * k + 5 < recursionLimit
  un : A.units + 16 * k + 200 < cLine
  gd : A.guards = some []
theorem Room.mono {j k : Nat} {A : Around} (r : Room k A) (h : j ≤ k) : Room j A := ⟨r.hd, by have := r.dp; lia, by have := r.un; lia, r.gd⟩
theorem Room.deeper {k : Nat} {A : Around} (r : Room (k + 1) A) (env : Env) : Room k (A.deeper env) :=
  ⟨r.hd, by have := r.dp; show A.depth + 1 + 3 * k + 5 < _; lia, by have := r.un; show A.units + 3 + 16 * k + 200 < _; lia, r.gd⟩
theorem make_depth {A : Around} {C : Addr} {us : List Value} {kw : List (Str × Value)} : (A.under (.builtin "type.__call__" ⟨.ref C :: us, kw⟩)).depth = A.depth + 1 := by
  first | rfl | simp [Around.under, Code.weight, Code.isCreation, Code.isGuard, Code.isCaller, Code.frames, Code.isFrame, guardIds]
theorem make_units {A : Around} {C : Addr} {us : List Value} {kw : List (Str × Value)} : (A.under (.builtin "type.__call__" ⟨.ref C :: us, kw⟩)).units = A.units + 1 := by
  first | rfl | simp [Around.under, Code.cUnits, Code.frames, Code.isFrame]
theorem Room.make {k : Nat} {A : Around} (r : Room (k + 1) A) (C : Addr) (us : List Value) (kw : List (Str × Value)) : Room k (A.under (.builtin "type.__call__" ⟨.ref C :: us, kw⟩)) :=
  ⟨r.hd, by have := r.dp; rw [make_depth]; lia, by have := r.un; rw [make_units]; lia, by have := r.gd; first | exact this | simpa [Around.under, Code.guards, Code.isGuard, guardIds, pushGuards] using this⟩
theorem Room.depth {k : Nat} {A : Around} (r : Room k A) : A.depth < recursionLimit := by have := r.dp; lia
theorem Room.units {k : Nat} {A : Around} (r : Room k A) : A.units + 64 < cLine := by have := r.un; lia
noncomputable def tNil : TA := fun _ H Q => Q [] H
noncomputable def tCons (ta : TE) (tr : TA) : TA := fun σ H Q => ta σ H fun x H1 => tr σ H1 fun xs H2 => Q (x :: xs) H2
section
variable {X : Cx} {e : Expr} {es : List Expr} {te : TE} {t : TA} {pos : Pos}
theorem pa_nil : PA X [] tNil := fun _ _ _ _ H Q I h => Calls.spliced_nil ⟨[], H, I, .nil, h⟩
theorem pa_cons (ha : PE X e te) (hr : PA X es t) (hs : starEach (e :: es) X.env = (false, eval e X.env) :: starEach es X.env := by rfl) : PA X (e :: es) (tCons te t) := by
  intro pos pins s σ H Q I h
  rw [hs]
  show wpAny _ _ (spliced ((false, eval e X.env) :: backTo pos (starEach es X.env))) _ _ s
  refine Calls.spliced_cons (thn (ha pins s σ H _ I h) fun u s1 ⟨x, H1, I1, r1, q1⟩ => ?_)
  exact thn (hr pos pins s1 σ H1 _ I1 q1) fun us s2 ⟨xs, H2, I2, r2, q2⟩ => ⟨x :: xs, H2, I2, .cons r1 r2, q2⟩
/-- a tuple, a list of written items -/
noncomputable def tTup (t : TA) : TE := fun σ H Q => t σ H fun xs H1 => xs.length ≤ sizeLine ∧ ∀ p, H1 p = none → Q (.ref p) (upd H1 p (.tup xs))
noncomputable def tLst (t : TA) : TE := fun σ H Q => t σ H fun xs H1 => xs.length ≤ sizeLine ∧ ∀ p, H1 p = none → Q (.ref p) (upd H1 p (.lst xs))
theorem pe_tup {x1} (h : PA X es t) : PE X (.Tuple es x1 pos) (tTup t) := by
  intro pins s σ H Q I hq
  refine wpAny_Tuple_spliced (thn (h pos pins s σ H _ I hq) fun us s1 ⟨xs, H1, I1, r, z, q⟩ => ⟨by rw [← r.length]; exact z, ?_⟩)
  have hf : H1 s1.heap.objs.size = none := I1.hok.fresh (Nat.le_refl _)
  refine ⟨.ref s1.heap.objs.size, upd H1 s1.heap.objs.size (.tup xs), I1.laid (t' := s1.toks) (fun b u e => Heap.get?_push_of_some _ e) (Nat.le_refl _) ?_, rfl, q _ hf⟩
  exact ⟨z, us, r, IsTupP.mk' _ _⟩
theorem pe_lst (h : PA X es t) : PE X (.List es pos) (tLst t) := by
  intro pins s σ H Q I hq
  refine wpAny_List_spliced (thn (h pos pins s σ H _ I hq) fun us s1 ⟨xs, H1, I1, r, z, q⟩ => ⟨by rw [← r.length]; exact z, ?_⟩)
  have hf : H1 s1.heap.objs.size = none := I1.hok.fresh (Nat.le_refl _)
  refine ⟨.ref s1.heap.objs.size, upd H1 s1.heap.objs.size (.lst xs), I1.laid (t' := s1.toks) (fun b u e => Heap.get?_push_of_some _ e) (Nat.le_refl _) ?_, rfl, q _ hf⟩
  exact ⟨z, us, 0, r, Heap.get?_push_size _ rfl⟩
end
/-- a def's promise: the bound arguments in the parameters' order, the heap, the wanted end, the wanted exception -/
noncomputable abbrev Sp := List V → Hp → VK → XK → Prop
/-- how an exception lies behind a call (file 08 gives it): the callers' frames, abstract heap and state ahead of the call, the wish, the exception, the state -/
noncomputable abbrev CXT := List Env → Hp → Shared → XK → Value → Shared → Prop
/-- the state at a call -/
structure Env0 (P : Program) (w : World) (K : PySem.W.Frag) (mg : Str → Option Value) (base : Heap) (A : Around) (outer : List Env) (s : Shared) (H : Hp) : Prop where
  frames : A.frames = some outer
  mod : Mod K mg base
  bs : ∀ b o, base.get? b = some o → s.heap.get? b = some o ∧ H b = none
  bsz : base.objs.size ≤ s.heap.objs.size
  funs : s.heap.FunFrames base outer
  frf : ∀ b ∈ frs outer, H b = none
  hok : HOk P w H s.heap
  bare : AllBare s.gens
/-- a call's end -/
noncomputable def CE (outer : List Env) (P : Program) (w : World) (H : Hp) (s : Shared) (Q : VK) (u : Value) (s' : Shared) : Prop :=
  ∃ v H', s'.os = s.os ∧ AllBare s'.gens ∧ Un (frs outer) [] H H' s.heap s'.heap ∧ HOk P w H' s'.heap ∧ RelV v u ∧ Q v H'
noncomputable def CR (CX : CXT) (outer : List Env) (P : Program) (w : World) (H : Hp) (s : Shared) (Q : VK) (E : XK) (r : Result) (s' : Shared) : Prop :=
  match r with
  | .ok (.ret u) => CE outer P w H s Q u s'
  | .ok _ => False
  | .error e => CX outer H s E e s'
structure FnOk (P : Program) (w : World) (K : PySem.W.Frag) (mg : Str → Option Value) (base : Heap) (CX : CXT) (k : Nat) (f : Addr) (fd : FuncData) (ps : List Str) (sp : Sp) : Prop where
  len : ∀ vs H Q E, sp vs H Q E → vs.length = ps.length
  run : ∀ (A : Around) (outer : List Env) (s : Shared) (H : Hp) (args : Args) (us : List Value) (vs : List V) (Q : VK) (E : XK), Room k A → Env0 P w K mg base A outer s H → BindsTo s fd args (ps.zip us) → Vals vs us → sp vs H Q E →
    codeAny (model P w) A (.call (.ref f) args) (CR CX outer P w H s Q E) s
/-- a weaker promise -/
theorem FnOk.imp {P : Program} {w : World} {K : PySem.W.Frag} {mg : Str → Option Value} {base : Heap} {CX : CXT} {k : Nat} {f : Addr} {fd : FuncData} {ps : List Str} {sp sp' : Sp} (F : FnOk P w K mg base CX k f fd ps sp)
    (h : ∀ vs H Q E, sp' vs H Q E → sp vs H Q E) : FnOk P w K mg base CX k f fd ps sp' :=
  ⟨fun vs H Q E q => F.len vs H Q E (h _ _ _ _ q), fun A outer s H args us vs Q E hr he hb hv hs => F.run A outer s H args us vs Q E hr he hb hv (h _ _ _ _ hs)⟩
theorem Env0.make {P : Program} {w : World} {K : PySem.W.Frag} {mg : Str → Option Value} {base : Heap} {A : Around} {outer : List Env} {s : Shared} {H : Hp} (e : Env0 P w K mg base A outer s H) (C : Addr) (us : List Value) (kw : List (Str × Value)) :
    Env0 P w K mg base (A.under (.builtin "type.__call__" ⟨.ref C :: us, kw⟩)) outer s H := ⟨by first | exact e.frames | (simpa [Around.under, Code.envs, Code.isFrame, pushEnvs] using e.frames), e.mod, e.bs, e.bsz, e.funs, e.frf, e.hok, e.bare⟩
section
variable {X : Cx} {pins : List (Addr × Obj)} {σ : St} {H : Hp} {s s' : Shared}
/-- from a body: what a callee wants -/
theorem Inv.env0 (I : Inv X pins σ H s) : Env0 X.prog X.w X.K X.mg X.base X.A X.stack s H :=
  ⟨I.ok.frames, I.ok.mod, I.bs, Nat.le_trans I.ok.bsz I.sz, I.stack, I.stkFree, I.hok, I.bare⟩
/-- behind a call -/
theorem Inv.after {Q : VK} {u : Value} (I : Inv X pins σ H s) (h : CE X.stack X.prog X.w H s Q u s') : EP X pins σ Q u s' := by
  obtain ⟨v, H', os, bare, un, hok, r, q⟩ := h
  obtain ⟨hh, g, d, t, os'⟩ := s'
  obtain rfl : os' = s.os := os
  exact ⟨v, H', I.call (h' := hh) (g' := g) (d' := d) (t' := t) (ch := []) un hok bare (fun b z => absurd z (by simp)), r, q⟩
end
/-- f(..): the written arguments, then the defaults dvs; E: what is wanted of an exception -/
noncomputable def tCall (sp : Sp) (dvs : List V) (E : XK) (t : TA) : TE := fun σ H Q => t σ H fun vs H1 => sp (vs ++ dvs) H1 Q E
/-- o.m(..) of an instance of the class at C -/
noncomputable def tMeth (C : Addr) (m : Str) (sp : Sp) (dvs : List V) (E : XK) (ta : TE) (t : TA) : TE := fun σ H Q => ta σ H fun x H1 => ∃ a dx fs, x = .ref a ∧ H1 a = some (.ins C dx fs) ∧ fs.lookup m = none ∧
  t σ H1 fun vs H2 => sp (x :: (vs ++ dvs)) H2 Q E
/-- C(..): a new instance and its dict, then __init__ -/
noncomputable def tMake (C : Addr) (sp : Sp) (dvs : List V) (E : XK) (t : TA) : TE := fun σ H Q => t σ H fun vs H1 => ∀ x dx, H1 x = none → H1 dx = none → dx ≠ x →
  sp (.ref x :: (vs ++ dvs)) (upd (upd H1 dx (.own x)) x (.ins C dx [])) (fun v H2 => v = .non ∧ Q (.ref x) H2) E
/-- how the parameters are bound: us the positional arguments, kw the keywords' values by name, ds the defaults that fill up -/
noncomputable def Binds (K : PySem.W.Frag) (fd : FuncData) (ps : List Str) (ds : List Value) : Prop :=
  ∀ (s : Shared) (us : List Value), K.In s.heap → (us ++ ds).length = ps.length → BindsTo s fd ⟨us, []⟩ (ps.zip (us ++ ds))
/-- every parameter is given -/
theorem Binds.all {K : PySem.W.Frag} {fd : FuncData} {ps : List Str} (h : ∀ us : List Value, us.length = ps.length → bindArgs fd ⟨us, []⟩ = pure (ps.zip us)) : Binds K fd ps [] := fun s us _ hl => by
  rw [List.append_nil] at hl ⊢
  exact .of_eq (h us hl)
/-- an exception of a callee reaches what this body wants of exceptions -/
noncomputable def Passes (CX : CXT) (X : Cx) (E : XK) : Prop := ∀ (pins : List (Addr × Obj)) (σ : St) (H : Hp) (s : Shared) (e : Value) (s' : Shared), Inv X pins σ H s → CX X.stack H s E e s' → X.xe e s'
section
variable {X : Cx} {CX : CXT} {k : Nat} {f C : Addr} {fd : FuncData} {ps : List Str} {sp : Sp} {dvs : List V} {ds : List Value} {E : XK} {x m : Str} {p pos apos : Pos} {e o : Expr} {es : List Expr} {ta : TE} {t : TA}
/-- the callee runs -/
theorem run_fn {pins : List (Addr × Obj)} {σ : St} {H : Hp} {s : Shared} {Q : VK} {us : List Value} {vs : List V} (F : FnOk X.prog X.w X.K X.mg X.base CX k f fd ps sp) (hr : Room k X.A) (hb : Binds X.K fd ps ds) (hd : Vals dvs ds) (hx : Passes CX X E)
    (I : Inv X pins σ H s) (r : Vals vs us) (h : sp (vs ++ dvs) H Q E) : wpAny (model X.prog X.w) X.A (call (.ref f) us) (EP X pins σ Q) X.xe s := by
  have r2 : Vals (vs ++ dvs) (us ++ ds) := r.append hd
  have hl : (us ++ ds).length = ps.length := by rw [← r2.length]; exact F.len _ _ _ _ h
  refine wpAny_call (codeAny_mono (F.run X.A X.stack s H ⟨us, []⟩ (us ++ ds) (vs ++ dvs) Q E hr I.env0 (hb s us I.kIn hl) r2 h) fun r s' hq => ?_)
  cases r with
  | error e => exact hx pins σ H s e s' I hq
  | ok fl =>
    cases fl with
    | ret u => exact I.after hq
    | next => exact False.elim hq
    | brk => exact False.elim hq
    | cont => exact False.elim hq
theorem pe_call (F : FnOk X.prog X.w X.K X.mg X.base CX k f fd ps sp) (hr : Room k X.A) (hg : Gl X x) (hm : X.mg x = some (.ref f)) (hk : PySem.W.keepIn X.K (.ref f) = true) (hb : Binds X.K fd ps ds) (hd : Vals dvs ds) (hx : Passes CX X E)
    (ha : PA X (e :: es) t) (hdb : (x == ("__debug__" : Str)) = false := by decide) (he : starEach (e :: es) X.env = (false, eval e X.env) :: starEach es X.env := by rfl) (hpl : (backTo pos (starEach es X.env)).any (·.1) = false := by rfl) :
    PE X (.Call (.Name x p) (e :: es) [] pos) (tCall sp dvs E t) := by
  intro pins s σ H Q I h
  refine wpAny_Call_Name_kw (ld_glob I hg hm ?_ hdb)
  refine PySem.W.callWith_K (h₀ := X.base) I.ok.mod.kin hk (thn (ha pos pins s σ H _ I h) fun us s1 ⟨vs, H1, I1, r, q⟩ => ⟨I1.kIn, ?_⟩) he hpl
  exact run_fn F hr hb hd hx I1 r q
/-- o.m(e, ..) -/
theorem pe_meth {pl : Sem Bool} (he : PE X o ta) (c : Cls X.K C) (hm : Meth X.K C m f) (F : FnOk X.prog X.w X.K X.mg X.base CX k f fd ps sp) (hr : Room k X.A) (hb : Binds X.K fd ps ds) (hd : Vals dvs ds) (hx : Passes CX X E) (ha : PA X (e :: es) t)
    (hst : starEach (e :: es) X.env = (false, eval e X.env) :: starEach es X.env := by rfl) (hpl : (backTo pos (starEach es X.env)).any (·.1) = false := by rfl)
    (ht : eval (.Call (.Attribute o m apos) (e :: es) [] pos) X.env = (do
      let ov ← eval o X.env
      standAt apos.atName
      let (f, first) ← holding [ov] (getMethod ov m pl)
      callWith pos f first (backTo pos (starEach (e :: es) X.env)) (backToKw pos (keywordEach [] X.env))) := by rfl) :
    PE X (.Call (.Attribute o m apos) (e :: es) [] pos) (tMeth C m sp dvs E ta t) := by
  intro pins s σ H Q I h
  refine PySem.W.methodCall_KW (pl := pl) (thn (he pins s σ H _ I h) fun u s1 ⟨x, H1, I1, rx, a, dx, fs, ex, ea, l, q⟩ => ?_) ht
  subst ex
  obtain rfl : u = Value.ref a := rx
  refine getmeth_ok I1 ea c hm l ?_
  refine PySem.W.callWith_K (first := [.ref a]) (h₀ := X.base) I.ok.mod.kin hm.kp (thn (ha pos pins s1 σ H1 _ I1 q) fun us s2 ⟨vs, H2, I2, r, q2⟩ => ⟨I2.kIn, ?_⟩) hst hpl
  exact run_fn (us := .ref a :: us) (vs := .ref a :: vs) F hr hb hd hx I2 (.cons rfl r) q2
/-- o.m() -/
theorem pe_meth0 {pl : Sem Bool} (he : PE X o ta) (c : Cls X.K C) (hm : Meth X.K C m f) (F : FnOk X.prog X.w X.K X.mg X.base CX k f fd ps sp) (hr : Room k X.A) (hb : Binds X.K fd ps ds) (hd : Vals dvs ds) (hx : Passes CX X E)
    (ht : eval (.Call (.Attribute o m apos) [] [] pos) X.env = (do
      let ov ← eval o X.env
      standAt apos.atName
      let (f, first) ← holding [ov] (getMethod ov m pl)
      callWith pos f first (backTo pos (starEach [] X.env)) (backToKw pos (keywordEach [] X.env))) := by rfl) :
    PE X (.Call (.Attribute o m apos) [] [] pos) (tMeth C m sp dvs E ta tNil) := by
  intro pins s σ H Q I h
  refine PySem.W.methodCall_KW (pl := pl) (thn (he pins s σ H _ I h) fun u s1 ⟨x, H1, I1, rx, a, dx, fs, ex, ea, l, q⟩ => ?_) ht
  subst ex
  obtain rfl : u = Value.ref a := rx
  refine getmeth_ok I1 ea c hm l ?_
  exact PySem.W.callWith_K0 (first := [.ref a]) I1.kIn hm.kp (run_fn (us := [.ref a]) (vs := [.ref a]) F hr hb hd hx I1 (.cons rfl .nil) q)
/-- what a class must have to be made -/
structure Mk (K : PySem.W.Frag) (C f : Addr) : Prop where
  makes : PySem.W.makesIn K C = true
  init : PySem.W.findIn K (.ref C) "__init__" = some (some (.ref f))
  fn : PySem.W.isFn K (.ref f) = true
  kp : PySem.W.keepIn K (.ref C) = true
theorem run_make {pins : List (Addr × Obj)} {σ : St} {H : Hp} {s : Shared} {Q : VK} {us : List Value} {vs : List V} (M : Mk X.K C f) (F : FnOk X.prog X.w X.K X.mg X.base CX k f fd ps sp) (hr : Room (k + 1) X.A) (hb : Binds X.K fd ps ds) (hd : Vals dvs ds)
    (hx : Passes CX X E) (I : Inv X pins σ H s) (r : Vals vs us)
    (h : ∀ x dx, H x = none → H dx = none → dx ≠ x → sp (.ref x :: (vs ++ dvs)) (upd (upd H dx (.own x)) x (.ins C dx [])) (fun v H2 => v = .non ∧ Q (.ref x) H2) E) :
    wpAny (model X.prog X.w) X.A (call (.ref C) us) (EP X pins σ Q) X.xe s := by
  have hq := h (s.heap.objs.size + 1) s.heap.objs.size (I.hok.fresh (Nat.le_succ _)) (I.hok.fresh (Nat.le_refl _)) (Nat.ne_of_lt (Nat.lt_succ_self _))
  have I2 := Inv.made (C := C) I
  have r2 : Vals (V.ref (s.heap.objs.size + 1) :: (vs ++ dvs)) (Value.ref (s.heap.objs.size + 1) :: (us ++ ds)) := .cons rfl (r.append hd)
  have hl : (Value.ref (s.heap.objs.size + 1) :: us ++ ds).length = ps.length := by
    have e := r2.length
    rw [F.len _ _ _ _ hq] at e
    exact e.symm
  refine wpAny_call (make_map (f := f) I.kIn M.makes M.init (beq_iff_eq.mp M.fn) (codeAny_mono (F.run _ X.stack _ _ ⟨Value.ref (s.heap.objs.size + 1) :: us, []⟩ (Value.ref (s.heap.objs.size + 1) :: (us ++ ds)) _ _ E (hr.make C us [])
    (I2.env0.make C us []) (hb _ (Value.ref (s.heap.objs.size + 1) :: us) I2.kIn hl) r2 hq) fun r s' hq' => ?_))
  cases r with
  | error e => exact hx pins σ _ _ e s' I2 hq'
  | ok fl =>
    cases fl with
    | ret u =>
      obtain ⟨v, H', I3, rv, ev, q3⟩ := I2.after hq'
      subst ev
      exact ⟨rv, ⟨V.ref (s.heap.objs.size + 1), H', I3, rfl, q3⟩⟩
    | next => exact False.elim hq'
    | brk => exact False.elim hq'
    | cont => exact False.elim hq'
theorem pe_make0 (M : Mk X.K C f) (F : FnOk X.prog X.w X.K X.mg X.base CX k f fd ps sp) (hr : Room (k + 1) X.A) (hg : Gl X x) (hm : X.mg x = some (.ref C)) (hb : Binds X.K fd ps ds) (hd : Vals dvs ds) (hx : Passes CX X E)
    (hdb : (x == ("__debug__" : Str)) = false := by decide) : PE X (.Call (.Name x p) [] [] pos) (tMake C sp dvs E tNil) := by
  intro pins s σ H Q I h
  refine wpAny_Call_Name_kw (ld_glob I hg hm ?_ hdb)
  exact PySem.W.callWith_K0 I.kIn M.kp (run_make (us := []) M F hr hb hd hx I .nil h)
end
section
variable {X : Cx} {CX : CXT} {k : Nat} {f C : Addr} {fd : FuncData} {ps ks : List Str} {sp : Sp} {E : XK} {x m : Str} {p pos apos kpos : Pos} {e o : Expr} {es : List Expr} {kws : List Keyword} {te ta : TE} {t tk : TA} {nm : Option Str}
/-- how a call with keywords binds: g puts the positional values us and the keywords' values ws (names ks) in the parameters' order, defaults among them -/
structure KBinds (K : PySem.W.Frag) (fd : FuncData) (ps ks : List Str) (g : List Value → List Value → List Value) (gV : List V → List V → List V) : Prop where
  to : ∀ (s : Shared) (us ws : List Value), K.In s.heap → (g us ws).length = ps.length → BindsTo s fd ⟨us, ks.zip ws⟩ (ps.zip (g us ws))
  rel : ∀ {vs : List V} {us : List Value} {zs : List V} {ws : List Value}, Vals vs us → Vals zs ws → Vals (gV vs zs) (g us ws)
variable {g : List Value → List Value → List Value} {gV : List V → List V → List V}
end
/-- names: the parameters first -/
structure FnScope (N P : List Str) (sc : Scope) : Prop where
  kind : sc.kind = .function
  co : sc.isCoroutine = false
  gen : sc.isGenerator = false
  nd : N.Nodup
  pre : N.take P.length = P
  par : ∀ x ∈ P, sc.names.lookup x = some .local ∨ sc.names.lookup x = some .cell
  nofree : ∀ y ∈ sc.names, y.2 ≠ .free
theorem bindL_out {kindOf : Str → Option NameKind} {x : Str} : ∀ {binds : List (Str × Value)} {m : Str → Option Value}, (∀ v, (x, v) ∉ binds) → bindL kindOf binds m x = m x
  | [], _, _ => rfl
  | (n, v) :: r, m, h => by
    unfold bindL
    rw [bindL_out fun w hw => h w (List.mem_cons_of_mem _ hw)]
    split
    · have : x ≠ n := by rintro rfl; exact h v List.mem_cons_self
      simp [this]
    · rfl
theorem bindC_out {kindOf : Str → Option NameKind} {x : Str} : ∀ {binds : List (Str × Value)} {m : Str → Option Value}, (∀ v, (x, v) ∉ binds) → bindC kindOf binds m x = m x
  | [], _, _ => rfl
  | (n, v) :: r, m, h => by
    unfold bindC
    rw [bindC_out fun w hw => h w (List.mem_cons_of_mem _ hw)]
    split
    · rfl
    · have : x ≠ n := by rintro rfl; exact h v List.mem_cons_self
      simp [this]
theorem bindL_get {kindOf : Str → Option NameKind} {x : Str} {v : Value} : ∀ {P : List Str} {vs : List Value} {i : Nat} {m : Str → Option Value}, P.Nodup → P[i]? = some x → vs[i]? = some v → kindOf x = some .local →
    bindL kindOf (P.zip vs) m x = some v
  | [], _, _, _, _, h, _, _ => by simp at h
  | _ :: _, [], _, _, _, _, h, _ => by simp at h
  | p :: P, w :: vs, 0, m, nd, h1, h2, hk => by
    simp at h1 h2; subst h1; subst h2
    show bindL kindOf ((p, w) :: P.zip vs) m p = _
    unfold bindL
    rw [bindL_out fun v hv => (List.nodup_cons.mp nd).1 (List.of_mem_zip hv).1, if_pos hk]
    simp
  | p :: P, w :: vs, i + 1, m, nd, h1, h2, hk => by
    show bindL kindOf ((p, w) :: P.zip vs) m x = _
    unfold bindL
    exact bindL_get (i := i) (List.nodup_cons.mp nd).2 (by simpa using h1) (by simpa using h2) hk
theorem bindC_get {kindOf : Str → Option NameKind} {x : Str} {v : Value} : ∀ {P : List Str} {vs : List Value} {i : Nat} {m : Str → Option Value}, P.Nodup → P[i]? = some x → vs[i]? = some v → kindOf x ≠ some .local →
    bindC kindOf (P.zip vs) m x = some v
  | [], _, _, _, _, h, _, _ => by simp at h
  | _ :: _, [], _, _, _, _, h, _ => by simp at h
  | p :: P, w :: vs, 0, m, nd, h1, h2, hk => by
    simp at h1 h2; subst h1; subst h2
    show bindC kindOf ((p, w) :: P.zip vs) m p = _
    unfold bindC
    rw [bindC_out fun v hv => (List.nodup_cons.mp nd).1 (List.of_mem_zip hv).1, if_neg hk]
    simp
  | p :: P, w :: vs, i + 1, m, nd, h1, h2, hk => by
    show bindC kindOf ((p, w) :: P.zip vs) m x = _
    unfold bindC
    exact bindC_get (i := i) (List.nodup_cons.mp nd).2 (by simpa using h1) (by simpa using h2) hk
/-- the names' values at the entry -/
noncomputable def start (N : List Str) (vs : List V) : St := vs.map some ++ List.replicate (N.length - vs.length) none
/-- the context of a def's body, at its entry; an exception leaves the frame, then lies as CX says -/
noncomputable def cxOf (CX : CXT) (P : Program) (w : World) (K : PySem.W.Frag) (mg : Str → Option Value) (base : Heap) (N : List Str) (qual : Str) (scope : Scope) (f : Addr) (cd : Value) (A : Around) (outer : List Env) (s : Shared) (H : Hp) (E : XK) : Cx where
  prog := P
  w := w
  K := K
  mg := mg
  base := base
  A := A.deeper (envOfC qual scope s.heap.objs.size f cd)
  N := N
  s₀ := s
  H₀ := H
  env := envOfC qual scope s.heap.objs.size f cd
  outer := outer
  stack := envOfC qual scope s.heap.objs.size f cd :: outer
  ex := []
  calm := true
  fn := fun _ => true
  pn := []
  xe := fun e s' => wpAny (model P w) (A.deeper (envOfC qual scope s.heap.objs.size f cd)) (leaving (envOfC qual scope s.heap.objs.size f cd) e) (fun _ s'' => CX outer H s E e s'') (fun e' s'' => CX outer H s E e' s'') s'
theorem cell_has {sc : Scope} {n : Nat} {x : Str} (h : sc.names.lookup x = some .cell) : ∃ c, (cellsFrom n sc.names []).lookup x = some c := by
  have q := PySem.W.cellsFrom_some sc.names n [] (.inl h)
  exact Option.isSome_iff_exists.mp q
theorem inv_start {CX : CXT} {P : Program} {w : World} {K : PySem.W.Frag} {mg : Str → Option Value} {base : Heap} {N ps : List Str} {qual : Str} {scope : Scope} {f : Addr} {cd : Value} {A : Around} {outer : List Env} {s s1 : Shared} {H : Hp} {E : XK} {us : List Value} {vs : List V}
    (S : FnScope N ps scope) (hd : A.handled = none) (e0 : Env0 P w K mg base A outer s H) (hl : vs.length = ps.length) (r : Vals vs us)
    (x : InCallC s s.heap.objs.size (bindL (envOfC qual scope s.heap.objs.size f cd).kindOf (ps.zip us) fun _ => none) (cellsFrom (s.heap.objs.size + 1) scope.names []) (bindC (envOfC qual scope s.heap.objs.size f cd).kindOf (ps.zip us) fun _ => none) s1) :
    Inv (cxOf CX P w K mg base N qual scope f cd A outer s H E) [] (start N vs) H s1 := by
  have hpl : ps.length ≤ N.length := by have := congrArg List.length S.pre; rw [List.length_take] at this; lia
  obtain ⟨h1, tk, rfl, hk⟩ := x.done
  have noA : ∀ b : Addr, b ∉ (cxOf CX P w K mg base N qual scope f cd A outer s H E).ex := fun b z => absurd (show b ∈ ([] : List Addr) from z) (by simp)
  refine ⟨⟨e0.mod, S.kind, rfl, rfl, Nat.le_refl _, fun y z c h1 h2 => ?_, fun y hy => ?_, fun y c _ h => ?_, fun _ => hd, Around.frames_deeper e0.frames, .inr ⟨rfl, rfl⟩, fun b z => absurd z (noA b), e0.bs, e0.bsz, fun b _ _ => noA b, fun b z => absurd z (noA b), e0.funs, e0.frf⟩,
    rfl, e0.bare, Un.kept hk, ⟨_, x.toInCall.ns, fun i y v h1 h2 h3 => ?_⟩, fun y c h => ⟨_, x.cell y c h⟩, e0.hok.fresh (Nat.le_refl _), fun y c h => ?_, fun p hp => absurd (show p ∈ ([] : List (Addr × Obj)) from hp) (by simp), e0.hok.kept hk, ?_⟩
  · exact name_of_addr x.apart (PySem.mem_of_lookup h1) (PySem.mem_of_lookup h2)
  · have hy : scope.names.lookup y = some .cell ∨ scope.names.lookup y = some .free := hy
    rcases hy with hy | hy
    · exact cell_has hy
    · exact absurd rfl (S.nofree _ (PySem.mem_of_lookup hy))
  · exact Nat.le_of_lt (x.above y c (PySem.mem_of_lookup h))
  · have hi : i < vs.length := by
      unfold start at h2
      by_cases hi : i < vs.length
      · exact hi
      · rw [List.getElem?_append_right (by simpa using hi)] at h2
        rw [List.getElem?_replicate] at h2
        split at h2 <;> cases h2
    have ha : vs[i]? = some v := by
      unfold start at h2
      rw [List.getElem?_append_left (by simpa using hi), List.getElem?_map] at h2
      cases e : vs[i]? with
      | none => rw [e] at h2; cases h2
      | some a => rw [e] at h2; cases h2; rfl
    obtain ⟨u, hu, rv⟩ := r.get ha
    have hp : ps[i]? = some y := by
      rw [← S.pre, List.getElem?_take_of_lt (by lia)]; exact h1
    have ndP : ps.Nodup := by rw [← S.pre]; exact S.nd.sublist (List.take_sublist _ _)
    refine ⟨u, rv, ?_⟩
    rcases S.par y (List.mem_of_getElem? hp) with k | k
    · exact .inl ⟨k, bindL_get ndP hp hu k⟩
    · obtain ⟨c, e⟩ := cell_has (n := s.heap.objs.size + 1) k
      refine .inr ⟨.inl k, c, e, ?_⟩
      have q := x.cell y c e
      rw [bindC_get ndP hp hu (by show scope.names.lookup y ≠ _; rw [k]; decide)] at q
      exact q
  · exact e0.hok.fresh (Nat.le_of_lt (x.above y c (PySem.mem_of_lookup h)))
  · unfold start
    show _ = N.length
    rw [List.length_append, List.length_map, List.length_replicate]
    lia
/-- THE RULE: a def (or a method) of the text, by its body. The body's reading t is chosen for each entry; it is run at the parameters' values -/
theorem fn_of {CX : CXT} {P : Program} {w : World} {K : PySem.W.Frag} {mg : Str → Option Value} {base : Heap} {k : Nat} {f : Addr} {name qual : Str} {params : Arguments} {body : List Stmt} {scope : Scope} {dV kV doc pm cdv ct oc : Value} {an od : Option Addr}
    {osl : Array (Option Value)} {N ps : List Str} {sp : Sp} (lk : K.lookup f = some ⟨oc, od, .func (PySem.W.fnOf name qual params body scope dV kV doc pm an cdv ct), osl⟩) (hcd : PySem.W.codeIn K cdv qual = true) (S : FnScope N ps scope)
    (len : ∀ vs H Q E, sp vs H Q E → vs.length = ps.length)
    (hbody : ∀ (A : Around) (outer : List Env) (s : Shared) (H : Hp) (vs : List V) (Q : VK) (E : XK), Room k (A.deeper (envOfC qual scope s.heap.objs.size f cdv)) → sp vs H Q E →
      ∃ t, PSs (cxOf CX P w K mg base N qual scope f cdv A outer s H E) body t ∧ t { nx := fun _ H' => Q .non H', rt := Q } (start N vs) H) :
    FnOk P w K mg base CX (k + 1) f (PySem.W.fnOf name qual params body scope dV kV doc pm an cdv ct) ps sp := by
  refine ⟨len, fun A outer s H args us vs Q E hr e0 hb r hsp => ?_⟩
  have hl := len _ _ _ _ hsp
  have KX : K.In s.heap := e0.mod.kin.keeps fun b o e => (e0.bs b o e).1
  have lim : s.heap.NoLimit := e0.mod.nolimit.keeps fun b o e => (e0.bs b o e).1
  have hkind : ∀ y ∈ ps.zip us, scope.names.lookup y.1 = some .local ∨ (scope.names.lookup y.1 = some .cell ∧ ((cellsFrom (s.heap.objs.size + 1) scope.names []).lookup y.1).isSome = true) := fun ⟨n, v⟩ hy => by
    rcases S.par n (List.of_mem_zip hy).1 with q | q
    · exact .inl q
    · exact .inr ⟨q, PySem.W.cellsFrom_some _ _ _ (.inl q)⟩
  refine codeAny_call_function hr.depth (KX _ _ lk) rfl S.co S.gen rfl (PySem.W.codeRec_of KX hcd) (hb _ _ _ _ ?_)
  refine wpAny_newFunctionEnv_cells S.kind hkind fun env he s1 x => ?_
  subst he
  refine ⟨lim.keeps x.toInCall.keep, codeAny_func ?_⟩
  obtain ⟨t, ht, hq⟩ := hbody A outer s H vs Q E (hr.deeper _) hsp
  have I : Inv (cxOf CX P w K mg base N qual scope f cdv A outer s H E) [] (start N vs) H s1 := inv_start S hr.hd e0 hl r x
  refine wpAny_mono (ht [] s1 (start N vs) H _ I hq) (fun fl s' hs => ?_) fun e s' hs => hs
  have fin : ∀ {σ' : St} {H' : Hp} {v : V} {u : Value}, Inv (cxOf CX P w K mg base N qual scope f cdv A outer s H E) [] σ' H' s' → RelV v u → Q v H' → CE outer P w H s Q u s' :=
    fun {σ' H' v u} J rv q => ⟨v, H', J.os, J.bare, J.base, J.hok, rv, q⟩
  cases fl with
  | ret u =>
    obtain ⟨v, σ', H', J, rv, q⟩ := hs
    exact fin J rv q
  | next =>
    obtain ⟨σ', H', J, q⟩ := hs
    exact fin (v := V.non) (u := Value.none) J rfl q
  | brk =>
    obtain ⟨_, _, _, q⟩ := hs
    exact False.elim q
  | cont =>
    obtain ⟨_, _, _, q⟩ := hs
    exact False.elim q
end L2
namespace L2
open PySem PySem.Spec PyProof.Rows
section
variable {X : Cx} {x : Str} {p pos : Pos} {e : Expr} {es : List Expr} {t : TA} {id T : String} {r : List V → Hp → VK → Prop}
noncomputable def tCB (r : List V → Hp → VK → Prop) (t : TA) : TE := fun σ H Q => t σ H fun vs H1 => r vs H1 Q
/-- f(e, ..), f a built-in function -/
theorem pe_callB (hc : CallR X (.builtin id) r) (hg : Gl X x) (hm : X.mg x = none) (hv : bootBuiltins x = some (.builtin id)) (ha : PA X (e :: es) t) (hn : x ≠ "__name__" := by decide) (hdb : (x == ("__debug__" : Str)) = false := by decide)
    (he : starEach (e :: es) X.env = (false, eval e X.env) :: starEach es X.env := by rfl) (hpl : (backTo pos (starEach es X.env)).any (·.1) = false := by rfl) : PE X (.Call (.Name x p) (e :: es) [] pos) (tCB r t) := by
  intro pins s σ H Q I h
  refine wpAny_Call_Name_kw (ld_blt I hg hm hv ?_ hn hdb)
  exact PyProof.Rows.callWith_builtin1 (thn (ha pos pins s σ H _ I h) fun us s1 ⟨vs, H1, I1, r1, q1⟩ => hc pins s1 σ H1 vs us Q I1 r1 q1) he hpl
/-- T(e, ..), T a built-in type -/
theorem pe_callTy (hc : CallR X (.type T) r) (hg : Gl X x) (hm : X.mg x = none) (hv : bootBuiltins x = some (.type T)) (ha : PA X (e :: es) t) (hn : x ≠ "__name__" := by decide) (hdb : (x == ("__debug__" : Str)) = false := by decide)
    (he : starEach (e :: es) X.env = (false, eval e X.env) :: starEach es X.env := by rfl) (hpl : (backTo pos (starEach es X.env)).any (·.1) = false := by rfl) : PE X (.Call (.Name x p) (e :: es) [] pos) (tCB r t) := by
  intro pins s σ H Q I h
  refine wpAny_Call_Name_kw (ld_blt I hg hm hv ?_ hn hdb)
  exact PyProof.Rows.callWith_type1 (thn (ha pos pins s σ H _ I h) fun us s1 ⟨vs, H1, I1, r1, q1⟩ => hc pins s1 σ H1 vs us Q I1 r1 q1) he hpl
end
end L2
namespace L2
open PySem PySem.Spec PyProof.Rows
section
variable {κ : Type} [DecidableEq κ]
noncomputable def valV (kvs : List (κ × V)) (k : κ) : Option V := (kvs.find? fun kv => decide (kv.1 = k)).map (·.2)
/-- in its place, or at the end -/
noncomputable def putK (kvs : List (κ × V)) (k : κ) (v : V) : List (κ × V) :=
  if (kvs.any fun kv => decide (kv.1 = k)) = true then kvs.map (fun kv => if kv.1 = k then (kv.1, v) else kv) else kvs ++ [(k, v)]
theorem valV_pos {p : κ × V} {r : List (κ × V)} {k : κ} (e : p.1 = k) : valV (p :: r) k = some p.2 := by simp [valV, List.find?_cons, e]
theorem valV_neg {p : κ × V} {r : List (κ × V)} {k : κ} (e : ¬ p.1 = k) : valV (p :: r) k = valV r k := by simp [valV, List.find?_cons, e]
theorem valV_any (k : κ) : ∀ kvs : List (κ × V), (kvs.any fun kv => decide (kv.1 = k)) = (valV kvs k).isSome
  | [] => rfl
  | p :: r => by
    rw [List.any_cons]
    by_cases e : p.1 = k
    · simp only [valV_pos e, decide_eq_true e, Bool.true_or, Option.isSome_some]
    · rw [valV_neg e, decide_eq_false e, Bool.false_or]; exact valV_any k r
theorem length_putK (kvs : List (κ × V)) (k : κ) (v : V) : (putK kvs k v).length ≤ kvs.length + 1 := by
  unfold putK
  split
  · rw [List.length_map]; lia
  · rw [List.length_append, List.length_cons, List.length_nil]; lia
theorem RelO.isSome_eq {o : Option V} {u : Option Value} (r : RelO o u) : o.isSome = u.isSome := by
  cases o with
  | none => cases u with
    | none => rfl
    | some _ => exact (show False from r).elim
  | some _ => cases u with
    | none => exact (show False from r).elim
    | some _ => rfl
/-- raw tables of the same keys -/
theorem KV.val {kvs : List (κ × V)} {vs : List (κ × Value)} (r : KV kvs vs) (k : κ) : RelO (valV kvs k) (valueAt vs k) := by
  unfold KV at r
  induction r with
  | nil => exact True.intro
  | @cons p q ps qs h t ih =>
    obtain ⟨h1, h2⟩ := h
    by_cases e : p.1 = k
    · have e' : q.1 = k := h1.symm.trans e
      have b : valueAt (q :: qs) k = some q.2 := by simp [valueAt, List.find?_cons, e']
      rw [valV_pos e, b]; exact h2
    · have e' : ¬ q.1 = k := fun z => e (h1.trans z)
      have b : valueAt (q :: qs) k = valueAt qs k := by simp [valueAt, List.find?_cons, e']
      rw [valV_neg e, b]; exact ih
theorem KV.any {kvs : List (κ × V)} {vs : List (κ × Value)} (r : KV kvs vs) (k : κ) : (kvs.any fun kv => decide (kv.1 = k)) = vs.any fun kv => decide (kv.1 = k) := by
  unfold KV at r
  induction r with
  | nil => rfl
  | cons h t ih => rw [List.any_cons, List.any_cons, ih, h.1]
theorem KV.repl {kvs : List (κ × V)} {vs : List (κ × Value)} (r : KV kvs vs) (k : κ) {y : V} {u : Value} (ry : RelV y u) :
    KV (kvs.map fun kv => if kv.1 = k then (kv.1, y) else kv) (vs.map fun kv => if kv.1 = k then (kv.1, u) else kv) := by
  unfold KV at r ⊢
  induction r with
  | nil => exact .nil
  | @cons p q ps qs h t ih =>
    rw [List.map_cons, List.map_cons]
    refine .cons ?_ ih
    obtain ⟨h1, h2⟩ := h
    by_cases e : p.1 = k
    · rw [if_pos e, if_pos (h1.symm.trans e)]; exact ⟨h1, ry⟩
    · rw [if_neg e, if_neg (fun z => e (h1.trans z))]; exact ⟨h1, h2⟩
theorem KV.put {kvs : List (κ × V)} {vs : List (κ × Value)} (r : KV kvs vs) (k : κ) {y : V} {u : Value} (ry : RelV y u) : KV (putK kvs k y) (stored vs k u) := by
  unfold putK stored
  rw [r.any k]
  by_cases e : (vs.any fun kv => decide (kv.1 = k)) = true
  · rw [if_pos e, if_pos e]; exact r.repl k ry
  · rw [if_neg e, if_neg e]; exact Paired.snoc r ⟨rfl, ry⟩
theorem KV.length {kvs : List (κ × V)} {vs : List (κ × Value)} (r : KV kvs vs) : kvs.length = vs.length := Paired.length r
end
theorem kV_is {P : Program} {w : World} {k : Key} {u : Value} (r : RelV (kV k) u) : (mixKind P w).is k u = true := by
  cases k with
  | inl i => obtain ⟨t, e⟩ := (show ∃ t, u = Value.int i t from r); subst e; exact mixKind_int P w i t
  | inr x => obtain ⟨t, e⟩ := (show ∃ t, u = Value.str x t from r); subst e; exact mixKind_str P w x t
theorem items_are {P : Program} {w : World} : ∀ {ks : List Key} {us : List Value}, Vals (ks.map kV) us → ItemsAre (mixKind P w) ks us
  | [], _, r => by rw [List.map_nil] at r; cases r; exact .nil
  | k :: ks, _, r => by
    rw [List.map_cons] at r
    cases r with
    | cons h t => exact .cons (kV_is h) (items_are t)
/-- raw entries of a dict with tuple keys -/
noncomputable abbrev KT (H : Hp) : List (List Key × V) → List (List Key × Addr × Value) → Prop := Paired fun p q => p.1 = q.1 ∧ H q.2.1 = some (.tup (p.1.map kV)) ∧ RelV p.2 q.2.2
theorem KT.val {H : Hp} {kvs : List (List Key × V)} {xs : List (List Key × Addr × Value)} (r : KT H kvs xs) (k : List Key) : RelO (valV kvs k) ((atKey xs k).map (·.2)) := by
  induction r with
  | nil => exact True.intro
  | @cons p q ps qs h t ih =>
    obtain ⟨h1, _, h2⟩ := h
    by_cases e : p.1 = k
    · have e' : q.1 = k := h1.symm.trans e
      have b : atKey (q :: qs) k = some q.2 := by simp [atKey, List.find?_cons, e']
      rw [valV_pos e, b]; exact h2
    · have e' : ¬ q.1 = k := fun z => e (h1.trans z)
      have b : atKey (q :: qs) k = atKey qs k := by simp [atKey, List.find?_cons, e']
      rw [valV_neg e, b]; exact ih
theorem KT.repl {H : Hp} {kvs : List (List Key × V)} {xs : List (List Key × Addr × Value)} (r : KT H kvs xs) (k : List Key) {y : V} {u : Value} (ry : RelV y u) :
    KT H (kvs.map fun kv => if kv.1 = k then (kv.1, y) else kv) (xs.map (putAt k u)) := by
  induction r with
  | nil => exact .nil
  | @cons p q ps qs h t ih =>
    rw [List.map_cons, List.map_cons]
    refine .cons ?_ ih
    obtain ⟨h1, h2, h3⟩ := h
    unfold putAt
    by_cases e : p.1 = k
    · rw [if_pos e, if_pos (h1.symm.trans e)]; exact ⟨h1, h2, ry⟩
    · rw [if_neg e, if_neg (fun z => e (h1.trans z))]; exact ⟨h1, h2, h3⟩
theorem KT.put {H : Hp} {kvs : List (List Key × V)} {xs : List (List Key × Addr × Value)} (r : KT H kvs xs) (k : List Key) {b : Addr} {y : V} {u : Value} (hb : H b = some (.tup (k.map kV))) (ry : RelV y u) :
    KT H (putK kvs k y) (storedH xs k b u) := by
  have e : (kvs.any fun kv => decide (kv.1 = k)) = (atKey xs k).isSome := by
    rw [valV_any, (r.val k).isSome_eq, Option.isSome_map]
  unfold putK storedH
  rw [e]
  by_cases q : (atKey xs k).isSome = true
  · rw [if_pos q, if_pos q]; exact r.repl k ry
  · rw [if_neg q, if_neg q]; exact Paired.snoc r ⟨rfl, hb, ry⟩
theorem KT.keeps {H H' : Hp} {kvs : List (List Key × V)} {xs : List (List Key × Addr × Value)} (r : KT H kvs xs) (ht : ∀ b ys, H b = some (.tup ys) → H' b = some (.tup ys)) : KT H' kvs xs :=
  Paired.mapP r fun _ _ z => ⟨z.1, ht _ _ z.2.1, z.2.2⟩
section
variable {P : Program} {w : World} {H : Hp} {h : Heap} {a : Addr}
theorem rd_of {u : HO} (ok : HOk P w H h) (e : Rd H a u) : ObjOk P w H h a u := e.ok ok
theorem dk_rd {kvs : List (Key × V)} (ok : HOk P w H h) (e : Rd H a (.dK kvs)) : kvs.length ≤ sizeLine ∧ (a == sysModules) = false ∧ ∃ vs, KV kvs vs ∧ h.DictOf (mixKind P w) a vs :=
  show ObjOk P w H h a (.dK kvs) from rd_of ok e
theorem dk_of {kvs : List (Key × V)} (ok : HOk P w H h) (e : H a = some (.dK kvs)) : kvs.length ≤ sizeLine ∧ (a == sysModules) = false ∧ ∃ vs, KV kvs vs ∧ h.DictOf (mixKind P w) a vs := dk_rd ok (.inl e)
/-- a tracked tuple of ints and texts is a key -/
theorem key_of {ks : List Key} (ok : HOk P w H h) (e : H a = some (.tup (ks.map kV))) : (tupleKind (mixKind P w)).is h ks a := by
  obtain ⟨_, its, r, o, h1, h2, _, n, h3⟩ := (show ObjOk P w H h a (.tup (ks.map kV)) from ok a _ e)
  exact ⟨o, its.toArray, n, h1, h2, h3, by simpa using items_are r⟩
theorem dt_rd {kvs : List (List Key × V)} (ok : HOk P w H h) (e : Rd H a (.dT kvs)) : kvs.length ≤ sizeLine ∧ (a == sysModules) = false ∧
    ∃ xs, KT H kvs xs ∧ h.DictOfH (tupleKind (mixKind P w)) a xs := by
  obtain ⟨z, y, xs, r, o, es, ep, h1, h2, h3, h4, h5⟩ := (show ObjOk P w H h a (.dT kvs) from rd_of ok e)
  refine ⟨z, y, xs, r, o, es, ep, h1, h2, h3, h4, fun x hx => ?_, h5⟩
  have all : ∀ {l : List (List Key × V)} {m : List (List Key × Addr × Value)}, KT H l m → ∀ x ∈ m, (tupleKind (mixKind P w)).is h x.1 x.2.1 := by
    intro l m q
    induction q with
    | nil => intro x hx; exact nomatch hx
    | @cons p q ps qs hq t ih =>
      intro x hx
      rcases List.mem_cons.mp hx with e | hx
      · subst e
        exact key_of ok (by rw [← hq.1]; exact hq.2.1)
      · exact ih x hx
  exact all r x hx
theorem dt_of {kvs : List (List Key × V)} (ok : HOk P w H h) (e : H a = some (.dT kvs)) : kvs.length ≤ sizeLine ∧ (a == sysModules) = false ∧
    ∃ xs, KT H kvs xs ∧ h.DictOfH (tupleKind (mixKind P w)) a xs := dt_rd ok (.inl e)
end
/-- what the dict at a holds at the key y -/
noncomputable def DGet (H : Hp) (a : Addr) (y : V) (r : Option V) : Prop :=
  (∃ kvs k, Rd H a (.dK kvs) ∧ y = kV k ∧ r = valV kvs k) ∨ ∃ kvs k b, Rd H a (.dT kvs) ∧ y = .ref b ∧ H b = some (.tup (k.map kV)) ∧ r = valV kvs k
/-- the heap behind a[y] = v -/
noncomputable def DPut (H : Hp) (a : Addr) (y v : V) (H' : Hp) : Prop :=
  (∃ kvs k, H a = some (.dK kvs) ∧ y = kV k ∧ kvs.length < sizeLine ∧ H' = upd H a (.dK (putK kvs k v))) ∨
  ∃ kvs k b, H a = some (.dT kvs) ∧ y = .ref b ∧ H b = some (.tup (k.map kV)) ∧ kvs.length < sizeLine ∧ H' = upd H a (.dT (putK kvs k v))
theorem DGet.k {H : Hp} {a : Addr} {kvs : List (Key × V)} {k : Key} (e : H a = some (.dK kvs)) : DGet H a (kV k) (valV kvs k) := .inl ⟨kvs, k, .inl e, rfl, rfl⟩
theorem DGet.t {H : Hp} {a b : Addr} {kvs : List (List Key × V)} {k : List Key} (e : H a = some (.dT kvs)) (eb : H b = some (.tup (k.map kV))) : DGet H a (.ref b) (valV kvs k) := .inr ⟨kvs, k, b, .inl e, rfl, eb, rfl⟩
theorem DPut.k {H : Hp} {a : Addr} {kvs : List (Key × V)} {k : Key} {v : V} (e : H a = some (.dK kvs)) (hl : kvs.length < sizeLine) : DPut H a (kV k) v (upd H a (.dK (putK kvs k v))) := .inl ⟨kvs, k, e, rfl, hl, rfl⟩
theorem DPut.t {H : Hp} {a b : Addr} {kvs : List (List Key × V)} {k : List Key} {v : V} (e : H a = some (.dT kvs)) (eb : H b = some (.tup (k.map kV))) (hl : kvs.length < sizeLine) :
    DPut H a (.ref b) v (upd H a (.dT (putK kvs k v))) := .inr ⟨kvs, k, b, e, rfl, eb, hl, rfl⟩
section
variable {X : Cx} {pins : List (Addr × Obj)} {σ : St} {H : Hp} {s : Shared} {a : Addr} {y v : V} {u r : Value} {o : Option V} {A : Around} {E : Value → Shared → Prop}
theorem Inv.big (I : Inv X pins σ H s) : sysModules < s.heap.objs.size := by
  have h : mainGlobals < s.heap.objs.size := (I.mod.glob.keeps I.bk).lt
  exact Nat.lt_trans (by decide) h
/-- d[y], there -/
theorem d_getItem {Q : Value → Shared → Prop} (hu : A.units + 1 < cLine) (I : Inv X pins σ H s) (g : DGet H a y (some v)) (ry : RelV y u) (h : ∀ w' s', Inv X pins σ H s' → RelV v w' → Q w' s') :
    wpAny (model X.prog X.w) A (getItem (.ref a) u) Q E s := by
  rcases g with ⟨kvs, k, e, ey, l⟩ | ⟨kvs, k, b, e, ey, eb, l⟩
  · subst ey
    obtain ⟨z, hd, vs, rel, dd⟩ := dk_rd I.hok e
    obtain ⟨w', hw, rw'⟩ := RelO.some_of (v := v) (o := valueAt vs k) (by rw [l]; exact rel.val k)
    exact wpAny_getItem_of (kV_is ry) dd.mapOf hw (h w' _ (I.tok _) rw')
  · subst ey
    cases (show u = Value.ref b from ry)
    obtain ⟨z, hd, xs, rel, dd⟩ := dt_rd I.hok e
    obtain ⟨w', hw, rw'⟩ := RelO.some_of (v := v) (o := (atKey xs k).map (·.2)) (by rw [l]; exact rel.val k)
    obtain ⟨p, hp, hp2⟩ := Option.map_eq_some_iff.mp hw
    refine wpAny_getItem_heap (tupleKind_room_in1 hu) (key_of I.hok eb) dd hp ?_
    rw [hp2]
    exact h w' _ (I.tok _) rw'
theorem d_notIn {Q : Value → Shared → Prop} (hu : A.units + 1 < cLine) (I : Inv X pins σ H s) (g : DGet H a y o) (ry : RelV y u) (h : ∀ s', Inv X pins σ H s' → Q (.bool (!o.isSome)) s') :
    wpAny (model X.prog X.w) A (compareOp .NotIn u (.ref a)) Q E s := by
  rcases g with ⟨kvs, k, e, ey, l⟩ | ⟨kvs, k, b, e, ey, eb, l⟩
  · subst ey
    obtain ⟨z, hd, vs, rel, dd⟩ := dk_rd I.hok e
    refine wpAny_notIn_of (kV_is ry) hd dd.mapOf ?_
    rw [← (rel.val k).isSome_eq, ← l]
    exact h _ (I.tok _)
  · subst ey
    cases (show u = Value.ref b from ry)
    obtain ⟨z, hd, xs, rel, dd⟩ := dt_rd I.hok e
    refine wpAny_notIn_heap (tupleKind_room_in1 hu) (key_of I.hok eb) hd dd ?_
    have q := (rel.val k).isSome_eq
    rw [Option.isSome_map] at q
    rw [← q, ← l]
    exact h _ (I.tok _)
/-- a dict's object is replaced -/
theorem d_write {h' : Heap} {t' : Nat} {ob : HO} (I : Inv X pins σ H s) (mu : Mut (H a)) (hs : Heap.SameBut a s.heap h') (he : ∃ q, h'.get? a = some q) (new : ObjOk X.prog X.w (upd H a ob) h' a ob) :
    Inv X pins σ (upd H a ob) { s with heap := h', toks := t' } :=
  I.write (x := a) (e := a) mu (.inl rfl) (fun b q hb z => (hs.2 b hb).trans z) he new
theorem dk_new {P : Program} {w : World} {H' : Hp} {h' : Heap} {kvs : List (Key × V)} {vs : List (Key × Value)} (z : kvs.length ≤ sizeLine) (hd : (a == sysModules) = false) (rel : KV kvs vs) (dd : h'.DictOf (mixKind P w) a vs) :
    ObjOk P w H' h' a (.dK kvs) := ⟨z, hd, vs, rel, dd⟩
/-- d[y] = v -/
theorem d_setItem {H' : Hp} {Q : Unit → Shared → Prop} (hu : A.units + 1 < cLine) (I : Inv X pins σ H s) (g : DPut H a y v H') (ry : RelV y u) (rv : RelV v r) (h : ∀ s', Inv X pins σ H' s' → Q () s') :
    wpAny (model X.prog X.w) A (setItem (.ref a) u r) Q E s := by
  rcases g with ⟨kvs, k, e, ey, l, eH⟩ | ⟨kvs, k, b, e, ey, eb, l, eH⟩
  · subst ey eH
    obtain ⟨z, hd, vs, rel, dd⟩ := dk_of I.hok e
    have hz : vs.length ≤ sizeLine := by rw [← rel.length]; exact z
    have hl : (putK kvs k v).length ≤ sizeLine := by have := length_putK kvs k v; lia
    refine wpAny_setItem_pairs (hsz := hz) (kV_is ry) dd fun h' dd' hs => h _ ?_
    have he : ∃ q, h'.get? a = some q := let ⟨q, _, _, hq, _⟩ := dd'; ⟨q, hq⟩
    exact d_write I (by rw [e]; exact True.intro) hs he (dk_new hl hd (rel.put k rv) dd')
  · subst ey eH
    cases (show u = Value.ref b from ry)
    obtain ⟨z, hd, xs, rel, dd⟩ := dt_of I.hok e
    have hz : xs.length ≤ sizeLine := by rw [← Paired.length rel]; exact z
    have hl : (putK kvs k v).length ≤ sizeLine := by have := length_putK kvs k v; lia
    refine wpAny_setItem_heap (hsz := hz) (tupleKind_room_in1 hu) (key_of I.hok eb) dd fun h' dd' hs => h _ ?_
    obtain ⟨q, es, ep, hq, h2, h3, h4, _, h5⟩ := dd'
    refine d_write I (by rw [e]; exact True.intro) hs ⟨q, hq⟩ ⟨hl, hd, _, (rel.put k eb rv).keeps fun c ys ec => ?_, q, es, ep, hq, h2, h3, h4, h5⟩
    rw [upd_ne (ne_of ec e (fun z => nomatch z))]
    exact ec
end
section
variable {X : Cx} {pins : List (Addr × Obj)} {σ : St} {H : Hp} {s : Shared} {a : Addr} {kvs : List (Key × V)} {k : Key} {u : Value} {A : Around} {E : Value → Shared → Prop}
/-- len(d) -/
theorem d_len {Q : Value → Shared → Prop} (I : Inv X pins σ H s) (e : Rd H a (.dK kvs)) (h : ∀ t s', Inv X pins σ H s' → Q (.int kvs.length t) s') : wpAny (model X.prog X.w) A (call (.builtin "len") [.ref a]) Q E s := by
  obtain ⟨z, hd, vs, rel, dd⟩ := dk_rd I.hok e
  refine call_len_dict hd dd (by rw [← rel.length]; rw [sizeLine_eq] at z; lia) ?_
  rw [← rel.length]
  exact h _ _ (I.tok _)
end
/-- the element of a subscription, not a slice -/
noncomputable def NoSl (i : Expr) : Prop := ∀ ov iv, subscripted i false ov iv = operate [ov, iv] (getItem ov iv)
theorem subD_of {prog : Program} {w : World} {A : Around} {E : Value → Shared → Prop} {s : Shared} {env : Env} {value slice : Expr} {pos : Pos} {T id : String} {Q : Value → Shared → Prop}
    (hl : typeLookup (.type T) "__getitem__" = pure (some (.builtin id))) (hs : NoSl slice)
    (h : wpAny (model prog w) A (eval value env) (fun o s₁ => wpAny (model prog w) A (eval slice env) (fun i s₂ => s₂.TypeIs o T ∧ wpAny (model prog w) A (getItem o i) Q E s₂) E s₁) E s) :
    wpAny (model prog w) A (eval (.Subscript value slice pos) env) Q E s := by
  refine Subscript_ (wpAny_mono h (fun o s₁ h₁ => wpAny_mono h₁ (fun i s₂ h₂ => ?_) fun _ _ x => x) fun _ _ x => x)
  obtain ⟨hT, h₂⟩ := h₂
  unfold subscriptTail
  refine wpAny_bind ?_
  rw [getitemInPython_of_ne hT.not_modules]
  refine wpAny_bind (wpAny_specialOf hT hl ?_)
  have fin : wpAny (model prog w) A (subscripted slice false o i) (fun r s₃ => wpAny (model prog w) A (letTemporaryGo value o r >>= fun _ => pure r) Q E s₃) E s₂ := by
    rw [hs o i]
    exact wpAny_operating (wpAny_mono h₂ (fun r s₃ h₃ => wpAny_bind (wpAny_letTemporaryGo (wpAny_pure h₃))) fun _ _ x => x)
  first
    | exact wpAny_pure (wpAny_bind fin)
    | exact wpAny_bind (wpAny_pure (wpAny_bind fin))
    | exact wpAny_bind fin
theorem dict_typeIs {X : Cx} {pins : List (Addr × Obj)} {σ : St} {H : Hp} {s : Shared} {a : Addr} {y : V} {o : Option V} (I : Inv X pins σ H s) (g : DGet H a y o) : s.TypeIs (.ref a) "dict" := by
  rcases g with ⟨kvs, k, e, _, _⟩ | ⟨kvs, k, b, e, _, _, _⟩
  · obtain ⟨_, _, vs, _, dd⟩ := dk_rd I.hok e
    exact dd.typeIs
  · obtain ⟨_, _, xs, _, dd⟩ := dt_rd I.hok e
    exact dd.typeIs
/-- d[y] -/
noncomputable def tDGet (td ty : TE) : TE := fun σ H Q => td σ H fun x H1 => ty σ H1 fun y H2 => ∃ a v, x = .ref a ∧ DGet H2 a y (some v) ∧ Q v H2
noncomputable def tDNotIn (ty td : TE) : TE := fun σ H Q => ty σ H fun y H1 => td σ H1 fun x H2 => ∃ a o, x = .ref a ∧ DGet H2 a y o ∧ Q (.bl (!o.isSome)) H2
/-- d[y] = v -/
noncomputable def sDPut (td ty tv : TE) : TS := fun D σ H => tv σ H fun v H1 => td σ H1 fun x H2 => ty σ H2 fun y H3 => ∃ a H4, x = .ref a ∧ DPut H3 a y v H4 ∧ D.nx σ H4
section
variable {X : Cx} {o i e value : Expr} {pos pos' tpos : Pos} {td ty tv : TE}
theorem pe_dget (hu : X.A.units + 1 < cLine) (ho : PE X o td) (hi : PE X i ty) (hs : NoSl i) : PE X (.Subscript o i pos) (tDGet td ty) := by
  intro pins s σ H Q I h
  refine subD_of PySem.F.slot_dict_getitem.lookup hs (thn (ho pins s σ H _ I h) fun u s1 ⟨x, H1, I1, rx, q1⟩ => thn (hi pins s1 σ H1 _ I1 q1) fun iv s2 ⟨y, H2, I2, ry, a, v, ex, g, q2⟩ => ?_)
  subst ex
  obtain rfl : u = Value.ref a := rx
  exact ⟨dict_typeIs I2 g, d_getItem hu I2 g ry fun w' s3 I3 rw' => ⟨v, H2, I3, rw', q2⟩⟩
theorem pc_dnotin (hu : X.A.units + 1 < cLine) (hi : PE X i ty) (ho : PE X o td) : PC X .NotIn i o (tDNotIn ty td) := by
  intro pins s σ H Q I h
  refine thn (hi pins s σ H _ I h) fun iv s1 ⟨y, H1, I1, ry, q1⟩ => thn (ho pins s1 σ H1 _ I1 q1) fun u s2 ⟨x, H2, I2, rx, a, ov, ex, g, q2⟩ => ?_
  subst ex
  obtain rfl : u = Value.ref a := rx
  exact d_notIn hu I2 g ry fun s3 I3 => ⟨.bl (!ov.isSome), H2, I3, rfl, q2⟩
theorem ps_dput (hu : X.A.units + 1 < cLine) (ho : PE X o td) (hi : PE X i ty) (hv : PE X value tv) (hs : swapsWith value (some (.Subscript o i pos')) pos.line X.env = pure false) :
    PS X (.Assign [.Subscript o i pos'] value pos) (sDPut td ty tv) := by
  intro pins s σ H D I h
  refine wpAny_Assign_Subscript (thn (hv pins s σ H _ I h) fun r s1 ⟨v, H1, I1, rv, q1⟩ => thn (ho pins s1 σ H1 _ I1 q1) fun u s2 ⟨x, H2, I2, rx, q2⟩ => thn (hi pins s2 σ H2 _ I2 q2) fun iv s3 ⟨y, H3, I3, ry, a, H4, ex, g, q3⟩ => ?_) hs
  subst ex
  obtain rfl : u = Value.ref a := rx
  exact d_setItem hu I3 g ry rv fun s4 I4 => ⟨σ, H4, I4, q3⟩
end
theorem dk_empty {P : Program} {w : World} {H : Hp} (h : Heap) (hb : sysModules < h.objs.size) : ObjOk P w H (h.push { cls := .type "dict", data := .dict #[] }) h.objs.size (.dK []) :=
  ⟨Nat.zero_le _, beq_eq_false_iff_ne.mpr (Ne.symm (Nat.ne_of_lt hb)), [], .nil, Heap.DictOf.new h⟩
theorem dt_empty {P : Program} {w : World} {H : Hp} (h : Heap) (hb : sysModules < h.objs.size) : ObjOk P w H (h.push { cls := .type "dict", data := .dict #[] }) h.objs.size (.dT []) :=
  ⟨Nat.zero_le _, beq_eq_false_iff_ne.mpr (Ne.symm (Nat.ne_of_lt hb)), [], .nil, _, #[], 0, Heap.get?_push_size _ rfl, ⟨rfl, rfl, rfl⟩, rfl, rfl, List.nodup_nil⟩
noncomputable def tDNewT : TE := fun _ H Q => ∀ p, H p = none → Q (.ref p) (upd H p (.dT []))
section
variable {X : Cx} {pos : Pos}
theorem pe_dnewT : PE X (.Dict [] [] pos) tDNewT := fun pins s σ H Q I h =>
  wpAny_Dict_empty ⟨.ref s.heap.objs.size, _, I.laid (a := s.heap.objs.size) (o := .dT []) (t' := s.toks) (fun _ _ q => Heap.get?_push_of_some _ q) (Nat.le_refl _) (dt_empty s.heap I.big), rfl, h _ (I.hok.fresh (Nat.le_refl _))⟩
end
/-- the pairs of a display, from the left -/
noncomputable def tPairs : List (TE × TE) → St → Hp → (List (V × V) → Hp → Prop) → Prop
  | [], _, H, Q => Q [] H
  | (tk, tv) :: r, σ, H, Q => tk σ H fun x H1 => tv σ H1 fun y H2 => tPairs r σ H2 fun ps H3 => Q ((x, y) :: ps) H3
noncomputable abbrev VV : List (V × V) → List (Value × Value) → Prop := Paired fun p q => RelV p.1 q.1 ∧ RelV p.2 q.2
noncomputable def PPs (X : Cx) (pos : Pos) (keys : List (Option Expr)) (values : List Expr) (trs : List (TE × TE)) : Prop :=
  ∀ (pins : List (Addr × Obj)) (s : Shared) (σ : St) (H : Hp) (Q : List (V × V) → Hp → Prop), Inv X pins σ H s → tPairs trs σ H Q →
    wpAny (model X.prog X.w) X.A (evalPairs (pairTrees keys values X.env pos)) (fun vs s' => ∃ ps H', Inv X pins σ H' s' ∧ VV ps vs ∧ Q ps H') X.xe s
theorem pps_nil {X : Cx} {pos : Pos} : PPs X pos [] [] [] := fun pins s σ H Q I h => pairTrees_nil_walk ⟨[], H, I, .nil, h⟩
theorem pps_cons {X : Cx} {pos : Pos} {k v : Expr} {ks : List (Option Expr)} {vs : List Expr} {tk tv : TE} {trs : List (TE × TE)} (hk : PE X k tk) (hv : PE X v tv) (hr : PPs X pos ks vs trs) :
    PPs X pos (some k :: ks) (v :: vs) ((tk, tv) :: trs) := fun pins s σ H Q I h =>
  pairTrees_cons_walk (thn (hk pins s σ H _ I h) fun u s1 ⟨x, H1, I1, rx, q1⟩ => thn (hv pins s1 σ H1 _ I1 q1) fun w2 s2 ⟨y, H2, I2, ry, q2⟩ =>
    thn (hr pins s2 σ H2 _ I2 q2) fun ws s3 ⟨ps, H3, I3, rel, q3⟩ => ⟨(x, y) :: ps, H3, I3, .cons ⟨rx, ry⟩ rel, q3⟩)
noncomputable def mergeK (kvs more : List (Key × V)) : List (Key × V) := more.foldl (fun acc kv => putK acc kv.1 kv.2) kvs
theorem KV.merge : ∀ {more : List (Key × V)} {rs : List (Key × Value)} {kvs : List (Key × V)} {vs : List (Key × Value)}, KV more rs → KV kvs vs → KV (mergeK kvs more) (merged vs rs) := by
  intro more rs kvs vs r
  unfold KV at r
  induction r generalizing kvs vs with
  | nil => intro q; exact q
  | @cons p q ps qs h t ih =>
    intro r0
    have e : KV (putK kvs p.1 p.2) (stored vs q.1 q.2) := by
      have := r0.put p.1 h.2
      rw [← h.1]; exact this
    exact ih e
theorem length_mergeK : ∀ (more kvs : List (Key × V)), (mergeK kvs more).length ≤ kvs.length + more.length
  | [], kvs => by show kvs.length ≤ kvs.length + 0; lia
  | p :: r, kvs => by
    have h1 := length_mergeK r (putK kvs p.1 p.2)
    have h2 := length_putK kvs p.1 p.2
    show (mergeK (putK kvs p.1 p.2) r).length ≤ _
    rw [List.length_cons]; lia
theorem carries_of {P : Program} {w : World} : ∀ {kvs : List (Key × V)} {ws : List (Value × Value)}, VV (kvs.map fun kv => (kV kv.1, kv.2)) ws → ∃ rs, Carries (mixKind P w) ws rs ∧ KV kvs rs
  | [], _, r => by rw [List.map_nil] at r; cases r; exact ⟨[], True.intro, .nil⟩
  | p :: kvs, _, r => by
    rw [List.map_cons] at r
    cases r with
    | @cons a b as bs h t =>
      obtain ⟨rs, c, q⟩ := carries_of (P := P) (w := w) t
      obtain ⟨b1, b2⟩ := b
      exact ⟨(p.1, b2) :: rs, ⟨kV_is h.1, rfl, c⟩, .cons ⟨rfl, h.2⟩ q⟩
/-- {k: v, ..} with keys ints and texts; the new dict stands empty while the pairs are made -/
noncomputable def tDisp (trs : List (TE × TE)) : TE := fun σ H Q => ∀ p, H p = none → tPairs trs σ (upd H p (.dK [])) fun ps H2 => H2 p = some (.dK []) ∧ ∃ kvs : List (Key × V), ps = kvs.map (fun kv => (kV kv.1, kv.2)) ∧ kvs.length ≤ 15 ∧ Q (.ref p) (upd H2 p (.dK (mergeK [] kvs)))
theorem pe_disp {X : Cx} {pos : Pos} {keys : List (Option Expr)} {values : List Expr} {trs : List (TE × TE)} (h : PPs X pos keys values trs) (hall : keys.all (·.isSome) = true) (hl : keys.length = values.length) (h0 : keys ≠ [])
    (h15 : keys.length ≤ 15) : PE X (.Dict keys values pos) (tDisp trs) := by
  intro pins s σ H Q I q
  have hn := I.hok.fresh (Nat.le_refl s.heap.objs.size)
  have I1 := I.laid (a := s.heap.objs.size) (o := .dK []) (h' := s.heap.push { cls := .type "dict", data := .dict #[] }) (t' := s.toks) (fun _ _ q => Heap.get?_push_of_some _ q) (Nat.le_refl _) (dk_empty s.heap I.big)
  refine wpAny_Dict_walk (knd := mixKind X.prog X.w) hall hl h0 h15 (thn (h pins _ σ _ _ I1 (q _ hn)) fun ws s2 ⟨ps, H2, I2, rel, e, kvs, ep, lk, q2⟩ => ?_)
  subst ep
  obtain ⟨rs, c, rk⟩ := carries_of (P := X.prog) (w := X.w) rel
  obtain ⟨z, hd, vs0, r0, dd⟩ := dk_of I2.hok e
  cases r0
  refine ⟨rs, c, dd, fun h' dd' hs => ⟨.ref s.heap.objs.size, _, ?_, rfl, q2⟩⟩
  have hz : (mergeK [] kvs).length ≤ sizeLine := by
    have h1 := length_mergeK kvs []
    rw [List.length_nil] at h1
    rw [sizeLine_eq]; lia
  have he : ∃ q, h'.get? s.heap.objs.size = some q := let ⟨q, _, _, hq, _⟩ := dd'; ⟨q, hq⟩
  exact d_write I2 (by rw [e]; exact True.intro) hs he (dk_new hz hd (rk.merge .nil) dd')
/-- a method call o.m(e) of a built-in, with one argument: what must be seen of the text -/
structure M1 (X : Cx) (o : Expr) (m : Str) (apos : Pos) (e : Expr) (cpos : Pos) : Prop where
  base : attributeBase o m X.env (eval o X.env) = eval o X.env
  few : ((backTo cpos (starEach [e] X.env)).all (fun x => !x.1) && (backToKw cpos (keywordEach [] X.env)).all (fun x => x.1.isSome)
    && decide (([e] : List Expr).length + ([] : List Keyword).length + (if ([] : List Keyword).isEmpty then 0 else 1) < 30)) = true
  line : (apos.endLine == cpos.line) = true
  trees : backTo cpos (starEach [e] X.env) = [(false, eval e X.env)]
structure M2 (X : Cx) (o : Expr) (m : Str) (apos : Pos) (e f : Expr) (cpos : Pos) : Prop where
  base : attributeBase o m X.env (eval o X.env) = eval o X.env
  few : ((backTo cpos (starEach [e, f] X.env)).all (fun x => !x.1) && (backToKw cpos (keywordEach [] X.env)).all (fun x => x.1.isSome)
    && decide (([e, f] : List Expr).length + ([] : List Keyword).length + (if ([] : List Keyword).isEmpty then 0 else 1) < 30)) = true
  line : (apos.endLine == cpos.line) = true
  trees : backTo cpos (starEach [e, f] X.env) = [(false, eval e X.env), (false, eval f X.env)]
section
variable {X : Cx} {pins : List (Addr × Obj)} {σ : St} {H : Hp} {s : Shared} {a : Addr} {y d : V} {u r : Value} {o : Option V} {A : Around} {E : Value → Shared → Prop}
end
section
variable {X : Cx} {o e f : Expr} {apos cpos : Pos} {td ty tx : TE}
end
section
variable {X : Cx} {pins : List (Addr × Obj)} {σ : St} {H : Hp} {s : Shared} {a : Addr} {kvs : List (Key × V)} {A : Around} {E : Value → Shared → Prop}
end
section
variable {X : Cx} {pins : List (Addr × Obj)} {σ : St} {H : Hp} {s : Shared} {a : Addr} {y : V} {u : Value} {A : Around} {E : Value → Shared → Prop}
end
end L2
namespace HT
open PySem PyProof.Rows
section
open PySem.SeqAt
open PySem.AutoSeq1 (wpAny_loadPart')
open PySem.MeetsSeq PySem.MeetsSeq2 PySem.MeetsSeq3
end
section
variable {prog : Program} {w : World} {A : Around} {E : Value → Shared → Prop} {s : Shared}
/-- t + u, t not empty -/
theorem cat_tup {t b : Addr} {vs ws : List Value} {Q : Value → Shared → Prop} (ht : IsTup s.heap t vs.toArray) (hb : IsTup s.heap b ws.toArray) (hv : vs ≠ [])
    (h1 : ws = [] → Q (.ref t) s) (h2 : ws ≠ [] → Q (.ref s.heap.objs.size) { s with heap := s.heap.push { cls := .type "tuple", data := .seq (vs ++ ws).toArray } })
    (hsz : vs.length + ws.length ≤ sizeLine) : wpAny (model prog w) A (binaryOp .Add (.ref t) (.ref b)) Q E s := by
  obtain ⟨⟨cls, dd, data, sl⟩, ho, hc, n, hd⟩ := id ht
  obtain ⟨⟨cls2, dd2, data2, sl2⟩, ho2, hc2, n2, hd2⟩ := id hb
  simp only at hc hd hc2 hd2
  subst hc hd hc2 hd2
  have e : vs.toArray ++ ws.toArray = (vs ++ ws).toArray := by simp
  by_cases hw : ws = []
  · exact concat_meets ⟨_, ho, rfl⟩ ⟨_, ho2, rfl⟩ noFill_tuple_add seq_tuple_add PySem.F.slot_tuple_add PySem.F.entry_tuple_add (PySem.F.args_tuple_add_2 _ _)
      (tuple_addW1 t b vs.toArray ws.toArray n n2 dd dd2 sl sl2 (by simpa using hv) (by simp [hw])) ⟨ho, ho2, h1 hw⟩
  · refine concat_meets ⟨_, ho, rfl⟩ ⟨_, ho2, rfl⟩ noFill_tuple_add seq_tuple_add PySem.F.slot_tuple_add PySem.F.entry_tuple_add (PySem.F.args_tuple_add_2 _ _)
      (tuple_addW2 t b vs.toArray ws.toArray n n2 dd dd2 sl sl2 (by simpa using hv) (by simpa using hw) (by rw [List.size_toArray, List.size_toArray]; exact hsz)) ⟨ho, ho2, ?_⟩
    rw [e]
    exact h2 hw
/-- a slice's bound as a place among n (d where it is left out) -/
noncomputable def sIx (n d : Nat) : Option Int → Nat
  | none => d
  | some v => if v < 0 then (v + (n : Int)).toNat else min v.toNat n
theorem sIx_none (n d : Nat) : sIx n d none = d := rfl
theorem sIx_nat (n d k : Nat) : sIx n d (some (k : Int)) = min k n := by
  show (if (k : Int) < 0 then ((k : Int) + (n : Int)).toNat else min (k : Int).toNat n) = min k n
  rw [if_neg (by lia), Int.toNat_natCast]
theorem sIx_le (n d : Nat) (hd : d ≤ n) (o : Option Int) : sIx n d o ≤ n := by
  cases o with
  | none => exact hd
  | some v =>
    show (if v < 0 then (v + (n : Int)).toNat else min v.toNat n) ≤ n
    by_cases hv : v < 0
    · rw [if_pos hv]; lia
    · rw [if_neg hv]; exact Nat.min_le_right _ _
theorem clip_eq (v : Int) (n d : Nat) : (if v < 0 then max (v + (n : Int)) 0 else min v (n : Int)) = ((sIx n d (some v) : Nat) : Int) := by
  show (if v < 0 then max (v + (n : Int)) 0 else min v (n : Int)) = (((if v < 0 then (v + (n : Int)).toNat else min v.toNat n) : Nat) : Int)
  by_cases hv : v < 0
  · simp only [if_pos hv]; lia
  · simp only [if_neg hv]; lia
theorem adjust_gen (lo hi : Option Int) (n : Nat) : Builtin.Slice.sliceAdjust lo hi 1 (n : Int) = (((sIx n 0 lo : Nat) : Int), ((sIx n n hi : Nat) : Int)) := by
  have h1 : ¬ ((1 : Int) < 0) := by lia
  unfold Builtin.Slice.sliceAdjust
  simp only [h1, if_false]
  refine Prod.ext ?_ ?_
  · cases lo with
    | none => rfl
    | some v => exact clip_eq v n 0
  · cases hi with
    | none => rfl
    | some v => exact clip_eq v n n
theorem places_gen (i j : Nat) : Builtin.Slice.slicePlaces (i : Int) (j : Int) 1 = j - i := by
  unfold Builtin.Slice.slicePlaces
  have h1 : (1 : Int) > 0 := by lia
  simp only [h1, if_true, Int.ediv_one]
  split <;> lia
theorem slicePart_ {v : Value} {o : Option Int} {Q : Option Int → Shared → Prop} (p : IsPart v o) (h : Q o s) : wpAny (model prog w) A (Builtin.Slice.slicePartIndex v) Q E s := by
  cases p with
  | none => exact slicePart_none h
  | int i t => exact slicePart_int h
theorem sliceApplied_gen {sl : Addr} {vl vu : Value} {lo hi : Option Int} {n : Nat} {Q : Int × Int × Nat → Shared → Prop} (hs : s.heap.IsSliceOf sl vl vu .none) (pl : IsPart vl lo) (pu : IsPart vu hi)
    (h : Q (((sIx n 0 lo : Nat) : Int), 1, sIx n n hi - sIx n 0 lo) s) : wpAny (model prog w) A (Builtin.Slice.sliceApplied (.ref sl) (pure (n : Int))) Q E s := by
  obtain ⟨os, hos, hcs, hds⟩ := id hs
  unfold Builtin.Slice.sliceApplied Builtin.Slice.sliceFields
  refine wpAny_bind (wpAny_bind (wpAny_field hos hds (x := vl) rfl (wpAny_bind (wpAny_field hos hds (x := vu) rfl (wpAny_bind (wpAny_field hos hds (x := .none) rfl (wpAny_pure ?_)))))))
  refine wpAny_bind (slicePart_none ?_)
  show wpAny _ _ (if ((1 : Int) == 0) = true then _ else _) _ _ s
  rw [if_neg (by decide)]
  refine wpAny_bind (slicePart_ pl (wpAny_bind (slicePart_ pu (wpAny_bind (wpAny_pure ?_)))))
  show wpAny _ _ (match Builtin.Slice.sliceAdjust lo hi 1 (n : Int) with | (lo, hi) => pure (lo, (1 : Int), Builtin.Slice.slicePlaces lo hi 1)) _ _ s
  rw [adjust_gen lo hi n]
  show wpAny _ _ (pure (((sIx n 0 lo : Nat) : Int), (1 : Int), Builtin.Slice.slicePlaces ((sIx n 0 lo : Nat) : Int) ((sIx n n hi : Nat) : Int) 1)) _ _ s
  rw [places_gen]
  exact wpAny_pure h
theorem pick_gen (xs : Array Value) (i k : Nat) : ((List.range k).filterMap fun (m : Nat) => xs[((i : Int) + (m : Int) * 1).toNat]?).toArray = ((xs.toList.drop i).take k).toArray := by
  have e : (fun (m : Nat) => xs[((i : Int) + (m : Int) * 1).toNat]?) = fun m => xs[i + m]? := by
    funext m
    have : ((i : Int) + (m : Int) * 1).toNat = i + m := by lia
    rw [this]
  rw [e]
  have := pick_run xs i k
  rw [List.filterMap_map] at this
  have e2 : ((fun x => xs[x]?) ∘ fun x => i + x) = fun m => xs[i + m]? := rfl
  rw [e2] at this
  rw [this]
theorem getItem_tuple_cut {t sl : Addr} {items : Array Value} {vl vu : Value} {lo hi : Option Int} {Q : Value → Shared → Prop} (ht : IsTup s.heap t items) (hs : s.heap.IsSliceOf sl vl vu .none) (pl : IsPart vl lo) (pu : IsPart vu hi)
    (hw : ¬ (sIx items.size 0 lo = 0 ∧ sIx items.size items.size hi = items.size))
    (h : Q (.ref s.heap.objs.size) { s with heap := s.heap.push { cls := .type "tuple", data := .seq ((items.toList.drop (sIx items.size 0 lo)).take (sIx items.size items.size hi - sIx items.size 0 lo)).toArray } })
    (hsz : items.size ≤ sizeLine) : wpAny (model prog w) A (getItem (.ref t) (.ref sl)) Q E s := by
  have htake : sizeOk (.seq ((items.toList.drop (sIx items.size 0 lo)).take (sIx items.size items.size hi - sIx items.size 0 lo)).toArray) := by
    show ((items.toList.drop (sIx items.size 0 lo)).take (sIx items.size items.size hi - sIx items.size 0 lo)).toArray.size ≤ sizeLine
    rw [List.size_toArray, List.length_take, List.length_drop, Array.length_toList]
    lia
  have hj : sIx items.size items.size hi ≤ items.size := sIx_le _ _ (Nat.le_refl _) hi
  obtain ⟨os, hos, hcs, hds⟩ := id hs
  have hTs : s.TypeIs (.ref sl) "slice" := ⟨os, hos, hcs⟩
  unfold getItem
  try with_reducible refine wpAny_holding ?_
  first | refine wpAny_bind (wpAny_pure ?_) | skip
  refine wpAny_bind (wpAny_sequenceKey ht.typeIs (by decide) ?_)
  refine wpAny_bind (wpAny_callSpecial?_slot (name := Str.ofString "__getitem__") ht.typeIs PyProof.Rows.slot_tuple_getitem
    (wpAny_call_entry PyProof.Rows.slot_tuple_getitem ht.typeIs entry_tuple_getitem ?_ (args_tuple_getitem _ _)))
  show wpAny _ _ (Builtin.Tuple.tupleItemsOf (.ref t) >>= _) _ _ s
  refine wpAny_bind (tupleItemsOf_ ht ?_)
  refine wpAny_bind (wpAny_typeOf hTs ?_)
  rw [if_pos (by decide)]
  refine wpAny_bind (sliceApplied_gen hs pl pu ?_)
  have hno : ¬ ((((sIx items.size 0 lo : Nat) : Int) == 0 && (1 : Int) == 1 && (sIx items.size items.size hi - sIx items.size 0 lo) == items.size) = true) := by
    intro q
    rw [Bool.and_eq_true, Bool.and_eq_true] at q
    have q1 : ((sIx items.size 0 lo : Nat) : Int) = 0 := eq_of_beq q.1.1
    have q2 : sIx items.size items.size hi - sIx items.size 0 lo = items.size := eq_of_beq q.2
    exact hw ⟨by lia, by lia⟩
  show wpAny _ _ (if (((sIx items.size 0 lo : Nat) : Int) == 0 && (1 : Int) == 1 && (sIx items.size items.size hi - sIx items.size 0 lo) == items.size) = true then _ else _) _ _ s
  rw [if_neg hno, pick_gen]
  first
    | exact wpAny_bind (m := Builtin.Tuple.tupleExact _) (wpAny_newObj_type (wpAny_pure ⟨_, rfl, wpAny_pure h⟩) htake)
    | exact wpAny_bind (m := Builtin.Tuple.tupleExact _) (wpAny_newObj_type (wpAny_bind (wpAny_pure (wpAny_pure ⟨_, rfl, wpAny_pure h⟩))) htake)
    | exact wpAny_bind (wpAny_bind (m := Builtin.Tuple.tupleExact _) (wpAny_newObj_type (wpAny_pure (wpAny_pure ⟨_, rfl, wpAny_pure h⟩)) htake))
    | exact wpAny_bind (wpAny_bind (m := Builtin.Tuple.tupleExact _) (wpAny_newObj_type (wpAny_pure ⟨_, rfl, wpAny_pure h⟩) htake))
end
end HT
namespace L2
open PySem PySem.Spec PyProof.Rows
noncomputable abbrev TO := St → Hp → (Option Int → Hp → Prop) → Prop
/-- a slice's part (left out, or an int) -/
noncomputable def PO (X : Cx) (e : Option Expr) (t : TO) : Prop :=
  ∀ (pins : List (Addr × Obj)) (s : Shared) (σ : St) (H : Hp) (Q : Option Int → Hp → Prop), Inv X pins σ H s → t σ H Q →
    wpAny (model X.prog X.w) X.A (evalPart e X.env) (fun u s' => ∃ o H', Inv X pins σ H' s' ∧ IsPart u o ∧ Q o H') X.xe s
noncomputable def tNoPart : TO := fun _ H Q => Q none H
noncomputable def tPart (t : TE) : TO := fun σ H Q => t σ H fun x H1 => ∃ i, x = .int i ∧ Q (some i) H1
theorem intsAre_of {ns : List Int} : ∀ {us : List Value}, Vals (ns.map V.int) us → IntsAre us ns := by
  induction ns with
  | nil => intro us r; rw [List.map_nil] at r; cases r; exact .nil
  | cons n ns ih =>
    intro us r
    rw [List.map_cons] at r
    cases r with
    | cons r1 r2 =>
      obtain ⟨t, e⟩ := r1
      subst e
      exact .cons n t (ih r2)
section
variable {X : Cx} {e : Expr} {te : TE} {lo hi : Option Expr} {tl th : TO} {pos p2 : Pos}
theorem po_none : PO X none tNoPart := by
  intro pins s σ H Q I h
  rw [evalPart_none]
  exact wpAny_pure ⟨none, H, I, .none, h⟩
theorem po_some (h : PE X e te) : PO X (some e) (tPart te) := by
  intro pins s σ H Q I hw
  rw [evalPart_some]
  refine thn (h pins s σ H _ I hw) fun u s1 ⟨x, H1, I1, r1, q1⟩ => ?_
  obtain ⟨i, rfl, q⟩ := q1
  obtain ⟨t, rfl⟩ := r1
  exact ⟨some i, H1, I1, .int i t, q⟩
/-- what a slice of a value is, by values: the slice object stands at sl -/
noncomputable def SlR (X : Cx) (r : V → Option Int → Option Int → Hp → VK → Prop) : Prop :=
  ∀ (pins : List (Addr × Obj)) (s : Shared) (σ : St) (H : Hp) (x : V) (v vl vu : Value) (lo hi : Option Int) (sl : Addr) (Q : VK), Inv X pins σ H s → RelV x v → s.heap.IsSliceOf sl vl vu .none → IsPart vl lo → IsPart vu hi → r x lo hi H Q →
    ∃ T id, typeLookup (.type T) "__getitem__" = pure (some (.builtin id)) ∧ s.TypeIs v T ∧ wpAny (model X.prog X.w) X.A (getItem v (.ref sl)) (EP X pins σ Q) X.xe s
theorem SlR.or {r r' : V → Option Int → Option Int → Hp → VK → Prop} (h : SlR X r) (h' : SlR X r') : SlR X (fun x lo hi H Q => r x lo hi H Q ∨ r' x lo hi H Q) := by
  intro pins s σ H x v vl vu lo hi sl Q I rx hs pl pu q
  rcases q with q | q
  · exact h pins s σ H x v vl vu lo hi sl Q I rx hs pl pu q
  · exact h' pins s σ H x v vl vu lo hi sl Q I rx hs pl pu q
noncomputable def tSl (r : V → Option Int → Option Int → Hp → VK → Prop) (te : TE) (tl th : TO) : TE := fun σ H Q => te σ H fun x H1 => tl σ H1 fun l H2 => th σ H2 fun u H3 => r x l u H3 Q
/-- a[lo:hi], any a -/
theorem pe_slice {r : V → Option Int → Option Int → Hp → VK → Prop} (hr : SlR X r) (he : PE X e te) (hl : PO X lo tl) (hu : PO X hi th) : PE X (.Subscript e (.Slice lo hi none p2) pos) (tSl r te tl th) := by
  intro pins s σ H Q I h
  refine Subscript_ (thn (he pins s σ H _ I h) fun v s1 ⟨x, H1, I1, r1, q1⟩ => ?_)
  refine wpAny_Slice (thn (hl pins s1 σ H1 _ I1 q1) fun vl s2 ⟨l, H2, I2, pl, q2⟩ => thn (hu pins s2 σ H2 _ I2 q2) fun vu s3 ⟨u, H3, I3, pu, q3⟩ => ?_)
  rw [evalPart_none]
  refine wpAny_pure ?_
  have I4 : Inv X pins σ H3 { s3 with heap := s3.heap.push { cls := .type "slice", data := .fields #[vl, vu, .none] } } := I3.kept (t' := s3.toks) fun b ob q => Heap.get?_push_of_some _ q
  obtain ⟨T, id, hT, ht, hg⟩ := hr pins { s3 with heap := s3.heap.push { cls := .type "slice", data := .fields #[vl, vu, .none] } } σ H3 x v vl vu l u s3.heap.objs.size Q I4 r1 (Heap.IsSliceOf.new ..) pl pu q3
  show wpAny (model X.prog X.w) X.A (subscriptTail e (.Slice lo hi none p2) v (.ref s3.heap.objs.size)) (EP X pins σ Q) X.xe { s3 with heap := s3.heap.push { cls := .type "slice", data := .fields #[vl, vu, .none] } }
  exact tail_any (ops := [.ref s3.heap.objs.size, v]) ht hT hg (by with_unfolding_all rfl)
/-- the items of xs[lo:hi] -/
noncomputable def cutV (xs : List V) (lo hi : Option Int) : List V := (xs.drop (HT.sIx xs.length 0 lo)).take (HT.sIx xs.length xs.length hi - HT.sIx xs.length 0 lo)
theorem cutV_length (xs : List V) (lo hi : Option Int) : (cutV xs lo hi).length ≤ xs.length := by
  unfold cutV
  rw [List.length_take, List.length_drop]
  lia
/-- t[lo:hi], not the whole of it (the whole would be t itself) -/
noncomputable def rSlT (K : PySem.W.Frag) : V → Option Int → Option Int → Hp → VK → Prop := fun x lo hi H Q => ∃ a xs, x = .ref a ∧ SqT K H a xs ∧
  ¬ (HT.sIx xs.length 0 lo = 0 ∧ HT.sIx xs.length xs.length hi = xs.length) ∧ ∀ p, H p = none → Q (.ref p) (upd H p (.tup (cutV xs lo hi)))
theorem sl_tup : SlR X (rSlT X.K) := by
  intro pins s σ H x v vl vu lo hi sl Q I rx hs pl pu h
  obtain ⟨a, xs, rfl, hx, hw, q⟩ := h
  cases rx
  obtain ⟨its, r, ht, hz⟩ := I.tuple hx
  have hlen : its.toArray.size = xs.length := by rw [List.size_toArray]; exact r.length.symm
  refine ⟨"tuple", _, PyProof.Rows.slot_tuple_getitem.lookup, ht.typeIs, ?_⟩
  refine HT.getItem_tuple_cut ht hs pl pu (by rw [hlen]; exact hw) ?_ (by rw [hlen]; exact hz)
  rw [hlen]
  refine ⟨.ref s.heap.objs.size, _, I.laid (t' := s.toks) (o := .tup (cutV xs lo hi)) (fun b ob q => Heap.get?_push_of_some _ q) (Nat.le_refl _) ?_, rfl, q _ (I.hok.fresh (Nat.le_refl _))⟩
  exact ⟨Nat.le_trans (cutV_length xs lo hi) hz, _, (r.drop (HT.sIx xs.length 0 lo)).take (HT.sIx xs.length xs.length hi - HT.sIx xs.length 0 lo), IsTupP.mk' _ _⟩
/-- t + u, t not empty: u empty gives t itself -/
noncomputable def rCatT (K : PySem.W.Frag) : R2 := fun x y H Q => ∃ a b xs ys, x = .ref a ∧ y = .ref b ∧ SqT K H a xs ∧ SqT K H b ys ∧ xs ≠ [] ∧ xs.length + ys.length ≤ sizeLine ∧
  (ys = [] → Q (.ref a) H) ∧ (ys ≠ [] → ∀ p, H p = none → Q (.ref p) (upd H p (.tup (xs ++ ys))))
theorem Vals.nil_iff {xs : List V} {us : List Value} (r : Vals xs us) : us = [] ↔ xs = [] := by
  cases r with
  | nil => simp
  | cons _ _ => simp
theorem op_catT : OpR X (binaryOp .Add) (rCatT X.K) := by
  intro pins s σ H x y v u Q I rx ry h
  obtain ⟨a, b, xs, ys, rfl, rfl, ha, hb, hx, hz, q1, q2⟩ := h
  cases rx
  cases ry
  obtain ⟨its, r1, p1, _⟩ := I.tuple ha
  obtain ⟨its2, r2, p2, _⟩ := I.tuple hb
  refine HT.cat_tup p1 p2 (fun z => hx (r1.nil_iff.mp z)) (fun z => ⟨.ref a, H, I, rfl, q1 (r2.nil_iff.mp z)⟩) (fun z => ?_) (by rw [← r1.length, ← r2.length]; exact hz)
  refine ⟨.ref s.heap.objs.size, _, I.laid (t' := s.toks) (o := .tup (xs ++ ys)) (fun b ob q => Heap.get?_push_of_some _ q) (Nat.le_refl _) ?_, rfl, q2 (fun w => z (r2.nil_iff.mpr w)) _ (I.hok.fresh (Nat.le_refl _))⟩
  exact ⟨by rw [List.length_append]; exact hz, _, r1.append r2, IsTupP.mk' _ _⟩
end
end L2
namespace L2
open PySem PySem.Spec PyProof.Rows
/-- the place that an index of any sign means -/
noncomputable def ixN (n : Nat) (i : Int) : Option Nat := if 0 ≤ i then (if i < n then some i.toNat else none) else if -(n : Int) ≤ i then some (i + n).toNat else none
noncomputable def atI {α : Type} (xs : List α) (i : Int) : Option α := (ixN xs.length i).bind fun j => xs[j]?
theorem ixN_seq {n : Nat} {i : Int} {j : Nat} (h : ixN n i = some j) : seqIndex? i n = some j ∧ j < n ∧ -(n : Int) ≤ i ∧ i < n := by
  unfold ixN at h
  by_cases h0 : 0 ≤ i
  · rw [if_pos h0] at h
    by_cases h1 : i < n
    · rw [if_pos h1] at h
      have e : i.toNat = j := Option.some.inj h
      exact ⟨by rw [seqIndex_of h0 h1, e], by lia, by lia, h1⟩
    · rw [if_neg h1] at h; cases h
  · rw [if_neg h0] at h
    by_cases h1 : -(n : Int) ≤ i
    · rw [if_pos h1] at h
      have e : (i + n).toNat = j := Option.some.inj h
      exact ⟨by rw [seqIndex_neg (by lia) h1, e], by lia, h1, by lia⟩
    · rw [if_neg h1] at h; cases h
theorem atI_get {α : Type} {xs : List α} {i : Int} {v : α} (h : atI xs i = some v) : ∃ j, seqIndex? i xs.length = some j ∧ xs[j]? = some v ∧ j < xs.length ∧ -(xs.length : Int) ≤ i ∧ i < xs.length := by
  unfold atI at h
  cases e : ixN xs.length i with
  | none => rw [e] at h; cases h
  | some j =>
    rw [e] at h
    obtain ⟨h1, h2, h3, h4⟩ := ixN_seq e
    exact ⟨j, h1, h, h2, h3, h4⟩
theorem atI_nat {α : Type} {xs : List α} {j : Nat} {v : α} (h : xs[j]? = some v) : atI xs (j : Int) = some v := by
  have hj : j < xs.length := (List.getElem?_eq_some_iff.mp h).1
  have e : ixN xs.length (j : Int) = some j := by
    unfold ixN
    rw [if_pos (by lia), if_pos (by lia)]; simp
  unfold atI; rw [e]; exact h
theorem atI_last {α : Type} (xs : List α) (v : α) : atI (xs ++ [v]) (-1) = some v := by
  have hl : (xs ++ [v]).length = xs.length + 1 := by simp
  have e : ixN (xs ++ [v]).length (-1) = some xs.length := by
    unfold ixN
    rw [hl, if_neg (by decide), if_pos (by lia)]
    congr 1
    lia
  unfold atI
  rw [e]
  show (xs ++ [v])[xs.length]? = some v
  simp
/-- what stands as an index of a plain subscript -/
noncomputable def PlainIx (b : Expr) : Prop := ∀ o i, subscripted b false o i = operate [o, i] (getItem o i)
/-- a subscript by values -/
noncomputable def IxR (X : Cx) (r : R2) : Prop :=
  ∀ (value slice : Expr) (pins : List (Addr × Obj)) (s : Shared) (σ : St) (H : Hp) (x y : V) (v u : Value) (Q : VK), Inv X pins σ H s → RelV x v → RelV y u → r x y H Q →
    subscripted slice false v u = operate [v, u] (getItem v u) → wpAny (model X.prog X.w) X.A (subscriptTail value slice v u) (EP X pins σ Q) X.xe s
/-- a call of a builtin's method by values: the receiver, the arguments -/
noncomputable def MtR (X : Cx) (id : String) (r : V → List V → Hp → VK → Prop) : Prop :=
  ∀ (pins : List (Addr × Obj)) (s : Shared) (σ : St) (H : Hp) (x : V) (xs : List V) (v : Value) (us : List Value) (Q : VK), Inv X pins σ H s → RelV x v → Vals xs us → r x xs H Q →
    wpAny (model X.prog X.w) X.A (call (.builtin id) (v :: us)) (EP X pins σ Q) X.xe s
section
variable {X : Cx} {a b : Expr} {ta tb : TE} {pos : Pos}
theorem IxR.or {r r' : R2} (h : IxR X r) (h' : IxR X r') : IxR X (fun x y H Q => r x y H Q ∨ r' x y H Q) := by
  intro value slice pins s σ H x y v u Q I rx ry q hs
  rcases q with q | q
  · exact h value slice pins s σ H x y v u Q I rx ry q hs
  · exact h' value slice pins s σ H x y v u Q I rx ry q hs
theorem MtR.or {id : String} {r r' : V → List V → Hp → VK → Prop} (h : MtR X id r) (h' : MtR X id r') : MtR X id (fun x xs H Q => r x xs H Q ∨ r' x xs H Q) := by
  intro pins s σ H x xs v us Q I rx rs q
  rcases q with q | q
  · exact h pins s σ H x xs v us Q I rx rs q
  · exact h' pins s σ H x xs v us Q I rx rs q
/-- a[b] -/
theorem pe_ix {r : R2} (hr : IxR X r) (ha : PE X a ta) (hb : PE X b tb) (hs : PlainIx b) : PE X (.Subscript a b pos) (tOp r ta tb) := by
  intro pins s σ H Q I h
  exact Subscript_ (binT ha hb I h fun v u s2 x y H2 I2 rx ry q => hr a b pins s2 σ H2 x y v u Q I2 rx ry q (hs _ _))
noncomputable def rIxL (K : PySem.W.Frag) : R2 := fun x y H Q => ∃ p xs i v, x = .ref p ∧ y = .int i ∧ SqL K H p xs ∧ atI xs i = some v ∧ Q v H
noncomputable def rIxT (K : PySem.W.Frag) : R2 := fun x y H Q => ∃ p xs i v, x = .ref p ∧ y = .int i ∧ SqT K H p xs ∧ atI xs i = some v ∧ Q v H
noncomputable def rIxS : R2 := fun x y H Q => ∃ z i c, x = .str z ∧ y = .int i ∧ z.length ≤ sizeLine ∧ atI z.cps.toList i = some c ∧ Q (.str ⟨#[c]⟩) H
theorem ix_list : IxR X (rIxL X.K) := by
  intro value slice pins s σ H x y v u Q I rx ry h hs
  obtain ⟨p, xs, i, z, rfl, rfl, hq, he, q⟩ := h
  cases rx
  obtain ⟨t, rfl⟩ := ry
  obtain ⟨its, r, pl, hz⟩ := I.list hq
  obtain ⟨j, h1, h2, h3, h4, h5⟩ := atI_get he
  obtain ⟨w, ew, rw'⟩ := r.get h2
  have hl := r.length
  have hn := line63
  have fin : EP X pins σ Q w s := ⟨z, H, I, rw', q⟩
  by_cases h0 : 0 ≤ i
  · have hj : i.toNat = j := by
      rw [seqIndex_of h0 h5] at h1
      exact Option.some.inj h1
    exact item_listR pl.isList h0 (by lia) (by rw [hj]; simpa using ew) fin hs
  · have hj : (i + (its.toArray.size : Int)).toNat = j := by
      rw [seqIndex_neg (by lia) h4] at h1
      rw [List.size_toArray, ← hl]
      exact Option.some.inj h1
    exact subscriptTail_builtinR (x := w) pl.isList.typeIs slot_list_getitem.lookup
      (wpAny_getItem_list_neg (Q := fun r s' => r = w ∧ EP X pins σ Q r s') pl.isList (by lia) (by rw [List.size_toArray] <;> lia) (by lia) (by rw [hj]; simpa using ew) ⟨rfl, fin⟩) hs
theorem ix_tup : IxR X (rIxT X.K) := by
  intro value slice pins s σ H x y v u Q I rx ry h hs
  obtain ⟨p, xs, i, z, rfl, rfl, hq, he, q⟩ := h
  cases rx
  obtain ⟨t, rfl⟩ := ry
  obtain ⟨its, r, pl, hz⟩ := I.tuple hq
  obtain ⟨j, h1, h2, h3, h4, h5⟩ := atI_get he
  obtain ⟨w, ew, rw'⟩ := r.get h2
  have hl := r.length
  have hn := line63
  have fin : EP X pins σ Q w s := ⟨z, H, I, rw', q⟩
  exact subscriptTail_builtinR (x := w) pl.typeIs slot_tuple_getitem.lookup
    (getItem_tuple (j := j) (Q := fun r s' => r = w ∧ EP X pins σ Q r s') pl (by lia) (by lia) (by rw [List.size_toArray, ← hl]; exact h1) (by simpa using ew) ⟨rfl, fin⟩) hs
theorem ix_str : IxR X rIxS := by
  intro value slice pins s σ H x y v u Q I rx ry h hs
  obtain ⟨z, i, c, rfl, rfl, hz, he, q⟩ := h
  obtain ⟨t, rfl⟩ := rx
  obtain ⟨t', rfl⟩ := ry
  obtain ⟨j, h1, h2, h3, h4, h5⟩ := atI_get he
  have hl : z.cps.toList.length = z.length := by simp [Str.length]
  rw [hl] at h1 h4 h5
  have hn := line63
  exact tail_any (typeIs_str s z t) slot_str_getitem.lookup (getItem_str (c := c) (by
    have e1 : decide (i < -(2 ^ 63 : Int)) = false := decide_eq_false (by lia)
    have e2 : decide (i ≥ 2 ^ 63) = false := decide_eq_false (by lia)
    rw [e1, e2, Bool.or_false]) (by rw [h1]; simpa using h2) ⟨.str ⟨#[c]⟩, H, I.tok _, ⟨_, rfl⟩, q⟩) hs
/-- list, tuple or str -/
noncomputable def rIx (K : PySem.W.Frag) : R2 := fun x y H Q => rIxL K x y H Q ∨ rIxT K x y H Q ∨ rIxS x y H Q
theorem ix_seq : IxR X (rIx X.K) := ix_list.or (ix_tup.or ix_str)
/-- the list's object behind a store -/
theorem mapSeq_set (its : List Value) (n j : Nat) (u : Value) : Obj.mapSeq (·.setIfInBounds j u) { cls := .type "list", data := .seq its.toArray n } = { cls := .type "list", data := .seq (its.set j u).toArray n } := by
  simp [Obj.mapSeq]
theorem Inv.lst {pins : List (Addr × Obj)} {σ : St} {H : Hp} {s : Shared} {p : Addr} {xs : List V} (I : Inv X pins σ H s) (h : H p = some (.lst xs)) :
    ∃ (its : List Value) (n : Nat), Vals xs its ∧ s.heap.get? p = some { cls := .type "list", data := .seq its.toArray n } ∧ xs.length ≤ sizeLine := by
  obtain ⟨z, its, n, r, e⟩ := I.hok p _ h
  exact ⟨its, n, r, e, z⟩
/-- the list at p is written by an update of its object -/
theorem Inv.lstUpd {pins : List (Addr × Obj)} {σ : St} {H : Hp} {s : Shared} {p : Addr} {xs ys : List V} {its its' : List Value} {n n' : Nat} {f : Obj → Obj} (I : Inv X pins σ H s) (h : H p = some (.lst xs))
    (ho : s.heap.get? p = some { cls := .type "list", data := .seq its.toArray n }) (hf : f { cls := .type "list", data := .seq its.toArray n } = { cls := .type "list", data := .seq its'.toArray n' }) (r : Vals ys its') (hz : ys.length ≤ sizeLine) (t : Nat) :
    Inv X pins σ (upd H p (.lst ys)) { s with heap := s.heap.update p f, toks := t } := by
  have e : (s.heap.update p f).get? p = some { cls := .type "list", data := .seq its'.toArray n' } := by
    rw [Heap.get?_update_self f ho (by rw [hf] <;> rfl), hf]
  refine I.write (x := p) (e := p) (by rw [h]; trivial) (.inl rfl) (fun b u hb q => (Heap.get?_update_other _ _ (Ne.symm hb)).trans q) ⟨_, e⟩ ?_
  exact ⟨hz, its', n', r, e⟩
noncomputable def rSetL : V → V → V → Hp → (Hp → Prop) → Prop := fun o i v H Q => ∃ p xs k j, o = .ref p ∧ i = .int k ∧ H p = some (.lst xs) ∧ ixN xs.length k = some j ∧ Q (upd H p (.lst (xs.set j v)))
theorem set_list : PSet X rSetL := by
  intro pins s σ H o i v ov iv u Q I ro ri rv h
  obtain ⟨p, xs, k, j, rfl, rfl, hp, hj, q⟩ := h
  cases ro
  obtain ⟨t, rfl⟩ := ri
  obtain ⟨its, n, r, ho, hz⟩ := I.lst hp
  obtain ⟨h1, h2, h3, h4⟩ := ixN_seq hj
  have hl := r.length
  have hn := line63
  have I' : Inv X pins σ (upd H p (.lst (xs.set j v))) { s with heap := s.heap.update p (Obj.mapSeq (·.setIfInBounds j u)) } :=
    I.lstUpd hp ho (mapSeq_set its n j u) (r.set rv j) (by rw [List.length_set]; exact hz) s.toks
  by_cases h0 : 0 ≤ k
  · have hk : k.toNat = j := by
      rw [seqIndex_of h0 h4] at h1
      exact Option.some.inj h1
    exact PySem.W.ki_setAt ho h0 (by lia) (by rw [List.size_toArray, ← hl]; exact h4) (by rw [hk]; exact ⟨_, I', q⟩)
  · have hk : (k + (its.toArray.size : Int)).toNat = j := by
      rw [seqIndex_neg (by lia) h3] at h1
      rw [List.size_toArray, ← hl]
      exact Option.some.inj h1
    exact PySem.W.ki_setBack ho (by lia) (by rw [List.size_toArray, ← hl]; exact h3) (by lia) (by rw [hk]; exact ⟨_, I', q⟩)
theorem slice_bounds (lo hi : Option Int) (n : Nat) : (sliceBounds lo hi none n).1 = ((HT.sIx n 0 lo : Nat) : Int) ∧ (sliceBounds lo hi none n).2.1 = ((HT.sIx n n hi : Nat) : Int) ∧ (sliceBounds lo hi none n).2.2 = 1 := by
  refine ⟨?_, ?_, rfl⟩
  · cases lo with
    | none => simp [sliceBounds, HT.sIx]
    | some i =>
      simp only [sliceBounds, HT.sIx, Option.getD_none, show (1 : Int) > 0 by decide, if_true]
      by_cases h : i < 0
      · simp only [h, if_true] <;> lia
      · simp only [h, if_false] <;> lia
  · cases hi with
    | none => simp [sliceBounds, HT.sIx]
    | some i =>
      simp only [sliceBounds, HT.sIx, Option.getD_none, show (1 : Int) > 0 by decide, if_true]
      by_cases h : i < 0
      · simp only [h, if_true] <;> lia
      · simp only [h, if_false] <;> lia
theorem slicePick_cut (its : List Value) (lo hi : Option Int) : slicePick its.toArray lo hi none = ((its.drop (HT.sIx its.length 0 lo)).take (HT.sIx its.length its.length hi - HT.sIx its.length 0 lo)).toArray := by
  obtain ⟨h1, h2, h3⟩ := slice_bounds lo hi its.toArray.size
  unfold slicePick
  rw [h1, h2, h3]
  simp only [sliceRange_one, pick_run, List.size_toArray] <;> rfl
/-- xs[lo:hi] of a list: a new list -/
noncomputable def rSlL (K : PySem.W.Frag) : V → Option Int → Option Int → Hp → VK → Prop := fun x lo hi H Q => ∃ a xs, x = .ref a ∧ SqL K H a xs ∧ ∀ p, H p = none → Q (.ref p) (upd H p (.lst (cutV xs lo hi)))
theorem sl_list : SlR X (rSlL X.K) := by
  intro pins s σ H x v vl vu lo hi sl Q I rx hs pl pu h
  obtain ⟨a, xs, rfl, hx, q⟩ := h
  cases rx
  obtain ⟨its, r, ht, hz⟩ := I.list hx
  have hlen := r.length
  refine ⟨"list", _, slot_list_getitem.lookup, ht.isList.typeIs, ?_⟩
  refine wpAny_getItem_list_slice ht.isList hs pl pu .none (by simp) ?_ (by rw [List.size_toArray] <;> lia)
  rw [slicePick_cut, ← hlen]
  refine ⟨.ref s.heap.objs.size, _, I.laid (t' := s.toks) (o := .lst (cutV xs lo hi)) (fun b ob q => Heap.get?_push_of_some _ q) (Nat.le_refl _) ?_, rfl, q _ (I.hok.fresh (Nat.le_refl _))⟩
  exact ⟨Nat.le_trans (cutV_length xs lo hi) hz, _, 0, (r.drop (HT.sIx xs.length 0 lo)).take (HT.sIx xs.length xs.length hi - HT.sIx xs.length 0 lo), Heap.get?_push_size _ rfl⟩
noncomputable def flatV : V → Bool
  | .non => true
  | .bl _ => true
  | .int _ => true
  | .str _ => true
  | _ => false
/-- == of flat values -/
noncomputable def eqV : V → V → Bool
  | .non, .non => true
  | .bl a, .bl b => a == b
  | .bl a, .int b => (if a then 1 else 0) == b
  | .int a, .bl b => a == (if b then 1 else 0)
  | .int a, .int b => a == b
  | .str a, .str b => a == b
  | _, _ => false
theorem eqAt_V {A : Around} {s : Shared} {y x : V} {u v : Value} (ry : RelV y u) (rx : RelV x v) (fy : flatV y = true) (fx : flatV x = true) : SeqAt.EqAt A s u v (eqV y x) := by
  cases y with
  | non =>
    cases ry
    cases x with
    | non => cases rx; exact SeqAt.EqAt.same _
    | bl b => cases rx; exact SeqAt.EqAt.none_bool b
    | int b => obtain ⟨t, rfl⟩ := rx; exact SeqAt.EqAt.none_int b t
    | str b => obtain ⟨t, rfl⟩ := rx; exact SeqAt.EqAt.none_str b t
    | _ => exact absurd (show false = true from fx) Bool.false_ne_true
  | bl a =>
    cases ry
    cases x with
    | non => cases rx; exact SeqAt.EqAt.bool_none a
    | bl b => cases rx; exact SeqAt.EqAt.bool_bool a b
    | int b => obtain ⟨t, rfl⟩ := rx; exact SeqAt.EqAt.bool_int a b t
    | str b => obtain ⟨t, rfl⟩ := rx; exact SeqAt.EqAt.bool_str a b t
    | _ => exact absurd (show false = true from fx) Bool.false_ne_true
  | int a =>
    obtain ⟨t', rfl⟩ := ry
    cases x with
    | non => cases rx; exact SeqAt.EqAt.int_none a t'
    | bl b => cases rx; exact SeqAt.EqAt.int_bool a t' b
    | int b => obtain ⟨t, rfl⟩ := rx; exact SeqAt.EqAt.int_int a t' b t
    | str b => obtain ⟨t, rfl⟩ := rx; exact SeqAt.EqAt.int_str a t' b t
    | _ => exact absurd (show false = true from fx) Bool.false_ne_true
  | str a =>
    obtain ⟨t', rfl⟩ := ry
    cases x with
    | non => cases rx; exact SeqAt.EqAt.str_none a t'
    | bl b => cases rx; exact SeqAt.EqAt.str_bool a t' b
    | int b => obtain ⟨t, rfl⟩ := rx; exact SeqAt.EqAt.str_int a t' b t
    | str b => obtain ⟨t, rfl⟩ := rx; exact SeqAt.EqAt.str_str a t' b t
    | _ => exact absurd (show false = true from fx) Bool.false_ne_true
  | _ => exact absurd (show false = true from fy) Bool.false_ne_true
/-- the items' answers, read off the values (a value's own answer does not lean on its token) -/
noncomputable def eqU (x : V) (u : Value) : Bool := match u with
  | .none => eqV .non x
  | .bool b => eqV (.bl b) x
  | .int i _ => eqV (.int i) x
  | .str z _ => eqV (.str z) x
  | _ => false
theorem eqU_of {x y : V} {u : Value} (r : RelV y u) (f : flatV y = true) : eqU x u = eqV y x := by
  cases y with
  | non => cases r; rfl
  | bl b => cases r; rfl
  | int i => obtain ⟨t, rfl⟩ := r; rfl
  | str z => obtain ⟨t, rfl⟩ := r; rfl
  | _ => exact absurd (show false = true from f) Bool.false_ne_true
theorem any_eqU {x : V} : ∀ {xs : List V} {us : List Value}, Vals xs us → xs.all flatV = true → us.any (eqU x) = xs.any fun y => eqV y x
  | _, _, .nil, _ => rfl
  | y :: xs, u :: us, .cons r t, f => by
    rw [List.all_cons, Bool.and_eq_true] at f
    rw [List.any_cons, List.any_cons, eqU_of r f.1, any_eqU t f.2]
theorem mem_eqAt {A : Around} {s : Shared} {x : V} {v : Value} (rx : RelV x v) (fx : flatV x = true) : ∀ {xs : List V} {us : List Value}, Vals xs us → xs.all flatV = true → ∀ u ∈ us, SeqAt.EqAt A s u v (eqU x u)
  | _, _, .nil, _ => fun u hu => by cases hu
  | y :: xs, u :: us, .cons r t, f => fun u' hu => by
    rw [List.all_cons, Bool.and_eq_true] at f
    rcases List.mem_cons.mp hu with rfl | hu
    · rw [eqU_of r f.1]; exact eqAt_V r rx f.1 fx
    · exact mem_eqAt rx fx t f.2 u' hu
noncomputable def inV (x : V) (xs : List V) : Bool := xs.any fun y => eqV y x
/-- x in a list or tuple of flat items -/
noncomputable def rIn (K : PySem.W.Frag) (neg : Bool) : R2 := fun x y H Q => ∃ p xs, y = .ref p ∧ (SqL K H p xs ∨ SqT K H p xs) ∧ flatV x = true ∧ xs.all flatV = true ∧ Q (.bl (if neg then !inV x xs else inV x xs)) H
theorem op_notIn_seq : OpR X (compareOp .NotIn) (rIn X.K true) := by
  intro pins s σ H x y v u Q I rx ry h
  obtain ⟨p, xs, rfl, hq, fx, fs, q⟩ := h
  cases ry
  rcases hq with hq | hq
  · obtain ⟨its, r, pl, hz⟩ := I.list hq
    refine SeqAt.notIn_listAt (eqU x) pl.isList (fun w hw => mem_eqAt rx fx r fs w (by simpa using hw)) ⟨.bl _, H, I, rfl, ?_⟩
    rw [show its.toArray.any (eqU x) = its.any (eqU x) by simp, any_eqU r fs]
    exact q
  · obtain ⟨its, r, pl, hz⟩ := I.tuple hq
    refine SeqAt.notIn_tupleAt (eqU x) pl (fun w hw => mem_eqAt rx fx r fs w (by simpa using hw)) ⟨.bl _, H, I, rfl, ?_⟩
    rw [show its.toArray.any (eqU x) = its.any (eqU x) by simp, any_eqU r fs]
    exact q
theorem call_len_seq : CallR X (.builtin "len") (fun xs H Q => ∃ p ys, xs = [.ref p] ∧ (SqL X.K H p ys ∨ SqT X.K H p ys) ∧ Q (.int ys.length) H) := by
  intro pins s σ H xs us Q I r h
  obtain ⟨p, ys, rfl, hq, q⟩ := h
  obtain ⟨u, rfl, rx⟩ := vals1 r
  cases rx
  have hn := line63
  rcases hq with hq | hq
  · obtain ⟨its, r', pl, hz⟩ := I.list hq
    have hlen := r'.length
    exact Calls.call_len_list pl.isList (by simp only [List.size_toArray] <;> lia) ⟨.int ys.length, H, I.tok _, ⟨s.toks + 1, by rw [List.size_toArray, hlen]⟩, q⟩
  · obtain ⟨its, r', pl, hz⟩ := I.tuple hq
    have hlen := r'.length
    exact len_tuple pl (by simp only [List.size_toArray] <;> lia) ⟨.int ys.length, H, I.tok _, ⟨s.toks + 1, by rw [List.size_toArray, hlen]⟩, q⟩
theorem call_len_str : CallR X (.builtin "len") (fun xs H Q => ∃ z, xs = [.str z] ∧ z.length ≤ sizeLine ∧ Q (.int z.length) H) := by
  intro pins s σ H xs us Q I r h
  obtain ⟨z, rfl, hz, q⟩ := h
  obtain ⟨u, rfl, t, rfl⟩ := vals1 r
  have hn := line63
  exact len_str (by lia) ⟨.int z.length, H, I.tok _, ⟨_, rfl⟩, q⟩
theorem CallR.or {f : Value} {r r' : List V → Hp → VK → Prop} (h : CallR X f r) (h' : CallR X f r') : CallR X f (fun xs H Q => r xs H Q ∨ r' xs H Q) := by
  intro pins s σ H xs us Q I rs q
  rcases q with q | q
  · exact h pins s σ H xs us Q I rs q
  · exact h' pins s σ H xs us Q I rs q
theorem call_tuple_of : CallR X (.type "tuple") (fun xs H Q => ∃ p ys, xs = [.ref p] ∧ ((SqL X.K H p ys ∧ ∀ l, H l = none → Q (.ref l) (upd H l (.tup ys))) ∨ (SqT X.K H p ys ∧ Q (.ref p) H))) := by
  intro pins s σ H xs us Q I r h
  obtain ⟨p, ys, rfl, h⟩ := h
  obtain ⟨u, rfl, rx⟩ := vals1 r
  cases rx
  rcases h with ⟨hq, q⟩ | ⟨hq, q⟩
  · obtain ⟨its, r', pl, hz⟩ := I.list hq
    have hlen := r'.length
    refine call_tuple_list pl.isList (fun h' kp => ?_) (by simp only [List.size_toArray] <;> lia)
    have I1 : Inv X pins σ H { s with heap := h' } := I.kept (t' := s.toks) kp
    have I2 : Inv X pins σ (upd H h'.objs.size (.tup ys)) { s with heap := h'.push { cls := .type "tuple", data := .seq its.toArray } } :=
      I1.laid (t' := s.toks) (fun b o e => Heap.get?_push_of_some _ e) (Nat.le_refl _) (show ObjOk X.prog X.w _ _ _ (.tup ys) from ⟨hz, its, r', IsTupP.mk' _ _⟩)
    exact ⟨.ref h'.objs.size, _, I2, rfl, q _ (I1.hok.fresh (Nat.le_refl _))⟩
  · obtain ⟨its, r', pl, hz⟩ := I.tuple hq
    exact call_tuple_same pl ⟨.ref p, H, I, rfl, q⟩
/-- the value is of that builtin type -/
noncomputable def tyV (K : PySem.W.Frag) (T : String) (x : V) (H : Hp) : Prop := match x with
  | .str _ => T = "str"
  | .int _ => T = "int"
  | .ref p => (T = "list" ∧ ∃ xs, SqL K H p xs) ∨ (T = "tuple" ∧ ∃ o, K.lookup p = some o ∧ o.cls = .type "tuple" ∧ o.dict = none) ∨
      (T = "dict" ∧ ((∃ kvs, H p = some (.dK kvs)) ∨ ∃ kvs, H p = some (.dT kvs))) ∨ (T = "set" ∧ ∃ S n, H p = some (.set S n))
  | _ => False
theorem tyV_is {pins : List (Addr × Obj)} {σ : St} {H : Hp} {s : Shared} {T : String} {x : V} {v : Value} (I : Inv X pins σ H s) (r : RelV x v) (ty : tyV X.K T x H) :
    s.TypeIs v T ∧ ∀ a, v = .ref a → ∃ ob, s.heap.get? a = some ob ∧ ob.dict = none := by
  cases x with
  | str z =>
    obtain ⟨t, rfl⟩ := r
    cases (show T = "str" from ty)
    exact ⟨typeIs_str s z t, fun _ e => nomatch e⟩
  | int i =>
    obtain ⟨t, rfl⟩ := r
    cases (show T = "int" from ty)
    exact ⟨typeIs_int s i t, fun _ e => nomatch e⟩
  | ref p =>
    cases r
    rcases ty with ⟨rfl, xs, hq⟩ | ⟨rfl, o, hk, hc, hd⟩ | ⟨rfl, hk⟩ | ⟨rfl, S, n, hk⟩
    · obtain ⟨its, _, pl, _⟩ := I.list hq
      refine ⟨pl.isList.typeIs, fun a e => ?_⟩
      cases e
      obtain ⟨o, n, e, c, hd, _⟩ := pl
      exact ⟨o, e, hd⟩
    · refine ⟨⟨o, I.kIn p o hk, hc⟩, fun a e => ?_⟩
      cases e
      exact ⟨o, I.kIn _ o hk, hd⟩
    · have z : ∃ o, s.heap.get? p = some o ∧ o.ExactDict := by
        rcases hk with ⟨kvs, hk⟩ | ⟨kvs, hk⟩
        · obtain ⟨_, _, _, _, o, _, _, e, ex, _⟩ := I.hok p _ hk
          exact ⟨o, e, ex⟩
        · obtain ⟨_, _, _, _, o, _, _, e, ex, _⟩ := I.hok p _ hk
          exact ⟨o, e, ex⟩
      obtain ⟨o, e, ex⟩ := z
      refine ⟨⟨o, e, ex.1⟩, fun a e2 => ?_⟩
      cases e2
      exact ⟨o, e, ex.2.1⟩
    · obtain ⟨o, _, _, _, e, ex, _⟩ := I.hok p _ hk
      refine ⟨⟨o, e, ex.1⟩, fun a e2 => ?_⟩
      cases e2
      exact ⟨o, e, ex.2.1⟩
  | _ => exact False.elim ty
noncomputable def tBM0 (K : PySem.W.Frag) (T : String) (r : V → List V → Hp → VK → Prop) (to : TE) : TE := fun σ H Q => to σ H fun x H1 => tyV K T x H1 ∧ r x [] H1 Q
noncomputable def tBM (K : PySem.W.Frag) (T : String) (r : V → List V → Hp → VK → Prop) (to : TE) (t : TA) : TE := fun σ H Q => to σ H fun x H1 => tyV K T x H1 ∧ t σ H1 fun xs H2 => r x xs H2 Q
variable {o e : Expr} {es : List Expr} {to : TE} {t : TA} {name : Str} {apos cpos : Pos} {T id : String} {r : V → List V → Hp → VK → Prop}
theorem pe_bm0 (pa : PlainAttrs T) (slot : Slot T name id) (hty : typeOf (.builtin id) = pure (.type "method_descriptor")) (hm : MtR X id r) (ho : PE X o to)
    (hbase : attributeBase o name X.env (eval o X.env) = eval o X.env := by rfl) (hline : (apos.endLine == cpos.line) = true := by rfl) : PE X (.Call (.Attribute o name apos) [] [] cpos) (tBM0 X.K T r to) := by
  intro pins s σ H Q I h
  refine wpAny_Call_method0_late hbase hline (thn (ho pins s σ H _ I h) fun v s1 ⟨x, H1, I1, r1, ty, q1⟩ => ?_)
  obtain ⟨h1, h2⟩ := tyV_is I1 r1 ty
  exact ⟨T, id, pa, slot, hty, h1, h2, Calls.callWith_builtin rfl (PySem.evalArgs_none (hm pins s1 σ H1 x [] v [] Q I1 r1 .nil q1))⟩
theorem pe_bm (pa : PlainAttrs T) (slot : Slot T name id) (hty : typeOf (.builtin id) = pure (.type "method_descriptor")) (hm : MtR X id r) (ho : PE X o to) (ha : PA X (e :: es) t)
    (hbase : attributeBase o name X.env (eval o X.env) = eval o X.env := by rfl)
    (hfew : ((backTo cpos (starEach (e :: es) X.env)).all (fun x => !x.1) && (backToKw cpos (keywordEach [] X.env)).all (fun x => x.1.isSome)
      && decide ((e :: es).length + ([] : List Keyword).length + (if ([] : List Keyword).isEmpty then 0 else 1) < 30)) = true := by rfl)
    (hline : (apos.endLine == cpos.line) = true := by rfl) (hs : starEach (e :: es) X.env = (false, eval e X.env) :: starEach es X.env := by rfl) (hplain : (backTo cpos (starEach es X.env)).any (·.1) = false := by rfl) :
    PE X (.Call (.Attribute o name apos) (e :: es) [] cpos) (tBM X.K T r to t) := by
  intro pins s σ H Q I h
  refine wpAny_Call_method_late hbase hfew hline rfl (thn (ho pins s σ H _ I h) fun v s1 ⟨x, H1, I1, r1, ty, q1⟩ => ?_)
  obtain ⟨h1, h2⟩ := tyV_is I1 r1 ty
  refine ⟨T, id, pa, slot, hty, h1, h2, ?_⟩
  have hA := ha cpos pins s1 σ H1 _ I1 q1
  rw [hs] at hA ⊢
  refine Calls.callWith_builtin (by show (false || (backTo cpos (starEach es X.env)).any (·.1)) = false; rw [hplain] <;> rfl) (Calls.evalArgs_plain ?_)
  exact thn hA fun us s2 ⟨vs, H2, I2, r2, q2⟩ => hm pins s2 σ H2 x vs v us Q I2 r1 r2 q2
end
end L2
namespace L2
open PySem PySem.Spec PyProof.Rows
noncomputable def MtM (X : Cx) (id : String) (r : V → List V → Hp → VK → Prop) : Prop :=
  ∀ (pins : List (Addr × Obj)) (s : Shared) (σ : St) (H : Hp) (x : V) (xs : List V) (v : Value) (us : List Value) (Q : VK), Inv X pins σ H s → RelV x v → Vals xs us → r x xs H Q →
    wpAny (model X.prog X.w) X.A (call (.builtin id) (v :: us)) (EP X pins σ Q) X.xe s
theorem Vals.one : ∀ {x : V} {us : List Value}, Vals [x] us → ∃ u, us = [u] ∧ RelV x u
  | _, _, .cons r .nil => ⟨_, rfl, r⟩
theorem Vals.zero : ∀ {us : List Value}, Vals [] us → us = []
  | _, .nil => rfl
theorem Vals.dropLast {xs : List V} {us : List Value} (h : Vals xs us) : Vals xs.dropLast us.dropLast := by
  induction h with
  | nil => exact .nil
  | cons r t ih =>
    cases t with
    | nil => exact .nil
    | cons q t' => exact .cons r ih
theorem Vals.reverse {xs : List V} {us : List Value} (h : Vals xs us) : Vals xs.reverse us.reverse := by
  induction h with
  | nil => exact .nil
  | cons r t ih => rw [List.reverse_cons, List.reverse_cons]; exact Vals.append ih (.cons r .nil)
theorem Vals.rep {xs : List V} {us : List Value} (h : Vals xs us) : ∀ k : Nat, Vals (List.replicate k xs).flatten (List.replicate k us).flatten
  | 0 => .nil
  | k + 1 => by
    rw [List.replicate_succ, List.replicate_succ, List.flatten_cons, List.flatten_cons]
    exact Vals.append h (Vals.rep h k)
theorem erase_last {α : Type} (l : List α) : l.eraseIdx (l.length - 1) = l.dropLast := by
  induction l with
  | nil => rfl
  | cons a r ih =>
    cases r with
    | nil => rfl
    | cons b r =>
      have e : (a :: b :: r).length - 1 = ((b :: r).length - 1) + 1 := by
        have h1 : (a :: b :: r).length = r.length + 2 := rfl
        have h2 : (b :: r).length = r.length + 1 := rfl
        lia
      rw [e, List.eraseIdx_cons_succ, ih]
      all_goals rfl
theorem foldl_rep (its : List Value) : ∀ (k : Nat) (acc : List Value),
    List.foldl (fun x1 x2 => x1 ++ x2) acc.toArray (List.replicate k its.toArray) = (acc ++ (List.replicate k its).flatten).toArray
  | 0, acc => by simp
  | k + 1, acc => by
    have e : acc.toArray ++ its.toArray = (acc ++ its).toArray := by simp
    have e2 : (acc ++ its) ++ (List.replicate k its).flatten = acc ++ (List.replicate (k + 1) its).flatten := by
      rw [List.replicate_succ, List.flatten_cons, List.append_assoc]
    rw [← e2, ← foldl_rep its k (acc ++ its), ← e, List.replicate_succ, List.foldl_cons]
section
variable {X : Cx} {pins : List (Addr × Obj)} {σ : St} {H : Hp} {s : Shared} {l b : Addr} {xs ys zs : List V}
theorem Inv.lset {its its' : List Value} {n : Nat} {f : Array Value → Array Value} {t' : Nat} (I : Inv X pins σ H s) (hH : H l = some (.lst xs))
    (e : s.heap.get? l = some { cls := .type "list", data := .seq its.toArray n }) (hf : f its.toArray = its'.toArray) (hv : Vals ys its') (hz : ys.length ≤ sizeLine) :
    Inv X pins σ (upd H l (.lst ys)) { s with heap := s.heap.update l (Obj.mapSeq f), toks := t' } := by
  have q := PySem.IsL.update e f
  rw [hf] at q
  refine I.write (x := l) (e := l) (by rw [hH]; exact trivial) (.inl rfl) (fun b' u hb hu => (Heap.get?_update_other s.heap (Obj.mapSeq f) (Ne.symm hb)).trans hu) ⟨_, q⟩ ?_
  exact ⟨hz, its', _, hv, q⟩
theorem Inv.lnew {its : List Value} {t' : Nat} (I : Inv X pins σ H s) (hv : Vals ys its) (hz : ys.length ≤ sizeLine) :
    Inv X pins σ (upd H s.heap.objs.size (.lst ys)) { s with heap := s.heap.push { cls := .type "list", data := .seq its.toArray }, toks := t' } :=
  I.laid (fun _ _ q => Heap.get?_push_of_some _ q) (Nat.le_refl _) ⟨hz, its, 0, hv, Heap.get?_push_size _ rfl⟩
theorem Inv.fresh (I : Inv X pins σ H s) : H s.heap.objs.size = none := I.hok.fresh (Nat.le_refl _)
theorem Inv.lstM (I : Inv X pins σ H s) (hH : H l = some (.lst xs)) : xs.length ≤ sizeLine ∧ ∃ (its : List Value) (n : Nat), Vals xs its ∧ xs.length = its.length ∧ s.heap.get? l = some { cls := .type "list", data := .seq its.toArray n } := by
  obtain ⟨z, its, n, r, e⟩ := I.hok l _ hH
  exact ⟨z, its, n, r, r.length, e⟩
theorem notLongL {n : Nat} (h : n ≤ sizeLine) : Builtin.List.listTooLong n = false := by
  unfold Builtin.List.listTooLong
  exact decide_eq_false (by lia)
end
section
variable {X : Cx}
noncomputable def rAppend : V → List V → Hp → VK → Prop := fun x vs H Q => ∃ l xs y, x = .ref l ∧ vs = [y] ∧ H l = some (.lst xs) ∧ xs.length < sizeLine ∧ Q .non (upd H l (.lst (xs ++ [y])))
theorem mt_append : MtM X "list.append" rAppend := by
  intro pins s σ H x vs v us Q I rx rv h
  obtain ⟨l, xs, y, rfl, rfl, hH, hz, q⟩ := h
  cases rx
  obtain ⟨u, rfl, ru⟩ := rv.one
  obtain ⟨z, its, n, r, hl, e⟩ := I.lstM hH
  refine call_meets F.slot_list_append ⟨_, e, rfl⟩ F.entry_list_append (F.args_list_append_2 _ _) (PySem.list_append l its.toArray n u (by rw [List.size_toArray]; lia)) ⟨e, ?_⟩
  refine ⟨.non, _, I.lset (its' := its ++ [u]) hH e (by simp) (r.append (.cons ru .nil)) ?_, rfl, q⟩
  rw [List.length_append, List.length_singleton]
  lia
noncomputable def rExtend : V → List V → Hp → VK → Prop := fun x vs H Q => ∃ l b xs zs, x = .ref l ∧ vs = [.ref b] ∧ H l = some (.lst xs) ∧ H b = some (.lst zs) ∧ xs.length + zs.length ≤ sizeLine ∧ Q .non (upd H l (.lst (xs ++ zs)))
theorem mt_extend : MtM X "list.extend" rExtend := by
  intro pins s σ H x vs v us Q I rx rv h
  obtain ⟨l, b, xs, zs, rfl, rfl, hH, hB, hz, q⟩ := h
  cases rx
  obtain ⟨u, rfl, ru⟩ := rv.one
  cases ru
  obtain ⟨z, its, n, r, hl, e⟩ := I.lstM hH
  obtain ⟨z2, its2, n2, r2, hl2, e2⟩ := I.lstM hB
  have hsz : its.toArray.size + its2.toArray.size ≤ sizeLine := by rw [List.size_toArray, List.size_toArray]; lia
  have hlong : ¬ (!its.toArray.isEmpty && Builtin.List.listTooLong (its.toArray.size + its2.toArray.size)) = true := by
    rw [notLongL hsz, Bool.and_false]
    exact Bool.false_ne_true
  refine call_meets F.slot_list_extend ⟨_, e, rfl⟩ F.entry_list_extend (F.args_list_extend_2 _ _)
    (AutoSeq1.list_extend_list_list_0 l its.toArray n b its2.toArray n2 hlong (by rw [List.size_toArray]; lia) (by lia)) ⟨e, e2, ?_⟩
  refine ⟨.non, _, I.lset (its' := its ++ its2) hH e (by simp) (r.append r2) ?_, rfl, q⟩
  rw [List.length_append]
  lia
noncomputable def rPop : V → List V → Hp → VK → Prop := fun x vs H Q => ∃ l xs y, x = .ref l ∧ vs = [] ∧ H l = some (.lst xs) ∧ xs[xs.length - 1]? = some y ∧ Q y (upd H l (.lst xs.dropLast))
theorem mt_pop : MtM X "list.pop" rPop := by
  intro pins s σ H x vs v us Q I rx rv h
  obtain ⟨l, xs, y, rfl, rfl, hH, hy, q⟩ := h
  cases rx
  have hus := rv.zero
  subst hus
  obtain ⟨z, its, n, r, hl, e⟩ := I.lstM hH
  obtain ⟨u, hu, ru⟩ := r.get hy
  have hy' : its.toArray[its.toArray.size - 1]? = some u := by
    show its.toArray[its.length - 1]? = some u
    rw [← Array.getElem?_toList, ← hl]
    exact hu
  refine call_meets F.slot_list_pop ⟨_, e, rfl⟩ F.entry_list_pop (F.args_list_pop_1 _) (MeetsSeq.list_pop_last l its.toArray n u hy' (by rw [List.size_toArray]; lia)) ⟨e, ?_⟩
  refine ⟨y, _, I.lset (its' := its.dropLast) hH e ?_ r.dropLast ?_, ru, q⟩
  · show its.toArray.eraseIdxIfInBounds (its.toArray.size - 1) = its.dropLast.toArray
    rw [List.size_toArray, List.eraseIdxIfInBounds_toArray, erase_last]
  · rw [List.length_dropLast]
    lia
noncomputable def rCat : R2 := fun x y H Q => ∃ l b xs zs, x = .ref l ∧ y = .ref b ∧ H l = some (.lst xs) ∧ H b = some (.lst zs) ∧ xs.length + zs.length ≤ sizeLine ∧ ∀ p, H p = none → Q (.ref p) (upd H p (.lst (xs ++ zs)))
theorem op_cat : OpR X (binaryOp .Add) rCat := by
  intro pins s σ H x y v u Q I rx ry h
  obtain ⟨l, b, xs, zs, rfl, rfl, hH, hB, hz, q⟩ := h
  cases rx
  cases ry
  obtain ⟨z, its, n, r, hl, e⟩ := I.lstM hH
  obtain ⟨z2, its2, n2, r2, hl2, e2⟩ := I.lstM hB
  refine PySem.P.add_list e e2 ?_ (by rw [List.size_toArray, List.size_toArray]; lia)
  have ea : its.toArray ++ its2.toArray = (its ++ its2).toArray := by simp
  rw [ea]
  exact ⟨.ref _, _, I.lnew (t' := s.toks) (r.append r2) (by rw [List.length_append]; lia), rfl, q _ I.fresh⟩
/-- a list times an int (a negative one is nothing) -/
noncomputable def rRep : R2 := fun x y H Q => ∃ l k xs, x = .ref l ∧ y = .int k ∧ H l = some (.lst xs) ∧ -(2 ^ 63) ≤ k ∧ k < 2 ^ 63 ∧ xs.length * k.toNat ≤ sizeLine ∧
  ∀ p, H p = none → Q (.ref p) (upd H p (.lst (List.replicate k.toNat xs).flatten))
theorem len_rep {α : Type} (xs : List α) (k : Nat) : (List.replicate k xs).flatten.length = k * xs.length := by
  induction k with
  | zero => simp
  | succ k ih => rw [List.replicate_succ, List.flatten_cons, List.length_append, ih, Nat.succ_mul, Nat.add_comm]
theorem op_rep : OpR X (binaryOp .Mult) rRep := by
  intro pins s σ H x y v u Q I rx ry h
  obtain ⟨l, k, xs, rfl, rfl, hH, h1, h2, hz, q⟩ := h
  cases rx
  obtain ⟨t, rfl⟩ := ry
  obtain ⟨z, its, n, r, hl, e⟩ := I.lstM hH
  have hlen : its.toArray.size * k.toNat ≤ sizeLine := by rw [List.size_toArray, ← hl]; exact hz
  have hcap : ¬ its.toArray.size * k.toNat > (2 ^ 63 - 1) / 8 := by
    have : (sizeLine : Nat) ≤ (2 ^ 63 - 1) / 8 := by decide
    lia
  have hfit : ¬ (!Builtin.List.listFitsIndex k) = true := by
    rw [fitsIndex_both h1 h2]
    exact Bool.false_ne_true
  have hlong : ¬ Builtin.List.listTooLong (its.toArray.size * k.toNat) = true := by
    rw [notLongL hlen]
    exact Bool.false_ne_true
  have hnew : List.foldl (fun x1 x2 => x1 ++ x2) #[] (List.replicate (if its.toArray.isEmpty = true then 0 else k.toNat) its.toArray) = (List.replicate k.toNat its).flatten.toArray := by
    have f0 : ∀ m : Nat, List.foldl (fun x1 x2 => x1 ++ x2) #[] (List.replicate m its.toArray) = (List.replicate m its).flatten.toArray := fun m => by
      have := foldl_rep its m []
      rw [List.nil_append] at this
      exact this
    rw [f0]
    cases its with
    | nil => simp
    | cons a r' => rw [if_neg (by simp)]
  refine wpAny_binaryOp_repeat_ref (T := "list") (U := "int") (by decide) ⟨_, e, rfl⟩ (fun s' => typeIs_int s' k t) noFill_list_mul F.fills_int_mul F.slot_int_rmul repeat_list F.slot_int_index.lookup
    (call_meets F.slot_int_rmul (typeIs_int s k t) F.entry_int_rmul (F.args_int_rmul_2 _ _) (int___rmul___int_list k t l its.toArray n)
      ⟨e, rfl, ⟨_, e, rfl⟩, call_meets F.slot_list_mul ⟨_, e, rfl⟩ F.entry_list_mul (F.args_list_mul_2 _ _) (AutoListH.list___mul___list_int_3 l its.toArray n k t hfit hcap hlong) ⟨e, ?_⟩⟩)
  rw [hnew]
  exact ⟨.ref _, _, I.lnew (t' := s.toks) (r.rep k.toNat) (by rw [len_rep, Nat.mul_comm]; exact hz), rfl, q _ I.fresh⟩
end
section
variable {prog : Program} {w : World} {A : Around} {E : Value → Shared → Prop} {s : Shared}
end
section
variable {X : Cx}
end
end L2
namespace Att
open PySem PySem.W PySem.Calls PyProof.Rows
theorem ints_of_wellAll {P : Params} {h : Heap} : ∀ (ns : List Int) (vs : List Value), WellAll P h vs (ns.map WData.int) → IntsAre vs ns := by
  intro ns
  induction ns with
  | nil =>
    intro vs w
    rw [List.map_nil] at w
    cases w
    exact .nil
  | cons n ns ih =>
    intro vs w
    rw [List.map_cons] at w
    cases w with
    | cons a b =>
      cases a
      exact .cons _ _ (ih _ b)
theorem script_of {l : OpenLaw} {n : Nat} (hn : l.most = some n) {P : Params} {h : Heap} {args : List WData} {vals : List Value}
    (hpre : l.row.toRowW.claim.pre args = true) (hwl : WellAll P h vals args) :
    ∃ a vs ns, vals = [Value.ref a] ∧ args = [WData.list (ns.map WData.int)] ∧ h.get? a = some { cls := .type "list", data := .seq vs.toArray } ∧ IntsAre vs ns ∧ ns.length ≤ n := by
  have hsh : WShape.hasAll [] args [.list .int] = true := (pre_splitW hpre).1
  have hc : l.pre.holds [] { args := args } = true := (pre_splitW hpre).2
  obtain ⟨d, r, rfl, h1, h2⟩ := hasAllW_cons hsh
  obtain rfl := hasAllW_nil h2
  obtain ⟨xs, rfl, h3⟩ := hasW_list h1
  obtain ⟨ns, rfl⟩ := items_int h3
  have hlen : ns.length ≤ n := by
    unfold OpenLaw.pre at hc
    have h4 : (WTm.not (.lt (.lit (.int (n : Int))) (.len (.arg 0)))).holds [] { args := [.list (ns.map .int)] } = true := by
      have h4 := (holds_andW hc).1
      rw [hn] at h4
      exact h4
    have h5 := condW_of h4 (w_not (w_lt w_lit (w_len_list (w_arg rfl))))
    rw [List.length_map] at h5
    refine Nat.le_of_not_lt fun q => ?_
    have q' : (n : Int) < ((ns.length : Nat) : Int) := by lia
    first
      | (rw [decide_eq_true q'] at h5; exact absurd h5 (by decide))
      | (simp at h5; lia)
  cases hwl with
  | cons w1 w2 =>
    cases w2
    cases w1 with
    | list ho hall => exact ⟨_, _, ns, rfl, rfl, ho, ints_of_wellAll ns _ hall, hlen⟩
theorem post_true (l : OpenLaw) (args : List WData) : l.row.toRowW.claim.post args (.bool true) args = true :=
  postW_of (r := l.row.toRowW) (X := (true == true))
    (show WShape.has [] (.bool true) .bool = true by first | rfl | decide | simp [WShape.has, WShape.arms, WShape.armsAll])
    (show (WTm.eq .res (.lit (.bool true))).value [] { args := args, res := some (.bool true), after := args } = some (.bool (true == true)) from w_eq_bool (w_res rfl) w_lit) rfl
/-- the same from a codeAny of the CALL (for a layer whose function contracts speak of calls) -/
theorem attach_call {l : OpenLaw} {n : Nat} {q : Program} {loose : List Str} {XP : (Str → Option Value) → Heap → Prop} {YP : World → Heap → Prop} {d : DefRec}
    (hn : l.most = some n) (hdf : d.params.defaults = [])
    (call : ∀ (w : World) (s₀ s₁ : Shared) (mg mb : Str → Option Value) (fa : Addr) (o : Obj) (pm cd doc : Value) (a : Addr) (vs : List Value) (ns : List Int),
      Ground q loose [] XP w s₀ mg mb s₁.heap → YP w s₁.heap →
      s₁.heap.get? fa = some o → o.data = .func (docDef d.name d.params d.body d.scope pm cd doc) → s₁.heap.CodeRec cd d.name → mg d.name = some (.ref fa) →
      s₁.heap.get? a = some { cls := .type "list", data := .seq vs.toArray } → IntsAre vs ns → ns.length ≤ n → s₁.gens = #[] →
      codeAny (model l.prog w) callerA (.call (.ref fa) ⟨[.ref a], []⟩) (fun r s' => r = .ok (.ret (.bool true)) ∧ OldK s₁.heap s'.heap ∧ s'.os = s₁.os ∧ AllBare s'.gens) s₁) :
    WalkO q loose XP YP l.row.toRowW d [] (fun f vs => PySem.call f vs) := by
  intro w s₀ s₁ mg mb G Y fa o pm cd doc dV kV ho hd hcd hD hmg hg args vals as hpre hlay hrd hwl hlo
  obtain rfl : dV = .none := Dflts.none hD hdf
  obtain rfl : kV = .none := Dflts.noKw hD
  obtain ⟨a, vs, ns, rfl, rfl, hobj, hints, hlen⟩ := script_of hn hpre hwl
  refine enter_call (codeAny_mono (call w s₀ s₁ mg mb fa o pm cd doc a vs ns G Y ho (fd_plain hd) hcd hmg hobj hints hlen hg) fun r s' hq => ?_)
  obtain ⟨rfl, h2, h3, h4⟩ := hq
  exact ⟨.inl ⟨.bool true, .bool true, [], rfl, fun _ => rfl, .bool true, post_true l _, fun _ => ⟨List.Pairwise.nil, fun _ hm => (nomatch hm)⟩⟩, h2, h3, h4⟩
section
variable {prog : Program} {w : World} {A : Around} {E : Value → Shared → Prop} {s : Shared} {K : Frag}
end
end Att
namespace L2
open PySem PySem.Spec PyProof.Rows
theorem vals_ints : ∀ {vs : List Value} {ns : List Int}, IntsAre vs ns → Vals (ns.map V.int) vs
  | _, _, .nil => .nil
  | _, _, .cons n t h => .cons ⟨t, rfl⟩ (vals_ints h)
/-- nothing is tracked but the script, known to the object (or it is an object of the module) -/
noncomputable def Only (H : Hp) : Prop := ∀ b, H b = none ∨ ∃ o xs, H b = some (.frz o (.lst xs))
/-- THE HEAD: the law's promise, at the heap behind the top. F, the promise of the law's def, may use that base is part of the heap (so K.In base, base.Ns mainGlobals mg stand in Mod) -/
theorem law_call {P : Program} {w : World} {K : PySem.W.Frag} {mg mb : Str → Option Value} {CX : CXT} {k : Nat} {fa a : Addr} {fd : FuncData} {x : Str} {sp : Sp} {s₁ : Shared} {vs : List Value} {ns : List Int}
    (KX : K.In s₁.heap) (hns : s₁.heap.Ns mainGlobals mg) (hb : s₁.heap.Ns builtinsNs mb) (hbb : ∀ x : Str, x ≠ "__name__" → mb x = bootBuiltins x) (hlim : s₁.heap.NoLimit) (hg : s₁.gens = #[])
    (ha : s₁.heap.get? a = some { cls := .type "list", data := .seq vs.toArray }) (hi : IntsAre vs ns) (hl : ns.length ≤ sizeLine) (hr : Room k callerA)
    (F : ∀ base : Heap, K.In base → base.Ns mainGlobals mg → FnOk P w K mg base CX k fa fd [x] sp) (hbind : ∀ (s : Shared) (u : Value), BindsTo s fd ⟨[u], []⟩ [(x, u)])
    (hsp : ∀ H : Hp, Only H → SqL K H a (ns.map V.int) → sp [.ref a] H (fun v _ => v = .bl true) fun _ _ _ => False)
    (hCX : ∀ H e s', CX [] H s₁ (fun _ _ _ => False) e s' → False) :
    codeAny (model P w) callerA (.call (.ref fa) ⟨[.ref a], []⟩) (fun r s' => r = .ok (.ret (.bool true)) ∧ OldK s₁.heap s'.heap ∧ s'.os = s₁.os ∧ AllBare s'.gens) s₁ := by
  have rv := vals_ints hi
  have lenV := hi.length
  -- from an abstract heap in which nothing but the script may be tracked
  have core : ∀ H : Hp, Only H → SqL K H a (ns.map V.int) → HOk P w H s₁.heap → (∀ b, H b ≠ none → b = a) → (H a ≠ none → K.lookup a = none) →
      codeAny (model P w) callerA (.call (.ref fa) ⟨[.ref a], []⟩) (fun r s' => r = .ok (.ret (.bool true)) ∧ OldK s₁.heap s'.heap ∧ s'.os = s₁.os ∧ AllBare s'.gens) s₁ := by
    intro H hO hS hok hA hK
    have base_of : ∀ {b : Addr} {o : Obj}, s₁.heap.get? b = some o → H b = none → (hidT s₁.heap H).get? b = some o := fun e n => hidT_get e n
    have noA : ∀ {b : Addr} {o : Obj} {es : Array DictEntry} {ep : Nat}, s₁.heap.get? b = some o → o.data = .dict es ep → H b = none := fun {b o es ep} e d => by
      cases q : H b with
      | none => rfl
      | some u =>
        have e' : b = a := hA b (by rw [q]; simp)
        subst e'
        rw [ha] at e; cases e
        have d' : Data.seq vs.toArray _ = Data.dict es ep := d
        cases d'
    have nsK : ∀ {b : Addr} {m : Str → Option Value}, s₁.heap.Ns b m → (hidT s₁.heap H).Ns b m := fun {b m} ⟨o, es, ep, e, d, r⟩ => ⟨o, es, ep, base_of e (noA e d), d, r⟩
    have hKb : K.In (hidT s₁.heap H) := fun b o e => base_of (KX b o e) (by
      cases q : H b with
      | none => rfl
      | some u =>
        have e' : b = a := hA b (by rw [q]; simp)
        subst e'
        rw [hK (by rw [q]; simp)] at e; cases e)
    have hM : Mod K mg (hidT s₁.heap H) := ⟨hKb, nsK hns, ⟨mb, nsK hb, hbb⟩, let ⟨mc, h1, h2⟩ := hlim; ⟨mc, nsK h1, h2⟩⟩
    have e0 : Env0 P w K mg (hidT s₁.heap H) callerA [] s₁ H := ⟨rfl, hM, fun b o e => of_hidT e, Nat.le_of_eq (hidT_size _ _), trivial, fun b hb => absurd (show b ∈ ([] : List Addr) from hb) (by simp), hok, .of_eq hg⟩
    refine codeAny_mono ((F _ hKb (nsK hns)).run callerA [] s₁ H ⟨[.ref a], []⟩ [.ref a] [.ref a] _ _ hr e0 (hbind s₁ (.ref a)) (.cons rfl .nil) (hsp H hO hS)) fun r s' h => ?_
    cases r with
    | error e => exact (hCX H e s' h).elim
    | ok fl =>
      cases fl with
      | next => exact False.elim h
      | brk => exact False.elim h
      | cont => exact False.elim h
      | ret u =>
        obtain ⟨v, H', os, bare, un, hok', r', q⟩ := h
        have q' : v = .bl true := q
        subst q'
        obtain rfl : u = Value.bool true := r'
        refine ⟨rfl, OldK.of_keep fun b o e => ?_, os, bare⟩
        cases q : H b with
        | none => exact un.keep b o e q (by intro z; exact absurd (show b ∈ ([] : List Addr) from z) (by simp)) (by simp)
        | some u =>
          rcases hO b with z | ⟨ob, xs, z⟩
          · rw [q] at z; cases z
          · have z2 := un.frzs b ob _ z
            obtain ⟨e1, _⟩ := hok b _ z
            obtain ⟨e2, _⟩ := hok' b _ z2
            rw [e] at e1; cases e1
            exact e2
  cases hk : K.lookup a with
  | some o =>
    -- the script is one of the module's own objects
    have e := KX a o hk
    rw [ha] at e
    cases e
    refine core (fun _ => none) (fun _ => .inl rfl) (.inr ⟨_, vs.toArray, _, hk, rfl, rfl, rfl, by rw [List.size_toArray, lenV]; exact hl, by simpa using rv⟩) (fun b u z => by have z' : (none : Option HO) = some u := z; cases z') (fun b z => absurd rfl z) fun z => absurd rfl z
  | none =>
    refine core (fun b => if b = a then some (.frz { cls := .type "list", data := .seq vs.toArray } (.lst (ns.map V.int))) else none) (fun b => ?_) (.inl (.inr ⟨{ cls := .type "list", data := .seq vs.toArray }, if_pos rfl⟩)) (fun b u z => ?_) (fun b z => ?_) fun _ => hk
    · by_cases hb : b = a
      · exact .inr ⟨_, _, if_pos hb⟩
      · exact .inl (if_neg hb)
    · by_cases hb : b = a
      · have z' := (if_pos hb).symm.trans z
        cases z'
        subst hb
        exact ⟨ha, by rw [List.length_map]; exact hl, vs, _, rv, ha⟩
      · have z' := (if_neg hb).symm.trans z
        cases z'
    · by_cases hb : b = a
      · exact hb
      · exact absurd (if_neg hb) z
end L2
namespace L2
open PySem PySem.Spec PyProof.Rows
/-- the goal that k_head leaves (case hc), from the law's promise. F gives the function object fd (K's own) once, then the promise over every base -/
theorem walk_of {l : PySem.W.OpenLaw} {n k : Nat} {q : Program} {loose : List Str} {XP : (Str → Option Value) → Heap → Prop} {YP : World → Heap → Prop} {d : DefRec} {K : Params → PySem.W.Frag} {CX : World → CXT} {sp : World → Sp} {x : Str}
    (hn : l.most = some n) (hn2 : n ≤ sizeLine) (hdf : d.params.defaults = []) (hr : Room k callerA)
    (hY : ∀ (w : World) (h : Heap), YP w h → (K w.params).In h)
    (F : ∀ (w : World) (mg : Str → Option Value) (fa : Addr) (h : Heap), (K w.params).In h → h.Ns mainGlobals mg → mg d.name = some (.ref fa) →
      ∃ fd : FuncData, (∀ (s : Shared) (u : Value), BindsTo s fd ⟨[u], []⟩ [(x, u)]) ∧
        ∀ base : Heap, (K w.params).In base → base.Ns mainGlobals mg → FnOk l.prog w (K w.params) mg base (CX w) k fa fd [x] (sp w))
    (hsp : ∀ (w : World) (H : Hp) (a : Addr) (ns : List Int), ns.length ≤ n → Only H → SqL (K w.params) H a (ns.map V.int) → sp w [.ref a] H (fun v _ => v = .bl true) fun _ _ _ => False)
    (hCX : ∀ (w : World) (H : Hp) (s : Shared) (e : Value) (s' : Shared), CX w [] H s (fun _ _ _ => False) e s' → False) :
    PySem.W.WalkO q loose XP YP l.row.toRowW d [] (fun f vs => PySem.call f vs) := by
  refine Att.attach_call hn hdf fun w s₀ s₁ mg mb fa o pm cd doc a vs ns G Y ho hd hcd hmg hobj hints hlen hg => ?_
  have KX := hY w _ Y
  obtain ⟨fd, hb, hF⟩ := F w mg fa _ KX G.T.g hmg
  exact law_call KX G.T.g G.T.b G.T.builtins G.T.nolimit hg hobj hints (Nat.le_trans hlen hn2) hr hF hb (fun H hO hS => hsp w H a ns hlen hO hS) fun H e s' => hCX w H s₁ e s'
end L2
namespace L2
open PySem PySem.Spec PyProof.Rows
/-- the j-th statement of a class's body -/
noncomputable def inClass (s : Stmt) (j : Nat) : Stmt := match s with
  | .ClassDef _ _ _ body _ _ _ _ _ _ _ => body.getD j (.Pass ⟨0, 0, 0, 0⟩)
  | _ => .Pass ⟨0, 0, 0, 0⟩
noncomputable def defArgs (s : Stmt) : Arguments := match s with
  | .FunctionDef _ a _ _ _ _ _ _ _ _ => a
  | _ => { posonlyargs := [], args := [], vararg := none, kwonlyargs := [], kw_defaults := [], kwarg := none, defaults := [] }
noncomputable def defBody (s : Stmt) : List Stmt := match s with
  | .FunctionDef _ _ b _ _ _ _ _ _ _ => b
  | _ => []
noncomputable def defScope (s : Stmt) : Scope := match s with
  | .FunctionDef _ _ _ _ _ _ sc _ _ _ => sc
  | _ => { kind := .function, names := [], isGenerator := false, isCoroutine := false }
noncomputable abbrev CX0 : CXT := fun _ _ _ _ _ _ => False
noncomputable abbrev E0 : XK := fun _ _ _ => False
theorem pass0 {X : Cx} : Passes CX0 X E0 := fun _ _ _ _ _ _ _ h => h.elim
structure Fun (K : PySem.W.Frag) (x qual : Str) (st : Stmt) (f : Addr) (fd : FuncData) : Prop where
  ex : ∃ (oc : Value) (od : Option Addr) (kV doc pm : Value) (an : Option Addr) (cdv ct : Value) (osl : Array (Option Value)),
    fd = PySem.W.fnOf x qual (defArgs st) (defBody st) (defScope st) .none kV doc pm an cdv ct ∧ K.lookup f = some ⟨oc, od, .func fd, osl⟩ ∧ PySem.W.codeIn K cdv qual = true
  kp : PySem.W.keepIn K (.ref f) = true
section
variable {P : Program} {w : World} {K : PySem.W.Frag} {mg : Str → Option Value} {base : Heap}
/-- THE RULE for a def: its body as a term of rules, and the reading of that term -/
theorem Fun.ok {x qual : Str} {st : Stmt} {f : Addr} {fd : FuncData} {N ps : List Str} {k : Nat} {sp : Sp} (F : Fun K x qual st f fd) (S : FnScope N ps (defScope st)) (len : ∀ vs H Q E, sp vs H Q E → vs.length = ps.length)
    (hbody : ∀ (cdv : Value) (A : Around) (outer : List Env) (s : Shared) (H : Hp) (vs : List V) (Q : VK) (E : XK), Room k (A.deeper (envOfC qual (defScope st) s.heap.objs.size f cdv)) → sp vs H Q E →
      ∃ t, PSs (cxOf CX0 P w K mg base N qual (defScope st) f cdv A outer s H E).nox (defBody st) t ∧ t { nx := fun _ H' => Q .non H', rt := Q } (start N vs) H) : FnOk P w K mg base CX0 (k + 1) f fd ps sp := by
  obtain ⟨oc, od, kV, doc, pm, an, cdv, ct, osl, rfl, lk, hcd⟩ := F.ex
  refine fn_of lk hcd S len fun A outer s H vs Q E hr hsp => ?_
  obtain ⟨t, h, q⟩ := hbody cdv A outer s H vs Q E hr hsp
  exact ⟨t, h.nox, q⟩
/-- how its arguments bind (no defaults): h is «fun _ _ _ _ _ _ us hl => match us, hl with | [_, _], _ => rfl», one _ a parameter -/
theorem Fun.binds {x qual : Str} {st : Stmt} {f : Addr} {fd : FuncData} {ps : List Str} (F : Fun K x qual st f fd)
    (h : ∀ (kV doc pm : Value) (an : Option Addr) (cdv ct : Value) (us : List Value), us.length = ps.length → bindArgs (PySem.W.fnOf x qual (defArgs st) (defBody st) (defScope st) .none kV doc pm an cdv ct) ⟨us, []⟩ = pure (ps.zip us)) : Binds K fd ps [] := by
  obtain ⟨oc, od, kV, doc, pm, an, cdv, ct, osl, rfl, lk, hcd⟩ := F.ex
  exact .all (h kV doc pm an cdv ct)
theorem fun_mk {x qual : Str} {st : Stmt} {f : Addr} {oc : Value} {od an : Option Addr} {osl : Array (Option Value)} {kV doc pm cdv ct : Value} (l : K.lookup f = some ⟨oc, od, .func (PySem.W.fnOf x qual (defArgs st) (defBody st) (defScope st) .none kV doc pm an cdv ct), osl⟩)
    (c : PySem.W.codeIn K cdv qual = true) (k : PySem.W.keepIn K (.ref f) = true) : Fun K x qual st f (PySem.W.fnOf x qual (defArgs st) (defBody st) (defScope st) .none kV doc pm an cdv ct) := ⟨⟨oc, od, kV, doc, pm, an, cdv, ct, osl, rfl, l, c⟩, k⟩
end
theorem hu_of {A : Around} {k : Nat} (hr : Room k A) : A.units + 1 < cLine := Nat.lt_of_le_of_lt (Nat.add_le_add_left (by decide : 1 ≤ 64) _) hr.units
section
variable {X : Cx}
/-- len of a dict -/
theorem call_lenD : CallR X (.builtin "len") (fun xs H Q => ∃ a kvs, xs = [V.ref a] ∧ H a = some (.dK kvs) ∧ Q (.int kvs.length) H) := by
  intro pins s σ H xs us Q I r h
  obtain ⟨a, kvs, rfl, ha, q⟩ := h
  obtain ⟨u, rfl, ru⟩ := vals1 r
  cases ru
  exact d_len I (.inl ha) fun t s' I' => ⟨.int kvs.length, H, I', ⟨t, rfl⟩, q⟩
end
/-- all that was tracked is as it was -/
noncomputable def Same (H H' : Hp) : Prop := ∀ b o, H b = some o → H' b = some o
theorem Same.free {H H' : Hp} (e : Same H H') {l : Addr} (h : H' l = Option.none) : H l = Option.none := by
  cases q : H l with
  | none => rfl
  | some o =>
    rw [e l o q] at h
    cases h
section
variable {κ : Type} [DecidableEq κ]
end
end L2
set_option maxHeartbeats 4000000
namespace PySem
noncomputable def clOf (names : List (Str × NameKind)) (env : Env) : List (Str × Addr) :=
  names.foldl (fun cs p => if p.2 == NameKind.free then (p.1, (env.cells.lookup p.1).getD 0) :: cs else cs) []
theorem closure_loop {env : Env} : ∀ (l : List (Str × NameKind)) (acc : List (Str × Addr)), (∀ p ∈ l, p.2 = .free → ∃ c, env.cells.lookup p.1 = some c) →
    (forIn l acc (fun (x : Str × NameKind) (cs : List (Str × Addr)) => match x with
      | (name, kind) => if (kind == NameKind.free) = true then (do let a ← cellOf env name; pure (ForInStep.yield ((name, a) :: cs)) : Sem _) else pure (ForInStep.yield cs))) =
    (pure (l.foldl (fun cs p => if p.2 == NameKind.free then (p.1, (env.cells.lookup p.1).getD 0) :: cs else cs) acc) : Sem _)
  | [], acc, _ => by simp
  | (n, k) :: r, acc, h => by
    have ih := fun a => closure_loop r a fun p hp => h p (List.mem_cons_of_mem _ hp)
    rw [List.forIn_cons]
    by_cases hk : k = .free
    · subst hk
      obtain ⟨c, e⟩ := h (n, .free) List.mem_cons_self rfl
      have e' : cellOf env n = pure c := by unfold cellOf; rw [e]
      show (if (NameKind.free == NameKind.free) = true then (do let a ← cellOf env n; pure (ForInStep.yield ((n, a) :: acc)) : Sem _) else pure (ForInStep.yield acc)) >>= _ = _
      rw [if_pos (by rfl), e', pure_bind, pure_bind]
      rw [List.foldl_cons]
      have e2 : (if ((n, NameKind.free).2 == NameKind.free) = true then ((n, NameKind.free).1, (env.cells.lookup (n, NameKind.free).1).getD 0) :: acc else acc) = (n, c) :: acc := by
        rw [if_pos (by rfl), e]; rfl
      rw [e2]
      exact ih _
    · have hb : (k == NameKind.free) = false := by simpa using hk
      simp only [hb, Bool.false_eq_true, if_false, pure_bind, ih, List.foldl_cons]
theorem closureFor_all {scope : Scope} {env : Env} (h : ∀ p ∈ scope.names, p.2 = .free → ∃ c, env.cells.lookup p.1 = some c) : closureFor scope env = pure (clOf scope.names env) := by
  unfold closureFor clOf
  have := closure_loop (env := env) scope.names [] h
  simp only [bind_pure]
  exact this
theorem mem_clOf {env : Env} : ∀ {l : List (Str × NameKind)} {acc : List (Str × Addr)} {y : Str} {c : Addr},
    (y, c) ∈ l.foldl (fun cs p => if p.2 == NameKind.free then (p.1, (env.cells.lookup p.1).getD 0) :: cs else cs) acc ↔ (y, c) ∈ acc ∨ ((y, NameKind.free) ∈ l ∧ c = (env.cells.lookup y).getD 0)
  | [], acc, y, c => by simp
  | (n, k) :: r, acc, y, c => by
    rw [List.foldl_cons, mem_clOf (l := r)]
    by_cases hk : k = .free
    · subst hk
      simp only [beq_self_eq_true, if_true, List.mem_cons, Prod.mk.injEq]
      constructor
      · rintro ((⟨rfl, rfl⟩ | h) | ⟨h1, h2⟩)
        · exact .inr ⟨.inl ⟨rfl, trivial⟩, rfl⟩
        · exact .inl h
        · exact .inr ⟨.inr h1, h2⟩
      · rintro (h | ⟨⟨rfl, _⟩ | h1, h2⟩)
        · exact .inl (.inr h)
        · exact .inl (.inl ⟨rfl, h2⟩)
        · exact .inr ⟨h1, h2⟩
    · have hb : (k == NameKind.free) = false := by simpa using hk
      simp only [hb, Bool.false_eq_true, if_false, List.mem_cons, Prod.mk.injEq]
      constructor
      · rintro (h | ⟨h1, h2⟩)
        · exact .inl h
        · exact .inr ⟨.inr h1, h2⟩
      · rintro (h | ⟨⟨_, h⟩ | h1, h2⟩)
        · exact .inl h
        · exact absurd h.symm hk
        · exact .inr ⟨h1, h2⟩
theorem mem_of_lookupG {β : Type} : ∀ {l : List (Str × β)} {a : Str} {b : β}, l.lookup a = some b → (a, b) ∈ l
  | [], _, _, h => by simp at h
  | (k, v) :: l, a, b, h => by
    rw [List.lookup_cons] at h
    split at h
    · rename_i e
      cases h
      have : a = k := by simpa using e
      subst this
      exact List.mem_cons_self
    · exact List.mem_cons_of_mem _ (mem_of_lookupG h)
theorem lookup_of_mem {β : Type} : ∀ {l : List (Str × β)} {a : Str} {b : β}, (a, b) ∈ l → ∃ b', l.lookup a = some b'
  | [], _, _, h => by simp at h
  | (k, v) :: l, a, b, h => by
    rw [List.lookup_cons]
    split
    · exact ⟨v, rfl⟩
    · rename_i e
      rcases List.mem_cons.mp h with q | q
      · cases q
        simp at e
      · exact lookup_of_mem q
theorem relabel_lookup {env : Env} : ∀ {names : List (Str × NameKind)} {y : Str} {k : NameKind},
    (names.map fun (n, k) => if (k == NameKind.free && env.scope.kind == .function && env.kindOf n == some .cell) then (n, NameKind.cell) else (n, k)).lookup y = some k →
    names.lookup y = some k ∨ (names.lookup y = some .free ∧ k = .cell)
  | [], _, _, h => by simp at h
  | (n, k0) :: r, y, k, h => by
    rw [List.map_cons] at h
    by_cases hc : (k0 == NameKind.free && env.scope.kind == .function && env.kindOf n == some .cell) = true
    · simp only [hc, if_true] at h
      rw [List.lookup_cons] at h ⊢
      cases hy : y == n with
      | true =>
        rw [hy] at h
        cases h
        have : k0 = .free := by
          rw [Bool.and_eq_true, Bool.and_eq_true] at hc
          simpa using hc.1.1
        subst this
        exact .inr ⟨rfl, rfl⟩
      | false =>
        rw [hy] at h
        exact relabel_lookup h
    · rw [Bool.not_eq_true] at hc
      simp only [hc, Bool.false_eq_true, if_false] at h
      rw [List.lookup_cons] at h ⊢
      cases hy : y == n with
      | true =>
        rw [hy] at h
        exact .inl h
      | false =>
        rw [hy] at h
        exact relabel_lookup h
theorem relabel_free {env : Env} : ∀ {names : List (Str × NameKind)} {y : Str}, names.lookup y = some .free →
    (names.map fun (n, k) => if (k == NameKind.free && env.scope.kind == .function && env.kindOf n == some .cell) then (n, NameKind.cell) else (n, k)).lookup y = some .cell ∨
    (names.map fun (n, k) => if (k == NameKind.free && env.scope.kind == .function && env.kindOf n == some .cell) then (n, NameKind.cell) else (n, k)).lookup y = some .free
  | [], _, h => by simp at h
  | (n, k0) :: r, y, h => by
    rw [List.map_cons]
    rw [List.lookup_cons] at h
    cases hy : y == n with
    | true =>
      rw [hy] at h
      cases h
      by_cases hc : (NameKind.free == NameKind.free && env.scope.kind == .function && env.kindOf n == some .cell) = true
      · left; simp only [hc, if_true, List.lookup_cons, hy]
      · rw [Bool.not_eq_true] at hc
        right; simp only [hc, Bool.false_eq_true, if_false, List.lookup_cons, hy]
    | false =>
      rw [hy] at h
      have ih := relabel_free (env := env) h
      by_cases hc : (k0 == NameKind.free && env.scope.kind == .function && env.kindOf n == some .cell) = true
      · simp only [hc, if_true, List.lookup_cons, hy]; exact ih
      · rw [Bool.not_eq_true] at hc
        simp only [hc, Bool.false_eq_true, if_false, List.lookup_cons, hy]; exact ih
section
variable {prog : Program} {w : World} {A : Around} {R : Result → Shared → Prop} {s : Shared}
/-- what one turn of a comprehension over a list asks: the next one, let go, stored, tested, and its element appended -/
def CompAsks (prog : Program) (w : World) (A : Around) (elt target : Expr) (ifs : List Expr) (env : Env) (it acc : Value) (last : Shared → Prop) (on : Shared → Prop) : Shared → Prop :=
  let no : Value → Shared → Prop := fun _ _ => False
  wpAny (model prog w) A (pyNext it) (fun r s1 => match r with
    | none => last s1
    | some v => wpAny (model prog w) A (letOwnedTupleGo target it v) (fun _ => wpAny (model prog w) A (assign target env v) (fun _ => wpAny (model prog w) A
        (forIn ifs true fun c r => if r = true then do let ok ← isTrue c env (eval c env); pure (ForInStep.yield ok) else pure (ForInStep.yield r))
        (fun ok s4 => if ok = true then wpAny (model prog w) A (eval elt env) (fun x => wpAny (model prog w) A (call (.builtin "list.append") [acc, x]) (fun _ => on) no) no s4 else on s4) no) no) no s1) no
theorem comp_turn {elt target iter : Expr} {ifs : List Expr} {acc it : Value} {env : Env} {pos : Pos} {scope : Scope} {last on : Shared → Prop} {s : Shared} (h : CompAsks prog w A elt target ifs env it acc last on s) :
    wpAny (model prog w) A (compTurn (.ListComp elt [⟨target, iter, ifs, 0⟩] scope pos) 0 it acc env) (fun r t => r = .done .next ∧ last t ∨ r = .again (.compLoop (.ListComp elt [⟨target, iter, ifs, 0⟩] scope pos) 0 it acc env) ∧ on t) (fun _ _ => False) s := by
  have off : ∀ {R : Value → Shared → Prop} (e : Value) (t : Shared), False → R e t := fun _ _ f => f.elim
  rw [compTurn_list]
  refine wpAny_bind (wpAny_standAt (wpAny_bind (wpAny_mono h (fun r s1 k => ?_) off)))
  match r, k with
  | none, k => exact wpAny_pure (.inl ⟨rfl, k⟩)
  | some v, k =>
    refine wpAny_bind (wpAny_mono k (fun _ _ k => wpAny_bind (wpAny_mono k (fun _ _ k => wpAny_bind (wpAny_mono k (fun ok s4 k => ?_) off)) off)) off)
    match ok, k with
    | false, k => exact wpAny_pure (.inr ⟨rfl, k⟩)
    | true, k => exact wpAny_bind (wpAny_bind (wpAny_mono k (fun _ _ k => wpAny_bind (wpAny_mono k (fun _ _ k => wpAny_pure (wpAny_pure (.inr ⟨rfl, k⟩))) off)) off))
theorem codeAny_compLoop_any {env : Env} {it acc : Value} {scope : Scope} {pos : Pos} {ifs : List Expr} {elt target iter : Expr} (I : Nat → Shared → Prop) (turn : ∀ n s, I n s → CompAsks prog w A elt target ifs env it acc (R (.ok .next)) (fun t => ∃ m, m < n ∧ I m t) s) (n : Nat) (h : I n s) :
    codeAny (model prog w) A (.compLoop (.ListComp elt [⟨target, iter, ifs, 0⟩] scope pos) 0 it acc env) R s := by
  refine codeAny_loop rfl I (fun n s k => wpAny_noted ?_) n h
  refine wpAny_mono (comp_turn (turn n s k)) (fun r t k => ?_) fun _ _ f => f.elim
  rcases k with ⟨rfl, k⟩ | ⟨rfl, k⟩
  · exact k
  · exact ⟨rfl, k⟩

end
end PySem
namespace L2
open PySem PySem.Spec PyProof.Rows
/-- what a comprehension's block stands on: its iterator's records, the state and the abstract heap ahead of it, its own names' address, the pins -/
structure CompAt where
  fp : List Addr
  s : Shared
  H : Hp
  C : Addr
  pins : List (Addr × Obj)
noncomputable def compCx (X : Cx) (scope : Scope) (N : List Str) (z : CompAt) : Cx :=
  { X with N := N, s₀ := z.s, H₀ := z.H, env := compEnvC scope (clOf scope.names X.env) z.C X.env, outer := X.stack, ex := z.fp, fn := fun _ => false, pn := X.pn ++ z.pins, xe := fun _ _ => False }
structure CompOk (X : Cx) (scope : Scope) (x : Str) (ys : List Str) (ix : List Nat) : Prop where
  kind : scope.kind = .function
  hx : scope.names.lookup x = some .local
  nocell : ∀ p ∈ scope.names, p.2 ≠ .cell
  names : ∀ p ∈ scope.names, p.2 = .local → scope.names.lookup p.1 = some .local
  fr : ∀ p ∈ scope.names, p.2 = .free → X.env.kindOf p.1 = some .cell ∨ X.env.kindOf p.1 = some .free
  len : ys.length = ix.length
  here : ∀ (j : Nat) (y : Str) (i : Nat), ys[j]? = some y → ix[j]? = some i → scope.names.lookup y = some .free ∧ X.N[i]? = some y
  nd : (x :: ys).Nodup
/-- the tests of a comprehension -/
noncomputable def PIfs (X : Cx) (ifs : List Expr) (t : TT) : Prop :=
  ∀ (pins : List (Addr × Obj)) (s : Shared) (σ : St) (H : Hp) (Q : Bool → Hp → Prop), Inv X pins σ H s → t σ H Q →
    wpAny (model X.prog X.w) X.A (forIn ifs true fun c r => if r = true then do let ok ← isTrue c X.env (eval c X.env); pure (ForInStep.yield ok) else pure (ForInStep.yield r)) (TP X pins σ Q) X.xe s
noncomputable def tNoIf : TT := fun _ H Q => Q true H
theorem pifs_nil {X : Cx} : PIfs X [] tNoIf := fun pins s σ H Q I h => wpAny_tests_nil ⟨H, I, h⟩
theorem pifs_one {X : Cx} {c : Expr} {t : TT} (h : PT X c t) : PIfs X [c] t := fun pins s σ H Q I q => wpAny_tests_one (h pins s σ H Q I q)
section
variable {X : Cx} {scope : Scope} {x : Str} {ys : List Str} {ix : List Nat} {elt iter : Expr} {ifs : List Expr} {px pos : Pos} {wi : TI} {tt : CompAt → TT} {te : CompAt → TE}
theorem comp_turned {pins : List (Addr × Obj)} {σ : St} {H : Hp} {s : Shared} {C : Addr} {h' : Heap} (I : Inv X pins σ H s) (f : FpOk X pins H C) (hs : Heap.SameBut C s.heap h') : Inv X pins σ H { s with heap := h' } :=
  I.turned (t' := s.toks) (fun b o hb e => (hs.2 b hb).trans e) f.1 f.2.1 f.2.2.2.1 f.2.2.2.2.1 f.2.2.2.2.2
end
section
variable {ix : List Nat} {tt : CompAt → TT} {te : CompAt → TE} {σ : St} {Q : VK} {H1 : Hp}
end
section
variable {X : Cx} {tg : Expr}
end
section
variable {ix : List Nat} {tt : CompAt → TT} {te : CompAt → TE} {σ : St} {Q : VK} {H1 : Hp}
end
end L2
namespace PySem
open PyProof.Rows
theorem lri_no_len : typeLookup (.type "list_reverseiterator") "__len__" = pure none := by rw [typeLookup_type, builtinLookup_eq_fast]; kernel_rfl
theorem lri_hint : typeLookup (.type "list_reverseiterator") "__length_hint__" = pure (some (.builtin "list_reverseiterator.__length_hint__")) := by rw [typeLookup_type, builtinLookup_eq_fast]; kernel_rfl
section
variable {prog : Program} {w : World} {A : Around} {E : Value → Shared → Prop} {s : Shared}
/-- a reversed list's iterator: how long it is isn't asked at once -/
theorem rev_hint {r : Addr} {Q : Bool → Shared → Prop} (hT : s.TypeIs (.ref r) "list_reverseiterator") (h : Q false s) : wpAny (model prog w) A (Builtin.List.listLengthHint (.ref r)) Q E s := by
  have isa : isSubtype (.type "list_reverseiterator") (.type "list_reverseiterator") = pure true := by rw [isSubtype_type]; kernel_rfl
  have cut : splitId "list_reverseiterator.__length_hint__" = some ("list_reverseiterator", "__length_hint__") := by decide +kernel
  unfold Builtin.List.listLengthHint
  refine wpAny_bind (wpAny_specialOf hT lri_no_len (wpAny_bind (wpAny_specialOf hT lri_hint ?_)))
  dsimp only
  rw [cut]
  refine wpAny_bind (wpAny_isInstance hT isa ?_)
  rw [if_neg (by decide), if_pos (by decide +kernel), if_neg (by decide +kernel)]
  exact wpAny_pure h
/-- a list, new -/
def NewList (s : Shared) : Value → Shared → Prop := fun v t => v = .ref s.heap.objs.size ∧ t = { s with heap := s.heap.push { cls := .type "list", data := .seq #[] } }
/-- list(reversed(l)), the second call -/
theorem call_list_rev {l it : Addr} {items : Array Value} {Q : Value → Shared → Prop} (hh : A.handled = none) (hl : s.heap.IsList l items) (hne : l ≠ it) (hi : s.heap.IsRevIter it l ((items.size : Int) - 1)) (hn : items.size ≤ sizeLine)
    (hQ : ∀ h' tk acc c, (∀ b o, b ≠ it → s.heap.get? b = some o → h'.get? b = some o) → h'.get? s.heap.objs.size = some { cls := .type "list", dict := none, data := .seq acc c, slots := #[] } →
      ItemsOf (fun i v => items[items.size - 1 - i]? = some v) acc items.size → Q (.ref s.heap.objs.size) { s with heap := h', toks := tk }) :
    wpAny (model prog w) A (call (.type "list") [.ref it]) Q E s := by
  refine callType_codes (Q₁ := NewList s) PySem.F.called_list (PySem.F.typeCall_list_1 _) PySem.F.entry_list_init (code_list_new _ ⟨rfl, rfl⟩) ?_
  rintro _ _ ⟨rfl, rfl⟩
  have hS := Heap.get?_push_size s.heap (o := { cls := .type "list", data := .seq #[] }) rfl
  have below : ∀ {b o}, s.heap.get? b = some o → b < s.heap.objs.size := Heap.lt_size
  have hlt : l < s.heap.objs.size := hl.elim fun _ q => below q.1
  have hit : it < s.heap.objs.size := hi.elim fun _ q => below q.1
  refine ⟨⟨_, hS, rfl⟩, PySem.F.args_list_init_2 _ _, ?_⟩
  show wpAny _ _ (do let old ← Builtin.List.listItems (.ref s.heap.objs.size); Builtin.List.listUpdate (.ref s.heap.objs.size) (fun _ => #[]); letGo old.toList.reverse; Builtin.List.listExtendWith (.ref s.heap.objs.size) (.ref it) .none) _ _ _
  refine wpAny_bind ?_
  unfold Builtin.List.listItems
  refine wpAny_bind (wpAny_seqItems hS rfl (wpAny_pure ?_))
  show wpAny _ _ (updateSeq s.heap.objs.size (fun _ => #[]) >>= fun _ => letGo (#[] : Array Value).toList.reverse >>= fun _ => Builtin.List.listExtendWith (.ref s.heap.objs.size) (.ref it) .none) _ _ _
  refine wpAny_bind (wpAny_updateSeq hS rfl ?_)
  have hS₂ := Heap.get?_update_self (Obj.mapSeq (fun _ => (#[] : Array Value))) hS rfl
  generalize hh2 : (s.heap.push { cls := .type "list", data := .seq #[] }).update s.heap.objs.size (Obj.mapSeq (fun _ => (#[] : Array Value))) = h2 at hS₂ ⊢
  have oth : ∀ b o, s.heap.get? b = some o → h2.get? b = some o := fun b o e => by
    rw [← hh2]
    exact (Heap.get?_update_other _ _ (Nat.ne_of_gt (Heap.lt_size e))).trans (Heap.get?_push_of_some _ e)
  refine wpAny_bind (wpAny_letGo ?_)
  have hl2 : h2.IsList l items := hl.at fun o e => oth l o e
  have hi2 : h2.IsRevIter it l ((items.size : Int) - 1) := hi.at fun o e => oth it o e
  have hSI : s.heap.objs.size ≠ it := Nat.ne_of_gt hit
  have W := Walks.listRev (prog := prog) (w := w) (A := A.in1.in1) hh it l hne items
  have st : (fun i (h : Heap) => i ≤ items.size ∧ h.IsRevIter it l ((items.size : Int) - 1 - (i : Int)) ∧ h.IsList l items) 0 h2 := ⟨Nat.zero_le _, by simpa using hi2, hl2⟩
  unfold Builtin.List.listExtendWith
  have hT : ({ s with heap := h2 } : Shared).TypeIs (.ref it) "list_reverseiterator" := hi2.typeIs
  refine wpAny_bind (wpAny_typeOf hT ?_)
  have h1 : Builtin.List.listSameRef (.ref s.heap.objs.size) (.ref it) = false := by simp [Builtin.List.listSameRef, hSI]
  have h2' : (Value.type "list_reverseiterator" == Value.type "list") = false := by decide
  have h3 : (Value.type "list_reverseiterator" == Value.type "tuple") = false := by decide
  simp only [h1, h2', h3, Bool.or_false, Bool.false_eq_true, if_false]
  refine wpAny_bind (wpAny_pyIter_revIter hi2 ?_)
  refine wpAny_bind (wpAny_holding (rev_hint hT ?_))
  have hSf : s.heap.objs.size ∉ [it, l] := by simp only [List.mem_cons, List.not_mem_nil, or_false, not_or]; exact ⟨hSI, Nat.ne_of_gt hlt⟩
  have key : ∀ (h : Heap) (c₁ : Nat), (fun i (h : Heap) => i ≤ items.size ∧ h.IsRevIter it l ((items.size : Int) - 1 - (i : Int)) ∧ h.IsList l items) 0 h → (∀ b o, s.heap.get? b = some o → h.get? b = some o) →
      h.get? s.heap.objs.size = some { cls := .type "list", data := .seq #[] c₁ } → codeAny (model prog w) A.in1 (.builtin "list.extend.loop" ⟨[.ref s.heap.objs.size, .ref it, .none], []⟩) (wants (fun r s₂ => r = .none ∧ Q (.ref s.heap.objs.size) s₂) E) { s with heap := h } := by
    intro h c₁ hst hk hS₁
    refine codeAny_extend_loopS W.toS hn s.heap.objs.size hSf .none items.size 0 _ #[] c₁ rfl (Nat.zero_le _) hst hS₁ (ItemsOf.nil _) fun s' acc' c' hm hS' hacc => ?_
    rw [Moved.eq_with hm]
    refine ⟨rfl, hQ s'.heap s'.toks acc' c' (fun b o hb e => hm.heap b o (fun hmem => ?_) (hk b o e)) hS' hacc⟩
    rcases List.mem_cons.mp hmem with e' | hmem
    · exact absurd (Heap.lt_size e) (by rw [e']; exact Nat.lt_irrefl _)
    · exact hb (List.mem_singleton.mp hmem)
  refine wpAny_ite_split (fun _ => ?_) (fun _ => wpAny_pure ⟨plainId_quiet PySem.F.plain_extend_loop _, key _ _ st oth hS₂⟩)
  refine wpAny_bind (wpAny_rule ?_)
  refine wpAny_bind ?_
  show wpAny _ _ (updateSeq s.heap.objs.size (·.push .none) >>= fun _ => updateSeq s.heap.objs.size (·.pop)) _ _ _
  refine wpAny_bind (wpAny_updateSeq hS₂ rfl ?_)
  have hS₃ := Heap.get?_update_self (Obj.mapSeq (·.push Value.none)) hS₂ rfl
  refine wpAny_updateSeq (hz := by seq_fits) hS₃ rfl ?_
  have hS₄ := Heap.get?_update_self (Obj.mapSeq (·.pop)) hS₃ rfl
  have oth2 := ((Heap.SameBut.update h2 s.heap.objs.size (Obj.mapSeq (·.push Value.none))).trans (Heap.SameBut.update _ _ (Obj.mapSeq (·.pop)))).extBut
  refine wpAny_pure ⟨plainId_quiet PySem.F.plain_extend_loop _, key _ _ ?_ (fun b o e => oth2 b o (Nat.ne_of_lt (Heap.lt_size e)) (oth b o e)) hS₄⟩
  exact W.frame 0 _ _ st fun b hb o e => oth2 b o (fun z => hSf (z ▸ hb)) e
end
end PySem
namespace L2
open PySem PySem.Spec PyProof.Rows
section
variable {X : Cx} {e : Expr} {te : TE}
/-- list(reversed(e)) -/
theorem pe_listrev {p1 p2 q1 q2 : Pos} (hc : X.calm = true) (gl : Gl X "list") (ml : X.mg "list" = none) (gr : Gl X "reversed") (mr : X.mg "reversed" = none) (he : PE X e te)
    (hs1 : starEach [e] X.env = [(false, eval e X.env)] := by rfl)
    (hs2 : starEach [.Call (.Name "reversed" p2) [e] [] q2] X.env = [(false, eval (.Call (.Name "reversed" p2) [e] [] q2) X.env)] := by rfl) :
    PE X (.Call (.Name "list" p1) [.Call (.Name "reversed" p2) [e] [] q2] [] q1) (fun σ H Q => te σ H fun x H1 => ∃ l ys, x = .ref l ∧ SqL X.K H1 l ys ∧ ∀ p, H1 p = none → Q (.ref p) (upd H1 p (.lst ys.reverse))) := by
  intro pins s σ H Q I h
  refine Call_ (ld_blt I gl ml PyProof.Rows.boot_list (PyProof.Rows.callWith_type1 ?_ (by rw [hs2]; rfl) rfl))
  rw [hs2]
  show wpAny _ _ (spliced ((false, eval (.Call (.Name "reversed" p2) [e] [] q2) X.env) :: backTo q1 [])) _ _ s
  refine Calls.spliced_cons ?_
  refine Call_ (ld_blt I gr mr PyProof.Rows.boot_reversed (PyProof.Rows.callWith_type1 ?_ (by rw [hs1]; rfl) rfl))
  rw [hs1]
  show wpAny _ _ (spliced ((false, eval e X.env) :: backTo q2 [])) _ _ s
  refine Calls.spliced_cons (thn (he pins s σ H _ I h) fun u s1 ⟨x, H1, I1, r1, q1⟩ => Calls.spliced_nil ?_)
  obtain ⟨l, ys, e1, hq, q⟩ := q1
  subst e1
  cases r1
  obtain ⟨its, rv, p, hz⟩ := I1.list hq
  have hlen := rv.length
  refine call_reversed_list p.isList (Calls.spliced_nil ?_)
  have hl1 : (s1.heap.push (revObj l ((its.toArray.size : Int) - 1))).IsList l its.toArray := p.isList.push _
  have hlt : l < s1.heap.objs.size := by obtain ⟨_, e, _⟩ := p.isList; exact Heap.lt_size e
  refine call_list_rev (I1.ok.hd hc) hl1 (Nat.ne_of_lt hlt) ⟨_, Heap.get?_push_size _ rfl, rfl, rfl⟩ (by rw [List.size_toArray, ← hlen]; exact hz) fun h' tk acc c hk hD hacc => ?_
  have hk' : ∀ b o, s1.heap.get? b = some o → h'.get? b = some o := fun b o e => hk b o (Nat.ne_of_lt (Heap.lt_size e)) (Heap.get?_push_of_some _ e)
  have hsz : s1.heap.objs.size ≤ (s1.heap.push (revObj l ((its.toArray.size : Int) - 1))).objs.size := by rw [Heap.size_push]; exact Nat.le_succ _
  have hv : acc.toList = its.reverse := by
    refine List.ext_getElem? fun i => ?_
    by_cases hi : i < its.length
    · have hi2 : i < acc.size := by rw [hacc.1, List.size_toArray]; exact hi
      have e := hacc.2 i acc[i] (Array.getElem?_eq_getElem hi2)
      rw [List.getElem?_reverse hi, Array.getElem?_toList, Array.getElem?_eq_getElem hi2]
      simpa using e.symm
    · rw [List.getElem?_eq_none (by rw [Array.length_toList, hacc.1, List.size_toArray]; lia), List.getElem?_eq_none (by rw [List.length_reverse]; lia)]
  refine ⟨.ref _, _, I1.laid (t' := tk) (o := .lst ys.reverse) hk' hsz ?_, rfl, q _ (I1.hok.fresh hsz)⟩
  exact ⟨by rw [List.length_reverse]; exact hz, acc.toList, c, by rw [hv]; exact rv.reverse, by rw [Array.toArray_toList]; exact hD⟩
theorem op_fdivB : OpR X (binaryOp .FloorDiv) (rI (fun _ j => 0 < j ∧ j < 2 ^ 200) fun i j => .int (i / j)) := opI fun i j _ _ _ _ _ hc q => by
  have h0 : j ≠ 0 := by lia
  refine floordiv_int h0 ?_ (.inl (PyProof.noPylong_of_log2 ?_))
  · rw [Int.fdiv_eq_ediv_of_nonneg _ (by lia)]; exact q
  · have : j.natAbs < 2 ^ 200 := by lia
    have h1 : j.natAbs ≠ 0 := by lia
    exact Nat.lt_trans ((Nat.log2_lt h1).mpr this) (by decide)
theorem bools_of : ∀ {bs : List Bool} {us : List Value}, Vals (bs.map V.bl) us → us = bs.map Value.bool
  | [], _, r => by rw [List.map_nil] at r; cases r; rfl
  | b :: bs, _, r => by
    rw [List.map_cons] at r
    cases r with
    | cons r1 r2 => rw [List.map_cons, ← bools_of r2]; cases (show _ = Value.bool b from r1); rfl
theorem call_all (hc : X.calm = true) : CallR X (.builtin "all") (fun xs H Q => ∃ (p : Addr) (bs : List Bool), xs = [.ref p] ∧ SqL X.K H p (bs.map V.bl) ∧ Q (.bl (bs.all id)) H) := by
  intro pins s σ H xs us Q I r h
  obtain ⟨p, bs, rfl, hq, q⟩ := h
  obtain ⟨u, rfl, ru⟩ := vals1 r
  cases ru
  obtain ⟨its, rv, pl, hz⟩ := I.list hq
  have hits := bools_of rv
  have hlt : p < s.heap.objs.size := by obtain ⟨_, e, _⟩ := pl.isList; exact Heap.lt_size e
  refine call_all_walk (wpAny_pyIter_list pl.isList ?_)
  refine ⟨s.heap.objs.size, [s.heap.objs.size, p], [s.heap.objs.size], its.toArray.size, _, _, fun i => (bs[i]?).getD true, rfl, Walks.list (A := X.A.in1) (I.ok.hd hc) _ p (Nat.ne_of_lt hlt) its.toArray,
    ⟨⟨_, Heap.get?_push_size _ rfl, rfl, rfl⟩, pl.isList.push _⟩, fun i v s' Q' E' hP hQ => ?_, fun h' tk hk => ?_⟩
  · have e : (bs.map Value.bool)[i]? = some v := by rw [← hits]; simpa using hP
    rw [List.getElem?_map] at e
    cases eb : bs[i]? with
    | none => rw [eb] at e; cases e
    | some b =>
      rw [eb] at e
      cases (show Value.bool b = v from Option.some.inj e)
      simp only [eb, Option.getD_some] at hQ
      exact wpAny_truthy_bool hQ
  · have e : ((List.range its.toArray.size).all fun i => (bs[i]?).getD true) = bs.all id := by
      rw [List.size_toArray, hits, List.length_map]; exact PyProof.Rows.LSm.range_all bs
    rw [e]
    refine ⟨.bl (bs.all id), H, I.kept fun b o eo => hk b o (fun hm => ?_) (Heap.get?_push_of_some _ eo), rfl, q⟩
    rw [List.mem_singleton.mp hm] at eo
    exact Nat.lt_irrefl _ (Heap.lt_size eo)
end
end L2
namespace L2
open PySem PySem.Spec PyProof.Rows Builtin.Str
section
variable {X : Cx} {e : Expr} {es : List Expr} {te : TE} {t : TA}
noncomputable def rSlS : V → Option Int → Option Int → Hp → VK → Prop := fun x lo hi H Q => ∃ z, x = .str z ∧ z.length ≤ sizeLine ∧ Q (.str (Txt.slice z lo hi)) H
theorem sl_str : SlR X rSlS := by
  intro pins s σ H x v vl vu lo hi sl Q I rx hs pl pu h
  obtain ⟨z, rfl, hz, q⟩ := h
  obtain ⟨t, rfl⟩ := rx
  refine ⟨"str", _, PySem.F.slot_str_getitem.lookup, typeIs_str _ _ _, ?_⟩
  cases pl with
  | none =>
    cases pu with
    | none => exact wpAny_getItem_str_slice (l := none) (u := none) (st := none) hs rfl (post_val_or_str ⟨Nat.le_trans (Txt.slice_le z _ _) hz, fun t' k => ⟨.str (Txt.slice z none none), H, I.tok _, ⟨_, rfl⟩, q⟩⟩)
    | int j uj => exact wpAny_getItem_str_slice (l := none) (u := some (j, uj)) (st := none) hs rfl (post_val_or_str ⟨Nat.le_trans (Txt.slice_le z _ _) hz, fun t' k => ⟨.str (Txt.slice z none (some j)), H, I.tok _, ⟨_, rfl⟩, q⟩⟩)
  | int i ui =>
    cases pu with
    | none => exact wpAny_getItem_str_slice (l := some (i, ui)) (u := none) (st := none) hs rfl (post_val_or_str ⟨Nat.le_trans (Txt.slice_le z _ _) hz, fun t' k => ⟨.str (Txt.slice z (some i) none), H, I.tok _, ⟨_, rfl⟩, q⟩⟩)
    | int j uj => exact wpAny_getItem_str_slice (l := some (i, ui)) (u := some (j, uj)) (st := none) hs rfl (post_val_or_str ⟨Nat.le_trans (Txt.slice_le z _ _) hz, fun t' k => ⟨.str (Txt.slice z (some i) (some j)), H, I.tok _, ⟨_, rfl⟩, q⟩⟩)
theorem op_mul_str : OpR X (binaryOp .Mult) (fun x y H Q => ∃ z n, x = .str z ∧ y = .int n ∧ MulOk z n ∧ Q (.str (Txt.mul z n)) H) := by
  intro pins s σ H x y v u Q I rx ry h
  obtain ⟨z, n, rfl, rfl, hm, q⟩ := h
  obtain ⟨t, rfl⟩ := rx
  obtain ⟨t', rfl⟩ := ry
  exact SB.mul hm fun t' k => ⟨.str (Txt.mul z n), H, I.tok _, ⟨_, rfl⟩, q⟩
theorem call_isinst : CallR X (.builtin "isinstance") (fun xs H Q => ∃ x t n b, xs = [x, .ty n] ∧ TyOf X.K H x t ∧ PySem.W.kitOne X.K t (.type n) = some b ∧ Q (.bl b) H) := by
  intro pins s σ H xs us Q I r h
  obtain ⟨x, t, n, b, rfl, ty, hk, q⟩ := h
  obtain ⟨u, w', rfl, ru, rw'⟩ := vals2 r
  cases (show w' = Value.type n from rw')
  exact isinst_ok I ru ty hk fun tk => ⟨.bl b, H, I.tok _, rfl, q⟩
noncomputable def eqVs : List V → List V → Bool
  | [], [] => true
  | x :: xs, y :: ys => eqV x y && eqVs xs ys
  | _, _ => false
theorem range_succ_all (n : Nat) (f : Nat → Bool) : (List.range (n + 1)).all f = (f 0 && (List.range n).all fun j => f (j + 1)) := by
  rw [List.range_succ_eq_map, List.all_cons, List.all_map]; rfl
noncomputable def rEqL (K : PySem.W.Frag) (neg : Bool) : R2 := fun x y H Q => ∃ a b xs ys, x = .ref a ∧ y = .ref b ∧ SqL K H a xs ∧ SqL K H b ys ∧ xs.all flatV = true ∧ ys.all flatV = true ∧ Q (.bl (if neg then !eqVs xs ys else eqVs xs ys)) H
end
noncomputable def Has (P : Program) (w : World) (K : PySem.W.Frag) (mg : Str → Option Value) (base : Heap) (x : Str) (k : Nat) (ps : List Str) (sp : Sp) : Prop :=
  ∃ (f : Addr) (fd : FuncData), mg x = some (.ref f) ∧ PySem.W.keepIn K (.ref f) = true ∧ Binds K fd ps [] ∧ FnOk P w K mg base CX0 k f fd ps sp
theorem pe_has {X : Cx} {x : Str} {k : Nat} {ps : List Str} {sp : Sp} {p pos : Pos} {e : Expr} {es : List Expr} {t : TA} (h : Has X.prog X.w X.K X.mg X.base x k ps sp) (hr : Room k X.A) (hg : Gl X x) (ha : PA X (e :: es) t)
    (hdb : (x == ("__debug__" : Str)) = false := by decide) (he : starEach (e :: es) X.env = (false, eval e X.env) :: starEach es X.env := by rfl) (hpl : (backTo pos (starEach es X.env)).any (·.1) = false := by rfl) :
    PE X (.Call (.Name x p) (e :: es) [] pos) (tCall sp [] E0 t) := by
  obtain ⟨f, fd, hm, hk, hb, G⟩ := h
  exact pe_call G hr hg hm hk hb .nil pass0 ha hdb he hpl
end L2
namespace L2
open PySem PySem.Spec PyProof.Rows
noncomputable def inStN (n : Nat) (ix : List Nat) (σ : St) : St := List.replicate n none ++ ix.map fun i => (σ[i]?).getD none
structure CompOkN (X : Cx) (scope : Scope) (xs ys : List Str) (ix : List Nat) : Prop where
  kind : scope.kind = .function
  hx : ∀ x ∈ xs, scope.names.lookup x = some .local
  nocell : ∀ p ∈ scope.names, p.2 ≠ .cell
  names : ∀ p ∈ scope.names, p.2 = .local → scope.names.lookup p.1 = some .local
  fr : ∀ p ∈ scope.names, p.2 = .free → X.env.kindOf p.1 = some .cell ∨ X.env.kindOf p.1 = some .free
  len : ys.length = ix.length
  here : ∀ (j : Nat) (y : Str) (i : Nat), ys[j]? = some y → ix[j]? = some i → scope.names.lookup y = some .free ∧ X.N[i]? = some y
  nd : (xs ++ ys).Nodup
noncomputable def compChkN (osc : Scope) (N : List Str) (scope : Scope) (xs ys : List Str) (ix : List Nat) : Bool :=
  decide (scope.kind = .function) && xs.all (fun x => decide (scope.names.lookup x = some .local)) && scope.names.all (fun p => decide (p.2 ≠ .cell)) &&
  scope.names.all (fun p => decide (p.2 = .local → scope.names.lookup p.1 = some .local)) &&
  scope.names.all (fun p => decide (p.2 = .free → osc.names.lookup p.1 = some .cell ∨ osc.names.lookup p.1 = some .free)) &&
  decide (ys.length = ix.length) && (ys.zip ix).all (fun p => decide (scope.names.lookup p.1 = some .free ∧ N[p.2]? = some p.1)) && decide ((xs ++ ys).Nodup)
theorem compOkN_of {X : Cx} {osc scope : Scope} {N : List Str} {xs ys : List Str} {ix : List Nat} (hsc : X.env.scope = osc) (hN : X.N = N) (h : compChkN osc N scope xs ys ix = true) : CompOkN X scope xs ys ix := by
  unfold compChkN at h
  simp only [Bool.and_eq_true, List.all_eq_true, decide_eq_true_eq] at h
  obtain ⟨⟨⟨⟨⟨⟨⟨h1, h2⟩, h3⟩, h4⟩, h5⟩, h6⟩, h7⟩, h8⟩ := h
  refine ⟨h1, h2, h3, h4, fun p hp hf => ?_, h6, fun j y i e1 e2 => ?_, h8⟩
  · have := h5 p hp hf
    unfold Env.kindOf
    rw [hsc]
    exact this
  · rw [hN]
    refine h7 (y, i) ?_
    have : (ys.zip ix)[j]? = some (y, i) := by rw [List.getElem?_zip_eq_some]; exact ⟨e1, e2⟩
    exact List.mem_of_getElem? this
/-- a state that keeps what the block took from the def -/
noncomputable def KeepN (n : Nat) (ix : List Nat) (σ σ' : St) : Prop := σ'.length = n + ix.length ∧ ∀ (j : Nat) v, (inStN n ix σ)[j]? = some (some v) → σ'[j]? = some (some v)
theorem inStN_len (n : Nat) (ix : List Nat) (σ : St) : (inStN n ix σ).length = n + ix.length := by
  unfold inStN
  rw [List.length_append, List.length_replicate, List.length_map]
theorem inStN_lt {n : Nat} {ix : List Nat} {σ : St} {j : Nat} (h : j < n) (v : V) : (inStN n ix σ)[j]? ≠ some (some v) := by
  unfold inStN
  rw [List.getElem?_append_left (by rw [List.length_replicate]; exact h), List.getElem?_replicate, if_pos h]
  intro e
  have : (none : Option V) = some v := Option.some.inj e
  cases this
theorem comp_invN {X : Cx} {scope : Scope} {xs ys : List Str} {ix : List Nat} (O : CompOkN X scope xs ys ix) {pins : List (Addr × Obj)} {σ : St} {H : Hp} {s : Shared} {fp : List Addr} {h' : Heap} {t' : Nat}
    (I : Inv X pins σ H s) (hf : ∀ b ∈ fp, FpOk X pins H b) (hfl : ∀ b ∈ fp, b < s.heap.objs.size) (m : Str → Option Value)
    (hns : h'.Ns s.heap.objs.size m) (hk : ∀ b o, s.heap.get? b = some o → h'.get? b = some o) :
    Inv (compCx X scope (xs ++ ys) ⟨fp, s, H, s.heap.objs.size, pins⟩) [] (inStN xs.length ix σ) H { s with heap := h', toks := t' } := by
  have hC : H s.heap.objs.size = none := I.hok.fresh (Nat.le_refl _)
  have cl : ∀ y c, (clOf scope.names X.env).lookup y = some c → X.env.cells.lookup y = some c := fun y c e => by
    rcases (mem_clOf (acc := [])).mp (mem_of_lookupG e) with z | ⟨z, rfl⟩
    · simp at z
    · obtain ⟨c', e'⟩ := I.ok.has y (O.fr _ z rfl)
      rw [e']; rfl
  have clh : ∀ y, (y, NameKind.free) ∈ scope.names → ∃ c, (clOf scope.names X.env).lookup y = some c := fun y z => lookup_of_mem ((mem_clOf (acc := [])).mpr (.inr ⟨z, rfl⟩))
  refine ⟨⟨I.ok.mod, O.kind, I.ok.glob, I.ok.blt, Nat.le_refl _, fun y z c h1 h2 => I.ok.inj y z c (cl y c h1) (cl z c h2), fun y hy => ?_, fun y c h _ => ?_, I.ok.hd, I.ok.frames, .inl rfl,
    fun b hb => ⟨Nat.ne_of_lt (hfl b hb), fun y c e => (hf b hb).2.2.2.2.1 y c (cl y c e)⟩, I.bs, Nat.le_trans I.ok.bsz I.sz, fun b o e hb => ?_, fun b hb hb2 => ?_, I.stack, I.stkFree⟩,
    rfl, I.bare, Un.kept hk, ⟨m, hns, fun i y v e1 e2 vis => ?_⟩, fun y c e => ?_, hC, fun y c e => I.freeC y c (cl y c e), fun p hp => ?_, I.hok.kept hk, ?_⟩
  · rcases hy with h | h
    · rcases relabel_lookup h with q | ⟨q, _⟩
      · exact absurd rfl (O.nocell _ (mem_of_lookupG q))
      · exact clh y (mem_of_lookupG q)
    · rcases relabel_lookup h with q | ⟨q, e⟩
      · exact clh y (mem_of_lookupG q)
      · cases e
  · exact Bool.noConfusion (show false = true from h)
  · rcases (hf b hb).2.2.2.1 with z | z
    · exact I.ok.noex b o e z
    · exact absurd (Nat.lt_of_lt_of_le (Nat.lt_of_lt_of_le (Heap.lt_size e) I.ok.bsz) z) (Nat.lt_irrefl _)
  · exact (List.mem_cons.mp (I.stkSub b hb2)).elim (fun e => (hf b hb).2.1 e) fun z => (hf b hb).2.2.1 z
  · have hil : xs.length ≤ i := Nat.le_of_not_lt fun q => inStN_lt q v e2
    obtain ⟨j, rfl⟩ := Nat.exists_eq_add_of_le hil
    have ey : ys[j]? = some y := by
      have e1' : (xs ++ ys)[xs.length + j]? = some y := e1
      rw [List.getElem?_append_right (Nat.le_add_right _ _), Nat.add_sub_cancel_left] at e1'
      exact e1'
    have e2' : (ix.map fun i => (σ[i]?).getD none)[j]? = some (some v) := by
      have e2'' : (inStN xs.length ix σ)[xs.length + j]? = some (some v) := e2
      unfold inStN at e2''
      rw [List.getElem?_append_right (by rw [List.length_replicate]; exact Nat.le_add_right _ _), List.length_replicate, Nat.add_sub_cancel_left] at e2''
      exact e2''
    rw [List.getElem?_map] at e2'
    cases hi : ix[j]? with
    | none => rw [hi] at e2'; cases e2'
    | some i =>
      rw [hi] at e2'
      have e3 : (σ[i]?).getD none = some v := Option.some.inj e2'
      obtain ⟨hfree, hN⟩ := O.here j y i ey hi
      have ev : σ[i]? = some (some v) := by
        cases h : σ[i]? with
        | none => rw [h] at e3; cases e3
        | some q => rw [h] at e3; exact congrArg some e3
      obtain ⟨m', _, hl⟩ := I.loc
      have hkx := O.fr (y, .free) (mem_of_lookupG hfree) rfl
      obtain ⟨u, r, l⟩ := hl i y v hN ev (hkx.elim (fun z => .inr (.inl z)) fun z => .inr (.inr z))
      refine ⟨u, r, .inr ⟨relabel_free hfree, ?_⟩⟩
      obtain ⟨c, ec⟩ := clh y (mem_of_lookupG hfree)
      rcases l with ⟨k, _⟩ | ⟨_, c', ec', z⟩
      · rcases hkx with q | q
        · rw [q] at k; cases k
        · rw [q] at k; cases k
      · have : c = c' := Option.some.inj ((cl y c ec).symm.trans ec')
        subst this
        exact ⟨c, ec, z.keeps hk⟩
  · obtain ⟨v, z⟩ := I.cell y c (cl y c e)
    exact ⟨v, z.keeps hk⟩
  · have hp' : p ∈ (X.pn ++ pins) ++ ([] : List (Addr × Obj)) := hp
    rw [List.append_nil] at hp'
    obtain ⟨e, n, ne, nf, d⟩ := I.pin p hp'
    exact ⟨hk _ _ e, n, Nat.ne_of_lt (Heap.lt_size e), fun z => (List.mem_cons.mp (I.stkSub _ z)).elim ne nf, d⟩
  · show (inStN xs.length ix σ).length = (xs ++ ys).length
    rw [inStN_len, List.length_append, O.len]
/-- W: the invariant by the turn, a measure and the list so far -/
noncomputable def CompWG (n : Nat) (ix : List Nat) (J : It) (g : CompAt → TG) (tt : CompAt → TT) (te : CompAt → TE) (σ : St) (Q : VK) (H1 : Hp) : Prop :=
  ∀ D, H1 D = none → ∃ W : Nat → Nat → List V → Hp → Prop, (∃ m, W 0 m [] (upd H1 D (.lst []))) ∧ ∀ i m ys H2, W i m ys H2 → H2 D = some (.lst ys) ∧
    ((J.stop i H2 ∧ Q (.ref D) H2) ∨ (J.go i H2 ∧ ys.length < sizeLine ∧ ∃ N : List V → Hp → Prop, (∀ ys' H', N ys' H' → ∃ m', m' < m ∧ W (i + 1) m' ys' H') ∧
      ∀ x H3, J.yld i H2 x H3 → ∀ z, g z x (inStN n ix σ) H3 fun σ' H3' => KeepN n ix σ σ' ∧ tt z σ' H3' fun b H4 =>
        if b = true then te z σ' H4 fun y H5 => H5 D = some (.lst ys) ∧ N (ys ++ [y]) (upd H5 D (.lst (ys ++ [y]))) else N ys H4))
theorem comp_blockN {X : Cx} {scope : Scope} {xs ys : List Str} {ix : List Nat} (O : CompOkN X scope xs ys ix) (hc : X.calm = true) {elt iter : Expr} {ifs : List Expr} {tg : Expr} {pos : Pos} {g : CompAt → TG} {tt : CompAt → TT} {te : CompAt → TE}
    (hg : ∀ z, PG (compCx X scope (xs ++ ys) z) tg (g z)) (hi : ∀ z, PIfs (compCx X scope (xs ++ ys) z) ifs (tt z)) (he : ∀ z, PE (compCx X scope (xs ++ ys) z) elt (te z))
    {pins : List (Addr × Obj)} {σ : St} {H : Hp} {s2 : Shared} {J : It} {fp : List Addr} {it : Addr} {tn : Nat → Heap → Prop} (I2 : Inv X pins σ H s2) (T : Turn X.prog X.w X.K tg J fp it tn) (st : tn 0 s2.heap)
    (hf : ∀ b ∈ fp, FpOk X pins H b) {Q : VK} (hw : CompWG xs.length ix J g tt te σ Q H) {RR : Value → Addr → Result → Shared → Prop} {E : Value → Shared → Prop}
    (hRR : ∀ D C m' H' s', Inv X pins σ H' s' → s'.heap.Ns C m' → FpOk X pins H' C → Q (.ref D) H' → RR (.ref D) C (.ok .next) s') :
    wpAny (model X.prog X.w) X.A (newList []) (fun acc s₃ => wpAny (model X.prog X.w) X.A (newFunctionEnv scope X.env.globals (clOf scope.names X.env) [] X.env.qual none .none (some X.env)) (fun cenv s₄ =>
      codeAny (model X.prog X.w) X.A (.compStart (.ListComp elt [⟨tg, iter, ifs, 0⟩] scope pos) 0 (.ref it) acc { cenv with scope := relabel scope X.env }) (RR acc cenv.locals) s₄) E s₃) E s2 := by
  refine wpAny_newObj_type (wpAny_newFunctionEnv O.nocell (by intro y hy; simp at hy) (fun h₁ hns₁ hsb₁ => ?_) O.kind)
  dsimp only at hns₁ hsb₁ ⊢
  have hDn : H s2.heap.objs.size = none := I2.hok.fresh (Nat.le_refl _)
  obtain ⟨W, ⟨m0, w0⟩, turn⟩ := hw s2.heap.objs.size hDn
  have flt : ∀ b ∈ fp, b < s2.heap.objs.size := fun b hb => by
    obtain ⟨o, e, _⟩ := T.obj 0 _ st b hb
    exact Heap.lt_size e
  obtain ⟨s3, hs3⟩ : ∃ s3 : Shared, s3 = { s2 with heap := s2.heap.push { cls := .type "list", data := .seq ([] : List Value).toArray } } := ⟨_, rfl⟩
  have hh3 : s3.heap = s2.heap.push { cls := .type "list", data := .seq ([] : List Value).toArray } := by rw [hs3]
  have I3 : Inv X pins σ (upd H s2.heap.objs.size (.lst [])) s3 := by
    rw [hs3]
    exact I2.laid (t' := s2.toks) (fun b u e => Heap.get?_push_of_some _ e) (Nat.le_refl _) (show ObjOk X.prog X.w _ _ _ (.lst []) from ⟨Nat.zero_le _, [], 0, .nil, Heap.get?_push_size _ rfl⟩)
  have hns₂ : h₁.Ns s3.heap.objs.size fun x => ([] : List (Str × Value)).reverse.lookup x := by rw [hh3]; exact hns₁
  have hsb₂ : Heap.SameBut s3.heap.objs.size (s3.heap.push { cls := .type (if (some X.env).isSome then "dict" else "frame"), data := .dict #[] }) h₁ := by rw [hh3]; exact hsb₁
  have hf3 : ∀ b ∈ fp, FpOk X pins (upd H s2.heap.objs.size (.lst [])) b := fun b hb => ⟨by rw [upd_ne (Nat.ne_of_lt (flt b hb))]; exact (hf b hb).1, (hf b hb).2⟩
  have hsz : s3.heap.objs.size = s2.heap.objs.size + 1 := by rw [hh3, Heap.size_push]
  have flt3 : ∀ b ∈ fp, b < s3.heap.objs.size := fun b hb => by rw [hsz]; exact Nat.lt_succ_of_lt (flt b hb)
  have hk : ∀ b o, s3.heap.get? b = some o → h₁.get? b = some o := fun b o e => hsb₂.extBut b o (Nat.ne_of_lt (Heap.lt_size e)) (Heap.get?_push_of_some _ e)
  have hk2 : ∀ b o, s2.heap.get? b = some o → h₁.get? b = some o := fun b o e => hk b o (by rw [hh3]; exact Heap.get?_push_of_some _ e)
  have st1 : tn 0 h₁ := T.keep _ _ _ st fun b hb o e => hk2 b o e
  let z : CompAt := ⟨fp, s3, upd H s2.heap.objs.size (.lst []), s3.heap.objs.size, pins⟩
  have cl : ∀ y c, (clOf scope.names X.env).lookup y = some c → X.env.cells.lookup y = some c := fun y c e => by
    rcases (mem_clOf (acc := [])).mp (mem_of_lookupG e) with q | ⟨q, rfl⟩
    · simp at q
    · obtain ⟨c', e'⟩ := I2.ok.has y (O.fr _ q rfl)
      rw [e']; rfl
  -- the iterator's records, as the block sees them
  have fpy : ∀ {H' : Hp}, (∀ b ∈ fp, H' b = none) → ∀ b ∈ fp, FpOk (compCx X scope (xs ++ ys) z) [] H' b := fun hn b hb => by
    refine ⟨hn b hb, Nat.ne_of_lt (flt3 b hb), fun hb2 => ?_, .inl hb, fun y c e => (hf b hb).2.2.2.2.1 y c (cl y c e), fun p hp => ?_⟩
    · exact (List.mem_cons.mp (I3.stkSub b hb2)).elim (fun e => (hf b hb).2.1 e) fun q => (hf b hb).2.2.1 q
    · have hp' : p ∈ (X.pn ++ pins) ++ ([] : List (Addr × Obj)) := hp
      rw [List.append_nil] at hp'
      exact (hf b hb).2.2.2.2.2 p hp'
  -- back to the def
  have back : ∀ {pl : List (Addr × Obj)} {σ' : St} {H' : Hp} {s' : Shared}, Inv (compCx X scope (xs ++ ys) z) pl σ' H' s' → Inv X pins σ H' s' ∧ FpOk X pins H' s3.heap.objs.size := fun {pl σ' H' s'} IY => by
    have I' : Inv X pins σ H' s' := I3.call' (ch := fp) IY.os IY.base IY.hok IY.bare fun b hb => ⟨(hf b hb).2.2.2.1, (hf b hb).2.1, (hf b hb).2.2.2.2.1, (hf b hb).2.2.2.2.2⟩
    exact ⟨I', I3.fpOk (Nat.le_refl _) IY.free⟩
  have loop : ∀ t' : Nat, codeAny (model X.prog X.w) X.A (.compLoop (.ListComp elt [⟨tg, iter, ifs, 0⟩] scope pos) 0 (.ref it) (.ref s2.heap.objs.size) (compCx X scope (xs ++ ys) z).env) (RR (.ref s2.heap.objs.size) s3.heap.objs.size) { s3 with heap := h₁, toks := t' } := by
    intro t'
    have IY := comp_invN (t' := t') O I3 hf3 flt3 _ hns₂ hk
    refine codeAny_compLoop_any (fun n s' => ∃ i vs H', Inv (compCx X scope (xs ++ ys) z) [] (inStN xs.length ix σ) H' s' ∧ tn i s'.heap ∧ (∀ b ∈ fp, H' b = none) ∧ W i n vs H') ?_ m0 ⟨0, [], _, IY, st1, fun b hb => (hf3 b hb).1, w0⟩
    rintro n s5 ⟨i, vs, H5, I5, st5, fr5, w5⟩
    obtain ⟨hD, stop | go⟩ := turn i n vs H5 w5
    · refine thn (T.done (compCx X scope (xs ++ ys) z) rfl rfl rfl hc i [] s5 _ H5 _ I5 (fpy fr5) st5 stop.1) fun r s6 ⟨hr, I6⟩ => ?_
      subst hr
      obtain ⟨m6, n6, _⟩ := I6.loc
      exact hRR _ _ m6 H5 s6 (back I6).1 n6 (back I6).2 stop.2
    · obtain ⟨hgo, hl, N, hN, step⟩ := go
      refine thn (T.item (compCx X scope (xs ++ ys) z) rfl rfl rfl hc i [] s5 _ H5 _ I5 (fpy fr5) st5 hgo) fun r s6 ⟨u, hr, h6⟩ => ?_
      subst hr
      refine thn h6 fun _ s7 ⟨xv, H7, I7, r7, y7, st7, fr7⟩ => ?_
      have I7' := I7.pinned (fpy fr7) (T.obj _ _ st7)
      have q7 := step xv H7 y7 z
      refine thn (hg z _ s7 _ H7 xv u _ I7' r7 q7) fun _ s8 q8 => ?_
      obtain ⟨σ8, H8, I8, k8, q8⟩ := q8
      have wk : ∀ {H' : Hp} {s' : Shared}, Inv (compCx X scope (xs ++ ys) z) ([] ++ pinsAt fp s7.heap) σ8 H' s' → Inv (compCx X scope (xs ++ ys) z) [] (inStN xs.length ix σ) H' s' ∧ tn (i + 1) s'.heap ∧ ∀ b ∈ fp, H' b = none := fun {H' s'} IW => by
        refine ⟨(IW.unpinned).weak (by rw [inStN_len]; exact k8.1.symm) k8.2, T.keep _ _ _ st7 fun b hb o e => (IW.pin (b, o) (List.mem_append_right _ (List.mem_append_right _ (mem_pinsAt hb e)))).1, fun b hb => ?_⟩
        obtain ⟨o, e, d⟩ := T.obj _ _ st7 b hb
        exact (IW.pin (b, o) (List.mem_append_right _ (List.mem_append_right _ (mem_pinsAt hb e)))).2.1
      refine thn (hi z _ s8 _ H8 _ I8 q8) fun ok s9 ⟨H9, I9, q9⟩ => ?_
      cases ok with
      | false =>
        rw [if_neg Bool.false_ne_true] at q9
        rw [if_neg Bool.false_ne_true]
        obtain ⟨m', hm, w9⟩ := hN _ _ q9
        exact ⟨m', hm, i + 1, vs, H9, (wk I9).1, (wk I9).2.1, (wk I9).2.2, w9⟩
      | true =>
        rw [if_pos rfl] at q9
        rw [if_pos rfl]
        refine thn (he z _ s9 _ H9 _ I9 q9) fun yv s10 ⟨y, H10, I10, r10, hD10, n10⟩ => ?_
        obtain ⟨m', hm, w10⟩ := hN _ _ n10
        have ap := mt_append (X := compCx X scope (xs ++ ys) z) _ s10 _ H10 (.ref s2.heap.objs.size) [y] (.ref s2.heap.objs.size) [yv] (fun v H' => H' = upd H10 s2.heap.objs.size (.lst (vs ++ [y]))) I10 rfl (.cons r10 .nil) ⟨s2.heap.objs.size, vs, y, rfl, rfl, hD10, hl, rfl⟩
        refine thn ap fun _ s11 ⟨_, H11, I11, _, e11⟩ => ?_
        subst e11
        exact ⟨m', hm, i + 1, vs ++ [y], _, (wk I11).1, (wk I11).2.1, (wk I11).2.2, w10⟩
  subst hs3
  exact codeAny_compStart_list (loop _) (T.self X.A 0 _ _ _ st1 (loop _))
/-- [elt for TARGET in iter if ..], as a value -/
noncomputable def tCompG (n : Nat) (ix : List Nat) (wi : TI) (g : CompAt → TG) (tt : CompAt → TT) (te : CompAt → TE) : TE := fun σ H Q => wi σ H fun J H1 => CompWG n ix J g tt te σ Q H1
section
variable {X : Cx} {scope : Scope} {xs ys : List Str} {ix : List Nat} {elt iter tg : Expr} {ifs : List Expr} {pos : Pos} {wi : TI} {g : CompAt → TG} {tt : CompAt → TT} {te : CompAt → TE}
theorem pe_compG (O : CompOkN X scope xs ys ix) (hc : X.calm = true) (hit : PI X tg iter wi) (hg : ∀ z, PG (compCx X scope (xs ++ ys) z) tg (g z))
    (hi : ∀ z, PIfs (compCx X scope (xs ++ ys) z) ifs (tt z)) (he : ∀ z, PE (compCx X scope (xs ++ ys) z) elt (te z)) (hs : ∀ v, foldedSetIterable iter X.env v = pure v := by intro _; rfl) :
    PE X (.ListComp elt [⟨tg, iter, ifs, 0⟩] scope pos) (tCompG xs.length ix wi g tt te) := by
  intro pins s σ H Q I h
  rw [eval_ListComp]
  refine wpAny_comprehension_free (use := none) rfl hs (closureFor_all fun p hp hf => I.ok.has p.1 (O.fr p hp hf)) O.kind O.names (thn (hit pins s σ H _ I h) fun v s1 h1 => thn h1 fun itv s2 h2 => ?_)
  obtain ⟨it, fp, tn, J, H2, e, I2, T, st2, f2, hw⟩ := h2
  subst e
  refine comp_blockN (RR := fun acc C => compPost (model X.prog X.w) X.A X.xe none (EP X pins σ Q) acc C) O hc hg hi he I2 T st2 f2 hw ?_
  intro D C m' H' s' I' n' fC q
  exact ⟨m', n', fun h' hs' => ⟨.ref D, H', comp_turned I' fC hs', rfl, q⟩⟩
theorem pg_own {z : CompAt} {i : Nat} {x : Str} {p : Pos} (O : CompOkN X scope xs ys ix) (hi : xs[i]? = some x) : PG (compCx X scope (xs ++ ys) z) (.Name x p) (gName i) := by
  have hm : x ∈ xs := List.mem_of_getElem? hi
  have hl : i < xs.length := (List.getElem?_eq_some_iff.mp hi).1
  exact pg_name (X := compCx X scope (xs ++ ys) z) O.nd (by show (xs ++ ys)[i]? = some x; rw [List.getElem?_append_left hl]; exact hi) (.inl (lookup_relabel_local (O.hx x hm))) (.inr (lookup_relabel_local (O.hx x hm)))
end
end L2
namespace PySem
open Sem
open PySem.AutoSeq1 in
/-- l.extend(t): the tuple may carry a dict and slots of its own -/
theorem extend_tuple_any (p : Addr) (xs : Array Value) (m : Nat) (q : Addr) (ys : Array Value) (m2 : Nat) (qd : Option Addr) (qs : Array (Option Value))
    (short : ¬(!xs.isEmpty && Builtin.List.listTooLong (xs.size + ys.size)) = true) (hx : xs.size ≤ sizeLine) (hxy : xs.size + ys.size ≤ sizeLine + 1) :
    Meets (Builtin.«list.extend» ⟨[.ref p, .ref q], []⟩) (fun _ R st =>
      st.heap.get? p = some { cls := .type "list", dict := none, data := .seq xs m, slots := #[] } ∧
      st.heap.get? q = some { cls := .type "tuple", dict := qd, data := .seq ys m2, slots := qs } ∧
      R (.ok (.ret Value.none)) { st with heap := st.heap.update p (Obj.mapSeq fun zs => zs ++ ys), toks := st.toks }) := by
  refine .of_wp fun prog w A R st g => ?_
  obtain ⟨heap0, gens0, drawn0, toks0, os0⟩ := st
  obtain ⟨gp, gq, gR⟩ := g
  have a1 := idx_int
  have a2 := sub_tuple_tuple
  have a3 := sub_list_list
  have a4 := sub_tuple_list
  have a5 := sub_list_tuple
  have both : (xs ++ ys).size ≤ sizeLine + 1 := by
    rw [Array.size_append]
    exact hxy
  wp_walk using (wpAny_updateSeq gp rfl (hz := hx) (_hz' := both)), wpAny_loadPart' gp, wpAny_loadPart' gq
  exact ⟨_, rfl, gR⟩
end PySem
namespace HT
open PySem PySem.Spec PyProof.Rows
section
variable {prog : Program} {w : World} {A : Around} {E : Value → Shared → Prop} {s : Shared}
end
end HT
namespace L2
open PySem PySem.Spec PyProof.Rows
section
variable {X : Cx} {e st : Expr} {te : TE} {p2 pos : Pos}
/-- l.extend(t), t a tuple -/
noncomputable def rExtendT (K : PySem.W.Frag) : V → List V → Hp → VK → Prop := fun x vs H Q => ∃ l b xs zs, x = .ref l ∧ vs = [.ref b] ∧ H l = some (.lst xs) ∧ SqT K H b zs ∧ xs.length + zs.length ≤ sizeLine ∧ Q .non (upd H l (.lst (xs ++ zs)))
theorem mt_extendT : MtM X "list.extend" (rExtendT X.K) := by
  intro pins s σ H x vs v us Q I rx rv h
  obtain ⟨l, b, xs, zs, rfl, rfl, hH, hB, hz, q⟩ := h
  cases rx
  obtain ⟨u, rfl, ru⟩ := rv.one
  cases ru
  obtain ⟨z, its, n, r, hl, e⟩ := I.lstM hH
  obtain ⟨its2, r2, ht, hl2⟩ := I.tuple hB
  obtain ⟨⟨oc, od, oda, os⟩, e2, rfl, n2, rfl⟩ := id ht
  have hsz : its.toArray.size + its2.toArray.size ≤ sizeLine := by rw [List.size_toArray, List.size_toArray, ← r.length, ← r2.length]; lia
  have hlong : ¬ (!its.toArray.isEmpty && Builtin.List.listTooLong (its.toArray.size + its2.toArray.size)) = true := by
    rw [notLongL hsz, Bool.and_false]
    exact Bool.false_ne_true
  refine call_meets F.slot_list_extend ⟨_, e, rfl⟩ F.entry_list_extend (F.args_list_extend_2 _ _)
    (PySem.extend_tuple_any l its.toArray n b its2.toArray n2 od os hlong (by rw [List.size_toArray]; lia) (by lia)) ⟨e, e2, ?_⟩
  refine ⟨.non, _, I.lset (its' := its ++ its2) hH e (by simp) (r.append r2) ?_, rfl, q⟩
  rw [List.length_append]
  lia
end
end L2
namespace L2
open PySem PySem.Spec PyProof.Rows
end L2
namespace My
inductive F2 {α β : Type} (R : α → β → Prop) : List α → List β → Prop
  | nil : F2 R [] []
  | cons {a : α} {b : β} {as : List α} {bs : List β} : R a b → F2 R as bs → F2 R (a :: as) (b :: bs)
end My
namespace L2
open PySem PySem.Spec PyProof.Rows
section
variable {X : Cx}
end
end L2
namespace HT
open PySem PySem.Spec PyProof.Rows
section
variable {prog : Program} {w : World} {A : Around} {E : Value → Shared → Prop} {s : Shared}
theorem getItem_tuple_whole {t sl : Addr} {items : Array Value} {vl vu : Value} {lo hi : Option Int} {Q : Value → Shared → Prop} (ht : IsTup s.heap t items) (hs : s.heap.IsSliceOf sl vl vu .none) (pl : IsPart vl lo) (pu : IsPart vu hi)
    (hw : sIx items.size 0 lo = 0 ∧ sIx items.size items.size hi = items.size) (h : Q (.ref t) s) : wpAny (model prog w) A (getItem (.ref t) (.ref sl)) Q E s := by
  obtain ⟨os, hos, hcs, hds⟩ := id hs
  have hTs : s.TypeIs (.ref sl) "slice" := ⟨os, hos, hcs⟩
  unfold getItem
  try with_reducible refine wpAny_holding ?_
  first | refine wpAny_bind (wpAny_pure ?_) | skip
  refine wpAny_bind (wpAny_sequenceKey ht.typeIs (by decide) ?_)
  refine wpAny_bind (wpAny_callSpecial?_slot (name := Str.ofString "__getitem__") ht.typeIs PyProof.Rows.slot_tuple_getitem
    (wpAny_call_entry PyProof.Rows.slot_tuple_getitem ht.typeIs entry_tuple_getitem ?_ (args_tuple_getitem _ _)))
  show wpAny _ _ (Builtin.Tuple.tupleItemsOf (.ref t) >>= _) _ _ s
  refine wpAny_bind (tupleItemsOf_ ht ?_)
  refine wpAny_bind (wpAny_typeOf hTs ?_)
  rw [if_pos (by decide)]
  refine wpAny_bind (sliceApplied_gen hs pl pu ?_)
  have hyes : (((sIx items.size 0 lo : Nat) : Int) == 0 && (1 : Int) == 1 && (sIx items.size items.size hi - sIx items.size 0 lo) == items.size) = true := by
    rw [hw.1, hw.2]; simp
  show wpAny _ _ (if (((sIx items.size 0 lo : Nat) : Int) == 0 && (1 : Int) == 1 && (sIx items.size items.size hi - sIx items.size 0 lo) == items.size) = true then _ else _) _ _ s
  rw [if_pos hyes]
  unfold Builtin.Tuple.tupleIsExact
  refine wpAny_bind (wpAny_bind (wpAny_typeOf ht.typeIs (wpAny_pure ?_)))
  rw [if_pos (by decide)]
  refine wpAny_bind (wpAny_rule ?_)
  exact wpAny_pure ⟨_, rfl, wpAny_pure h⟩
end
end HT
namespace L2
open PySem PySem.Spec PyProof.Rows
section
variable {X : Cx}
/-- t[lo:hi] of a tracked tuple, the whole of it too -/
noncomputable def rSlTA : V → Option Int → Option Int → Hp → VK → Prop := fun x lo hi H Q => ∃ a xs, x = .ref a ∧ H a = some (.tup xs) ∧ ∀ (b : Addr) (H' : Hp), H' b = some (.tup (cutV xs lo hi)) → (∀ c o, H c = some o → H' c = some o) → Q (.ref b) H'
theorem sl_tupA : SlR X rSlTA := by
  intro pins s σ H x v vl vu lo hi sl Q I rx hs pl pu h
  obtain ⟨a, xs, rfl, hx, q⟩ := h
  by_cases hw : HT.sIx xs.length 0 lo = 0 ∧ HT.sIx xs.length xs.length hi = xs.length
  · cases rx
    obtain ⟨its, r, ht, hz⟩ := I.tuple (SqT.of (K := X.K) hx)
    have hlen : its.toArray.size = xs.length := by rw [List.size_toArray]; exact r.length.symm
    refine ⟨"tuple", _, PyProof.Rows.slot_tuple_getitem.lookup, ht.typeIs, ?_⟩
    refine HT.getItem_tuple_whole ht hs pl pu (by rw [hlen]; exact hw) ⟨.ref a, H, I, rfl, q a H ?_ fun _ _ e => e⟩
    have e : cutV xs lo hi = xs := by
      unfold cutV
      rw [hw.1, hw.2]; simp
    rw [e]; exact hx
  · exact sl_tup pins s σ H (.ref a) v vl vu lo hi sl Q I rx hs pl pu ⟨a, xs, rfl, SqT.of hx, hw, fun p hp => q p _ upd_same fun c o e => by rw [upd_ne (ne_of_none e hp)]; exact e⟩
end
end L2
namespace L2
open PySem PySem.Spec PyProof.Rows
section
variable {X : Cx} {pins : List (Addr × Obj)} {σ : List (Option V)} {H : Hp} {s : Shared} {h' : Heap}
/-- an iterator's records have changed, and a new object is laid and tracked -/
theorem Inv.turnedLay {fp : List Addr} {T : Addr} {o : HO} {t' : Nat} (I : Inv X pins σ H s) (hf : ∀ b ∈ fp, FpOk X pins H b) (k : ∀ b u, b ∉ fp → s.heap.get? b = some u → h'.get? b = some u) (hT : s.heap.objs.size ≤ T)
    (new : ObjOk X.prog X.w (upd H T o) h' T o) : Inv X pins σ (upd H T o) { s with heap := h', toks := t' } := by
  have hn : H T = none := I.hok.fresh hT
  have neT : ∀ b u, s.heap.get? b = some u → b ≠ T := fun b u e z => Nat.lt_irrefl _ (Nat.lt_of_lt_of_le (Heap.lt_size e) (by rw [z]; exact hT))
  have nfp : ∀ b u, H b = some u → b ∉ fp := fun b u e z => by
    have q := (hf b z).1
    rw [q] at e; cases e
  have hL : X.env.locals ∉ fp := fun z => (hf _ z).2.1 rfl
  refine I.step (g' := s.gens) (d' := s.drawn) (ch := fp) (H' := upd H T o) (fun b hb => ?_) (fun b u _ _ hc e _ => k b u hc e) (fun b u _ _ hc e _ => ⟨u.slots, k b u hc e⟩) (fun b u hc e n => ?_)
    (fun b u hc e => ⟨u, k b u hc e⟩) (fun b xs e => ?_) (fun b u v e => ?_) (fun b ps e => ⟨#[], ?_⟩) (fun m hm => ?_) (fun b u e => ?_) I.bare
  · obtain ⟨_, f1, _, f3, f4, f5⟩ := hf b hb
    exact ⟨f3, f1, f4, f5⟩
  · rw [upd_ne (neT b u e)]; exact n
  · rw [upd_ne (ne_of_none e hn)]; exact e
  · rw [upd_ne (ne_of_none e hn)]; exact e
  · rw [upd_ne (ne_of_none e hn), e]; simp
  · obtain ⟨u, es, ep, ho, r⟩ := hm
    exact ⟨u, es, ep, k _ u hL ho, r⟩
  · by_cases hb : b = T
    · subst hb; rw [upd_same] at e; cases e; exact new
    · rw [upd_ne hb] at e
      refine (I.hok b u e).stay (fun c v hc q => k c v ?_ q) (fun c q => by rw [upd_ne (ne_of_none q hn)]; exact q) fun c xs q => by rw [upd_ne (ne_of_none q hn)]; exact q
      rcases hc with z | z
      · rw [z]; exact nfp b u e
      · exact nfp c _ z
/-- an iterator's records have changed -/
theorem Inv.turnedN {fp : List Addr} {t' : Nat} (I : Inv X pins σ H s) (hf : ∀ b ∈ fp, FpOk X pins H b) (k : ∀ b u, b ∉ fp → s.heap.get? b = some u → h'.get? b = some u) : Inv X pins σ H { s with heap := h', toks := t' } := by
  have nfp : ∀ b u, H b = some u → b ∉ fp := fun b u e z => by
    have q := (hf b z).1
    rw [q] at e; cases e
  have hL : X.env.locals ∉ fp := fun z => (hf _ z).2.1 rfl
  refine I.step (g' := s.gens) (d' := s.drawn) (ch := fp) (H' := H) (fun b hb => ?_) (fun b u _ _ hc e _ => k b u hc e) (fun b u _ _ hc e _ => ⟨u.slots, k b u hc e⟩) (fun b u hc e n => n)
    (fun b u hc e => ⟨u, k b u hc e⟩) (fun b xs e => e) (fun b u v e => e) (fun b ps e => ⟨#[], by rw [e]; simp⟩) (fun m hm => ?_) (fun b u e => ?_) I.bare
  · obtain ⟨_, f1, _, f3, f4, f5⟩ := hf b hb
    exact ⟨f3, f1, f4, f5⟩
  · obtain ⟨u, es, ep, ho, r⟩ := hm
    exact ⟨u, es, ep, k _ u hL ho, r⟩
  · refine (I.hok b u e).stay (fun c v hc q => k c v ?_ q) (fun _ q => q) fun _ _ q => q
    rcases hc with z | z
    · rw [z]; exact nfp b u e
    · exact nfp c _ z
end
theorem zip_apart {n l1 l2 : Nat} (h1 : l1 < n) (h2 : l2 < n) : ZipApart (n + 4) (n + 2) (n + 3) n (n + 1) l1 l2 := by
  constructor <;> (show ¬ ((_ : Nat) = _); lia)
noncomputable def Itz (K : PySem.W.Frag) (l1 l2 : Addr) : It := ⟨fun i H => ∃ xs ys x y, SqL K H l1 xs ∧ SqL K H l2 ys ∧ xs[i]? = some x ∧ ys[i]? = some y,
  fun i H v H' => ∃ T, v = .ref T ∧ H T = none ∧ ∀ xs ys x y, SqL K H l1 xs → SqL K H l2 ys → xs[i]? = some x → ys[i]? = some y → H' = upd H T (.tup [x, y]),
  fun i H => ∃ xs ys, SqL K H l1 xs ∧ SqL K H l2 ys ∧ min xs.length ys.length = i⟩
noncomputable def ZipRec (z TI TO i1 i2 l1 l2 : Addr) (i : Nat) (h : Heap) : Prop := IsZip h z TI TO .none ∧ IsPair h TI (.ref i1) (.ref i2) ∧ (∃ a b, IsPair h TO a b) ∧ h.IsListIter i1 l1 i ∧ h.IsListIter i2 l2 i
theorem zip_step {prog : Program} {w : World} {A : Around} {E : Value → Shared → Prop} {s : Shared} {z TI TO i1 i2 l1 l2 : Addr} (D : ZipApart z TI TO i1 i2 l1 l2) {us vs : Array Value} {i : Nat} {u v : Value} {Q : Option Value → Shared → Prop}
    (st : ZipRec z TI TO i1 i2 l1 l2 i s.heap) (p1 : s.heap.IsList l1 us) (p2 : s.heap.IsList l2 vs) (eu : us[i]? = some u) (ev : vs[i]? = some v)
    (k : ∀ T h', s.heap.objs.size ≤ T → IsTupP h' T #[u, v] →
      (IsZip h' z TI TO (rawInt T) ∧ IsPair h' TI (.ref i1) (.ref i2) ∧ (∃ a b, IsPair h' TO a b) ∧ h'.IsListIter i1 l1 (i + 1) ∧ h'.IsListIter i2 l2 (i + 1) ∧ h'.IsList l1 us ∧ h'.IsList l2 vs ∧ T ≠ z ∧ T ≠ TO ∧ T ≠ i1 ∧ T ≠ i2) →
      (∀ b o, b ∉ [z, TO, i1, i2] → s.heap.get? b = some o → h'.get? b = some o) → Q (some (.ref T)) { s with heap := h' }) : wpAny (model prog w) A (pyNext (.ref z)) Q E s := by
  obtain ⟨q1, q2, ⟨a, b, q3⟩, q4, q5⟩ := st
  have lt : ∀ {c o}, s.heap.get? c = some o → s.heap.objs.size ≠ c := fun e => Nat.ne_of_gt (Heap.lt_size e)
  refine wpAny_pyNext_zip_item D q1 q2 q3 q4 q5 p1 p2 eu ev fun h2 a1 a2 a3 a4 a5 a6 hk => ?_
  refine k s.heap.objs.size h2 (Nat.le_refl _) ⟨_, a5, rfl, rfl, _, rfl⟩ ⟨a1, hk _ _ D.TIz D.TITO D.TIi1 D.TIi2 q2, ⟨_, _, a2⟩, a3, a4, p1.at fun o e => hk _ o D.l1z D.l1TO D.l1i1 D.l1i2 e, p2.at fun o e => hk _ o D.l2z D.l2TO D.l2i1 D.l2i2 e, lt q1, lt q3, ?_, ?_⟩ fun c o hc e => ?_
  · obtain ⟨_, e, _⟩ := q4; exact lt e
  · obtain ⟨_, e, _⟩ := q5; exact lt e
  · exact hk c o (fun x => hc (by simp [x])) (fun x => hc (by simp [x])) (fun x => hc (by simp [x])) (fun x => hc (by simp [x])) e
theorem turn_zip {P : Program} {w : World} {K : PySem.W.Frag} {elts : List Expr} {k0 : Nat} {p0 : Pos} {z TI TO i1 i2 l1 l2 : Addr} (D : ZipApart z TI TO i1 i2 l1 l2) :
    Turn P w K (.Tuple elts k0 p0) (Itz K l1 l2) [z, TI, TO, i1, i2] z (ZipRec z TI TO i1 i2 l1 l2) where
  mem := by simp
  obj := fun i h st b hb => by
    obtain ⟨h1, h2, ⟨a, c, h3⟩, ⟨o4, h4, c4, d4⟩, ⟨o5, h5, c5, d5⟩⟩ := st
    simp only [List.mem_cons, List.not_mem_nil, or_false] at hb
    rcases hb with rfl | rfl | rfl | rfl | rfl
    · exact ⟨_, h1, fun v q => by cases q⟩
    · exact ⟨_, h2, fun v q => by cases q⟩
    · exact ⟨_, h3, fun v q => by cases q⟩
    · exact ⟨_, h4, fun v q => by rw [d4] at q; cases q⟩
    · exact ⟨_, h5, fun v q => by rw [d5] at q; cases q⟩
  keep := fun i h h' st k => by
    obtain ⟨h1, h2, ⟨a, c, h3⟩, h4, h5⟩ := st
    exact ⟨k z (by simp) _ h1, k TI (by simp) _ h2, ⟨a, c, k TO (by simp) _ h3⟩, h4.at fun o e => k i1 (by simp) o e, h5.at fun o e => k i2 (by simp) o e⟩
  item := by
    intro X hP hw hK hc i pins s σ H E I hf st hg
    subst hP hw hK
    obtain ⟨xs, ys, x, y, hx, hy, ex, ey⟩ := hg
    obtain ⟨us, r1, p1, z1⟩ := I.list hx
    obtain ⟨vs, r2, p2, z2⟩ := I.list hy
    obtain ⟨u, eu, ru⟩ := r1.get ex
    obtain ⟨v, ev, rv⟩ := r2.get ey
    obtain ⟨h1, h2, h3, h4, h5⟩ := st
    have W := WalksT.zip2 (prog := X.prog) (w := X.w) (A := X.A) (I.ok.hd hc) z TI TO i1 i2 l1 l2 D us.toArray vs.toArray
    have hiu : i < us.length := (List.getElem?_eq_some_iff.mp eu).1
    have hiv : i < vs.length := (List.getElem?_eq_some_iff.mp ev).1
    have wrf : ∀ b, b ∉ ([z, TI, TO, i1, i2] : List Addr) → b ∉ ([z, TO, i1, i2] : List Addr) := fun b hb q => hb (by simp at q ⊢; rcases q with q | q | q | q <;> simp [q])
    refine zip_step D ⟨h1, h2, h3, h4, h5⟩ p1.isList p2.isList (u := u) (v := v) (by simpa using eu) (by simpa using ev) fun T h' hsz hT hM hk => ⟨.ref T, rfl, ?_⟩
    refine W.go elts k0 p0 i T { s with heap := h' } _ _ hM fun h'' st'' hk' => ?_
    obtain ⟨g1, g2, g3, g4, g5, g6, g7⟩ := st''
    have nT := W.apart i T _ hM
    have hT2 : IsTupP h'' T #[u, v] := hT.keep fun o e => hk' T o nT e
    refine ⟨.ref T, upd H T (.tup [x, y]), ?_, rfl, ⟨T, rfl, I.hok.fresh hsz, fun xs' ys' x'' y'' q1 q2 q3 q4 => ?_⟩, ⟨g1, g2, g3, g4, g5⟩, fun b hb => ?_⟩
    · refine I.turnedLay (t' := s.toks) (fp := [z, TI, TO, i1, i2]) hf (fun b o hb e => hk' b o (wrf b hb) (hk b o (wrf b hb) e)) hsz ?_
      exact ⟨by show 2 ≤ sizeLine; decide, [u, v], .cons ru (.cons rv .nil), hT2⟩
    · rw [I.list_inj q1 hx] at q3
      rw [I.list_inj q2 hy] at q4
      rw [ex] at q3; rw [ey] at q4
      cases q3; cases q4; rfl
    · have q := (hf b hb).1
      have nb : b ≠ T := by
        intro e
        obtain ⟨o, eo, _⟩ : ∃ o, s.heap.get? b = some o ∧ True := by
          simp only [List.mem_cons, List.not_mem_nil, or_false] at hb
          obtain ⟨a, c, h3⟩ := h3
          obtain ⟨o4, h4, _⟩ := h4
          obtain ⟨o5, h5, _⟩ := h5
          rcases hb with rfl | rfl | rfl | rfl | rfl
          · exact ⟨_, h1, trivial⟩
          · exact ⟨_, h2, trivial⟩
          · exact ⟨_, h3, trivial⟩
          · exact ⟨_, h4, trivial⟩
          · exact ⟨_, h5, trivial⟩
        exact Nat.lt_irrefl _ (Nat.lt_of_lt_of_le (Heap.lt_size eo) (by rw [e]; exact hsz))
      rw [upd_ne nb]; exact q
  done := by
    intro X hP hw hK hc i pins s σ H E I hf st hg
    subst hP hw hK
    obtain ⟨xs, ys, hx, hy, hi⟩ := hg
    obtain ⟨us, r1, p1, z1⟩ := I.list hx
    obtain ⟨vs, r2, p2, z2⟩ := I.list hy
    obtain ⟨h1, h2, h3, h4, h5⟩ := st
    have W := WalksT.zip2 (prog := X.prog) (w := X.w) (A := X.A) (I.ok.hd hc) z TI TO i1 i2 l1 l2 D us.toArray vs.toArray
    have l1' := r1.length
    have l2' := r2.length
    have e : i = min us.toArray.size vs.toArray.size := by rw [List.size_toArray, List.size_toArray]; lia
    subst e
    have wrf : ∀ b, b ∉ ([z, TI, TO, i1, i2] : List Addr) → b ∉ ([z, TO, i1, i2] : List Addr) := fun b hb q => hb (by simp at q ⊢; rcases q with q | q | q | q <;> simp [q])
    exact W.done s _ _ ⟨h1, h2, h3, h4, h5, p1.isList, p2.isList⟩ fun h' tk hk => ⟨rfl, I.turnedN (fp := [z, TI, TO, i1, i2]) hf fun b o hb e => hk b o (wrf b hb) e⟩
  self := fun A i s Q E st h => wpAny_pyIter_zip st.1 h
section
variable {X : Cx}
noncomputable def iZip (K : PySem.W.Frag) (ta : TA) : TI := fun σ H R => ta σ H fun vs H1 => ∃ l1 l2 xs ys, vs = [.ref l1, .ref l2] ∧ SqL K H1 l1 xs ∧ SqL K H1 l2 ys ∧ R (Itz K l1 l2) H1
theorem pi_zip {elts : List Expr} {k0 : Nat} {p0 : Pos} {a b : Expr} {ta : TA} {p pos : Pos} (hg : Gl X "zip") (hm : X.mg "zip" = none) (ha : PA X [a, b] ta)
    (hs : starEach [a, b] X.env = [(false, eval a X.env), (false, eval b X.env)] := by rfl) (hs2 : starEach [b] X.env = [(false, eval b X.env)] := by rfl) :
    PI X (.Tuple elts k0 p0) (.Call (.Name "zip" p) [a, b] [] pos) (iZip X.K ta) := by
  intro pins s σ H R I h
  refine Call_ (ld_blt I hg hm PyProof.Rows.boot_zip (PyProof.Rows.callWith_type1 (thn (ha pos pins s σ H _ I h) fun us s1 ⟨vs, H1, I1, r1, q1⟩ => ?_) (by rw [hs, hs2]) (by rw [hs2]; rfl)))
  obtain ⟨l1, l2, xs, ys, e, hx, hy, q⟩ := q1
  subst e
  cases r1 with
  | cons r rr =>
    cases rr with
    | cons r' rr =>
      cases rr
      cases r
      cases r'
      obtain ⟨as, ra, pa, za⟩ := I1.list hx
      obtain ⟨bs, rb, pb, zb⟩ := I1.list hy
      refine call_zip_2 pa.isList pb.isList fun h' z1 z2 z3 z4 z5 zs zk => ?_
      have la : l1 < s1.heap.objs.size := by obtain ⟨_, e, _⟩ := pa.isList; exact Heap.lt_size e
      have lb : l2 < s1.heap.objs.size := by obtain ⟨_, e, _⟩ := pb.isList; exact Heap.lt_size e
      have I2 : Inv X pins σ H1 { s1 with heap := h' } := I1.kept (t' := s1.toks) zk
      refine wpAny_pyIter_zip z1 ?_
      refine ⟨_, [s1.heap.objs.size + 4, s1.heap.objs.size + 2, s1.heap.objs.size + 3, s1.heap.objs.size, s1.heap.objs.size + 1], _, _, H1, rfl, I2,
        turn_zip (zip_apart la lb), ⟨z1, z2, ⟨_, _, z3⟩, z4, z5⟩, fun b hb => ?_, q⟩
      have hb' : s1.heap.objs.size ≤ b := by
        simp only [List.mem_cons, List.not_mem_nil, or_false] at hb
        rcases hb with e | e | e | e | e <;> (rw [e]; first | exact Nat.le_add_right _ _ | exact Nat.le_refl _)
      exact I1.fpOk hb' (I1.hok.fresh hb')
end
end L2
namespace L2
open PySem PySem.Spec PyProof.Rows
/-- the items of xs[lo:hi:st] -/
noncomputable def pickV (xs : List V) (lo hi st : Option Int) : List V := (sliceRange (sliceBounds lo hi st xs.length).1 (sliceBounds lo hi st xs.length).2.1 (sliceBounds lo hi st xs.length).2.2).filterMap (xs[·]?)
theorem Vals.none_at {xs : List V} {us : List Value} (h : Vals xs us) {j : Nat} (e : xs[j]? = none) : us[j]? = none := by
  rw [List.getElem?_eq_none_iff] at e ⊢
  rw [← h.length]; exact e
theorem Vals.some_of {xs : List V} {us : List Value} (h : Vals xs us) : ∀ js : List Nat, Vals (js.filterMap (xs[·]?)) (js.filterMap (us[·]?)) := by
  intro js
  induction js with
  | nil => exact .nil
  | cons j js ih =>
    cases e : xs[j]? with
    | none => simp only [List.filterMap_cons, e, h.none_at e]; exact ih
    | some x =>
      obtain ⟨u, eu, r⟩ := h.get e
      simp only [List.filterMap_cons, e, eu]
      exact .cons r ih
section
variable {X : Cx} {e st : Expr} {te ts : TE} {lo hi : Option Expr} {tl th : TO} {p2 pos : Pos}
noncomputable def tSlS (K : PySem.W.Frag) (te : TE) (tl th tk : TO) : TE := fun σ H Q => te σ H fun x H1 => tl σ H1 fun l H2 => th σ H2 fun u H3 => tk σ H3 fun c H4 =>
  ∃ a xs, x = .ref a ∧ SqL K H4 a xs ∧ c ≠ some 0 ∧ ∀ p, H4 p = none → Q (.ref p) (upd H4 p (.lst (pickV xs l u c)))
theorem pe_sliceS (he : PE X e te) (hl : PO X lo tl) (hu : PO X hi th) (hst : PE X st ts) : PE X (.Subscript e (.Slice lo hi (some st) p2) pos) (tSlS X.K te tl th (tPart ts)) := by
  intro pins s σ H Q I h
  refine Subscript_ (thn (he pins s σ H _ I h) fun v s1 ⟨x, H1, I1, r1, q1⟩ => ?_)
  refine wpAny_Slice (thn (hl pins s1 σ H1 _ I1 q1) fun vl s2 ⟨l, H2, I2, pl, q2⟩ => thn (hu pins s2 σ H2 _ I2 q2) fun vu s3 ⟨u, H3, I3, pu, q3⟩ => thn (po_some hst pins s3 σ H3 _ I3 q3) fun vs s4 ⟨c, H4, I4, ps, q4⟩ => ?_)
  obtain ⟨a, xs, rfl, hq, hc0, q⟩ := q4
  cases r1
  have I5 : Inv X pins σ H4 { s4 with heap := s4.heap.push { cls := .type "slice", data := .fields #[vl, vu, vs] } } := I4.kept (t' := s4.toks) fun b ob q => Heap.get?_push_of_some _ q
  obtain ⟨its, r, pls, hz⟩ := I5.list hq
  show wpAny (model X.prog X.w) X.A (subscriptTail e (.Slice lo hi (some st) p2) (.ref a) (.ref s4.heap.objs.size)) (EP X pins σ Q) X.xe { s4 with heap := s4.heap.push { cls := .type "slice", data := .fields #[vl, vu, vs] } }
  refine tail_any (ops := [.ref a, .ref s4.heap.objs.size]) pls.isList.typeIs list_getitem_lookup ?_ (by with_unfolding_all rfl)
  have hn := r.length
  refine wpAny_getItem_list_slice pls.isList (Heap.IsSliceOf.new ..) pl pu ps hc0 ?_ (by rw [List.size_toArray, ← hn]; exact hz)
  have le := slicePick_size_le its.toArray l u c
  have ep : slicePick its.toArray l u c = ((sliceRange (sliceBounds l u c xs.length).1 (sliceBounds l u c xs.length).2.1 (sliceBounds l u c xs.length).2.2).filterMap (its[·]?)).toArray := by
    unfold slicePick
    rw [List.size_toArray, hn]
    simp
  have rp := Vals.some_of r (sliceRange (sliceBounds l u c xs.length).1 (sliceBounds l u c xs.length).2.1 (sliceBounds l u c xs.length).2.2)
  have lp := rp.length
  rw [ep] at le ⊢
  refine ⟨.ref _, _, I5.laid (t' := s4.toks) (o := .lst (pickV xs l u c)) (fun b ob q => Heap.get?_push_of_some _ q) (Nat.le_refl _) ?_, rfl, q _ (I5.hok.fresh (Nat.le_refl _))⟩
  refine ⟨?_, _, 0, rp, Heap.get?_push_size _ rfl⟩
  rw [List.size_toArray, List.size_toArray] at le
  show (pickV xs l u c).length ≤ sizeLine
  unfold pickV
  rw [lp]
  lia
end
section
variable {X : Cx} {tg : Expr}
end
end L2
namespace PySem
open Sem (wp)
open AutoSeq1 (wpAny_loadPart')
section
variable {prog : Program} {w : World} {A : Around} {E : Value → Shared → Prop} {s : Shared}
end
section
variable {prog : Program} {w : World} {A : Around} {E : Value → Shared → Prop} {s : Shared}
end
end PySem
namespace L2
open PySem PySem.Spec PyProof.Rows
section
variable {X : Cx}
end
end L2
namespace L2
open PySem PySem.Spec PyProof.Rows
section
variable {X : Cx} {scope : Scope} {xs ys : List Str} {ix : List Nat} {elt iter tg : Expr} {ifs : List Expr} {pos : Pos} {wi : TI} {g : CompAt → TG} {tt : CompAt → TT} {te : CompAt → TE}
/-- y = [elt for TARGET in iter if ..], y a plain local name: the store is done within -/
noncomputable def tCompGS (n : Nat) (ix : List Nat) (i : Nat) (wi : TI) (g : CompAt → TG) (tt : CompAt → TT) (te : CompAt → TE) : TS := fun D σ H => tCompG n ix wi g tt te σ H fun v H1 => D.nx (σ.set i (some v)) H1
theorem ps_compG {y : Str} {i : Nat} {py spos : Pos} (O : CompOkN X scope xs ys ix) (hc : X.calm = true) (hN : X.N.Nodup) (hy : X.N[i]? = some y) (hl : X.env.scope.names.lookup y = some .local) (hit : PI X tg iter wi)
    (hg : ∀ z, PG (compCx X scope (xs ++ ys) z) tg (g z)) (hi : ∀ z, PIfs (compCx X scope (xs ++ ys) z) ifs (tt z)) (he : ∀ z, PE (compCx X scope (xs ++ ys) z) elt (te z))
    (hsw : swapsWith (.ListComp elt [⟨tg, iter, ifs, 0⟩] scope pos) (some (.Name y py)) spos.line X.env = pure true := by rfl) (hs : ∀ v, foldedSetIterable iter X.env v = pure v := by intro _; rfl) :
    PS X (.Assign [.Name y py] (.ListComp elt [⟨tg, iter, ifs, 0⟩] scope pos) spos) (tCompGS xs.length ix i wi g tt te) := by
  intro pins s σ H D I h
  rw [exec_Assign_Name_used _ _ _ _ hsw]
  refine wpAny_bind (wpAny_standAt (wpAny_bind ?_))
  show wpAny _ _ (do let _ ← comprehension (.ListComp elt [⟨tg, iter, ifs, 0⟩] scope pos) scope X.env _ (newList []) false (eval iter X.env) (some (assign (.Name y py) X.env))) _ _ s
  refine wpAny_bind (wpAny_mono (wpAny_comprehension_free (use := some (assign (.Name y py) X.env)) (Q := fun _ s' => SP X pins D .next s') rfl hs (closureFor_all fun p hp hf => I.ok.has p.1 (O.fr p hp hf)) O.kind O.names (thn (hit pins s σ H _ I h) fun v s1 h1 => thn h1 fun itv s2 h2 => ?_))
    (fun _ s' hq => wpAny_pure (wpAny_pure hq)) fun _ _ e => e)
  obtain ⟨it, fp, tn, J, H2, e, I2, T, st2, f2, hw⟩ := h2
  subst e
  refine comp_blockN (RR := fun acc C => compPost (model X.prog X.w) X.A X.xe (some (assign (.Name y py) X.env)) (fun _ s' => SP X pins D .next s') acc C) O hc hg hi he I2 T st2 f2 hw ?_
  intro E C m' H' s' I' n' fC q
  show wpAny _ _ (assign (.Name y py) X.env (.ref E)) _ _ s'
  refine wpAny_assign_Name (store_ok2 (v := .ref E) I' hN hy (.inl hl) rfl (fun s'' I'' ⟨a, sb, ha⟩ => ?_) (.inr hl))
  have hCa : C ≠ a := by
    rcases ha with rfl | ha
    · exact fC.2.1
    · exact fun z => fC.2.2.2.2.1 _ _ ha z.symm
  exact ⟨m', n'.sameBut sb hCa, fun h' hs' => ⟨_, H', comp_turned I'' fC hs', q⟩⟩
end
theorem pick_of {α : Type} {xs : List α} {f : Nat → Nat} : ∀ {c : Nat}, (∀ k, k < c → f k < xs.length) → (((List.range c).map f).filterMap (xs[·]?)).length = c ∧ ∀ k, k < c → (((List.range c).map f).filterMap (xs[·]?))[k]? = xs[f k]?
  | 0, _ => ⟨rfl, fun k h => absurd h (Nat.not_lt_zero _)⟩
  | c + 1, h => by
    obtain ⟨h1, h2⟩ := pick_of (c := c) (f := f) (xs := xs) fun k hk => h k (Nat.lt_succ_of_lt hk)
    have hc := h c (Nat.lt_succ_self c)
    have e : ((List.range (c + 1)).map f).filterMap (xs[·]?) = ((List.range c).map f).filterMap (xs[·]?) ++ [xs[f c]] := by
      rw [List.range_succ, List.map_append, List.filterMap_append]
      congr 1
      simp [hc]
    rw [e]
    refine ⟨by rw [List.length_append, h1]; rfl, fun k hk => ?_⟩
    by_cases q : k < c
    · rw [List.getElem?_append_left (by rw [h1]; exact q)]
      exact h2 k q
    · have q' : k = c := by lia
      subst q'
      rw [List.getElem?_append_right (by rw [h1]; exact Nat.le_refl _), h1, Nat.sub_self, List.getElem?_eq_getElem hc]
      rfl
end L2
namespace B
open PySem L2
inductive I where
  | non | bl (b : Bool) | int (i : Int) | str (x : Str) | ty (n : String) | tup (xs : List I) | ref (k : Nat) | fro (xs : List I) | con (xs : List I)
inductive M where
  | lst (xs : List I) | dic (kvs : List (Key × I)) | dit (kvs : List (List Key × I)) | dnt (ts : List Tr) | obj (c : Str) (fs : List (Str × I))
inductive Vl where
  | im (d : I) | ow (m : M)
noncomputable def FrL (K : PySem.W.Frag) (H : Hp) (a : Addr) (vs : List V) : Prop := (∃ o, H a = some (.frz o (.lst vs))) ∨ SqL K (fun _ => none) a vs
mutual
inductive RpI (K : PySem.W.Frag) (ι : List Addr) (H : Hp) : V → I → Prop
  | non : RpI K ι H .non .non
  | bl (b : Bool) : RpI K ι H (.bl b) (.bl b)
  | int (i : Int) : RpI K ι H (.int i) (.int i)
  | str (x : Str) : RpI K ι H (.str x) (.str x)
  | ty (n : String) : RpI K ι H (.ty n) (.ty n)
  | ref {a : Addr} {k : Nat} : ι[k]? = some a → RpI K ι H (.ref a) (.ref k)
  | tup {a : Addr} {vs : List V} {xs : List I} : H a = some (.tup vs) → RpIs K ι H vs xs → RpI K ι H (.ref a) (.tup xs)
  | con {a : Addr} {vs : List V} {xs : List I} : SqT K (fun _ => none) a vs → RpIs K ι H vs xs → RpI K ι H (.ref a) (.con xs)
  | fro {a : Addr} {vs : List V} {xs : List I} : FrL K H a vs → RpIs K ι H vs xs → RpI K ι H (.ref a) (.fro xs)
inductive RpIs (K : PySem.W.Frag) (ι : List Addr) (H : Hp) : List V → List I → Prop
  | nil : RpIs K ι H [] []
  | cons {v : V} {d : I} {vs : List V} {ds : List I} : RpI K ι H v d → RpIs K ι H vs ds → RpIs K ι H (v :: vs) (d :: ds)
end
noncomputable def Pre (ι ι' : List Addr) : Prop := ∀ (k : Nat) (a : Addr), ι[k]? = some a → ι'[k]? = some a
structure Kp (H H' : Hp) : Prop where
  tup : ∀ a xs, H a = some (.tup xs) → H' a = some (.tup xs)
  frz : ∀ a o u, H a = some (.frz o u) → H' a = some (.frz o u)
theorem Kp.refl (H : Hp) : Kp H H := ⟨fun _ _ h => h, fun _ _ _ h => h⟩
theorem Kp.trans {H H1 H2 : Hp} (x : Kp H H1) (y : Kp H1 H2) : Kp H H2 := ⟨fun a xs h => y.tup a xs (x.tup a xs h), fun a o u h => y.frz a o u (x.frz a o u h)⟩
theorem Kp.same {H H' : Hp} (h : Same H H') : Kp H H' := ⟨fun a xs e => h _ _ e, fun a o u e => h _ _ e⟩
theorem Pre.refl (ι : List Addr) : Pre ι ι := fun _ _ h => h
theorem Pre.trans {ι ι1 ι2 : List Addr} (x : Pre ι ι1) (y : Pre ι1 ι2) : Pre ι ι2 := fun k a h => y k a (x k a h)
theorem Pre.snoc (ι : List Addr) (b : List Addr) : Pre ι (ι ++ b) := fun k a h => by
  have : k < ι.length := (List.getElem?_eq_some_iff.mp h).1
  rw [List.getElem?_append_left this]; exact h
theorem Kp.frL {K : PySem.W.Frag} {H H' : Hp} {a : Addr} {vs : List V} (k : Kp H H') (h : FrL K H a vs) : FrL K H' a vs := by
  rcases h with ⟨o, h⟩ | h
  · exact .inl ⟨o, k.frz _ _ _ h⟩
  · exact .inr h
theorem SqT.kon {K : PySem.W.Frag} {H : Hp} {a : Addr} {vs : List V} (h : SqT K (fun _ => none) a vs) : SqT K H a vs := by
  rcases h with (h | ⟨o, h⟩) | h
  · cases h
  · cases h
  · exact .inr h
theorem FrL.sq {K : PySem.W.Frag} {H : Hp} {a : Addr} {vs : List V} (h : FrL K H a vs) : SqL K H a vs := by
  rcases h with ⟨o, h⟩ | h
  · exact .inl (.inr ⟨o, h⟩)
  · rcases h with (h | ⟨o, h⟩) | h
    · cases h
    · cases h
    · exact .inr h
section
variable {K : PySem.W.Frag} {κ : Str → Addr} {ι ι' : List Addr} {H H' : Hp}
mutual
theorem RpI.mono {v : V} {d : I} (p : Pre ι ι') (k : Kp H H') : RpI K ι H v d → RpI K ι' H' v d
  | .non => .non
  | .bl b => .bl b
  | .int i => .int i
  | .str x => .str x
  | .ty n => .ty n
  | .ref h => .ref (p _ _ h)
  | .tup h r => .tup (k.tup _ _ h) (RpIs.mono p k r)
  | .con h r => .con h (RpIs.mono p k r)
  | .fro h r => .fro (k.frL h) (RpIs.mono p k r)
theorem RpIs.mono {vs : List V} {ds : List I} (p : Pre ι ι') (k : Kp H H') : RpIs K ι H vs ds → RpIs K ι' H' vs ds
  | .nil => .nil
  | .cons h r => .cons (RpI.mono p k h) (RpIs.mono p k r)
end
theorem RpIs.len : ∀ {vs : List V} {ds : List I}, RpIs K ι H vs ds → vs.length = ds.length
  | _, _, .nil => rfl
  | _, _, .cons _ r => by rw [List.length_cons, List.length_cons, r.len]
theorem RpIs.get : ∀ {vs : List V} {ds : List I} {i : Nat} {d : I}, RpIs K ι H vs ds → ds[i]? = some d → ∃ v, vs[i]? = some v ∧ RpI K ι H v d
  | _, _, _, _, .nil, e => by simp at e
  | _, _, 0, _, .cons h _, e => by simp at e; subst e; exact ⟨_, rfl, h⟩
  | _, _, i + 1, d, .cons _ r, e => by
    obtain ⟨v, h1, h2⟩ := RpIs.get (i := i) (d := d) r (by simpa using e)
    exact ⟨v, by simpa using h1, h2⟩
theorem RpIs.app : ∀ {vs ws : List V} {ds es : List I}, RpIs K ι H vs ds → RpIs K ι H ws es → RpIs K ι H (vs ++ ws) (ds ++ es)
  | _, _, _, _, .nil, s => s
  | _, _, _, _, .cons h r, s => .cons h (RpIs.app r s)
theorem RpIs.take : ∀ {vs : List V} {ds : List I} (n : Nat), RpIs K ι H vs ds → RpIs K ι H (vs.take n) (ds.take n)
  | _, _, 0, _ => .nil
  | _, _, _ + 1, .nil => .nil
  | _, _, n + 1, .cons h r => .cons h (RpIs.take n r)
theorem RpIs.drop : ∀ {vs : List V} {ds : List I} (n : Nat), RpIs K ι H vs ds → RpIs K ι H (vs.drop n) (ds.drop n)
  | _, _, 0, r => r
  | _, _, _ + 1, .nil => .nil
  | _, _, n + 1, .cons _ r => RpIs.drop n r
theorem RpIs.set : ∀ {vs : List V} {ds : List I} {v : V} {d : I} (i : Nat), RpIs K ι H vs ds → RpI K ι H v d → RpIs K ι H (vs.set i v) (ds.set i d)
  | _, _, _, _, _, .nil, _ => .nil
  | _, _, _, _, 0, .cons _ r, h => .cons h r
  | _, _, _, _, i + 1, .cons g r, h => .cons g (RpIs.set i r h)
theorem RpIs.rev : ∀ {vs : List V} {ds : List I}, RpIs K ι H vs ds → RpIs K ι H vs.reverse ds.reverse
  | _, _, .nil => .nil
  | _, _, .cons h r => by rw [List.reverse_cons, List.reverse_cons]; exact r.rev.app (.cons h .nil)
theorem RpIs.none_of {vs : List V} {ds : List I} {i : Nat} (r : RpIs K ι H vs ds) (e : ds[i]? = none) : vs[i]? = none := by
  have h1 := r.len
  have h2 : ds.length ≤ i := List.getElem?_eq_none_iff.mp e
  exact List.getElem?_eq_none_iff.mpr (by lia)
noncomputable def RpM (K : PySem.W.Frag) (κ : Str → Addr) (ι : List Addr) (H : Hp) (a : Addr) : M → Prop
  | .lst xs => ∃ vs, H a = some (.lst vs) ∧ RpIs K ι H vs xs
  | .dic kvs => ∃ ws, H a = some (.dK ws) ∧ ws.map (·.1) = kvs.map (·.1) ∧ RpIs K ι H (ws.map (·.2)) (kvs.map (·.2))
  | .dit kvs => ∃ ws, H a = some (.dT ws) ∧ ws.map (·.1) = kvs.map (·.1) ∧ RpIs K ι H (ws.map (·.2)) (kvs.map (·.2))
  | .dnt ts => H a = some (.dN ts)
  | .obj c fs => ∃ dx ws, H a = some (.ins (κ c) dx ws) ∧ ws.map (·.1) = fs.map (·.1) ∧ RpIs K ι H (ws.map (·.2)) (fs.map (·.2))
theorem RpM.mono {a : Addr} {m : M} (p : Pre ι ι') (k : Kp H H') (e : H' a = H a) (h : RpM K κ ι H a m) : RpM K κ ι' H' a m := by
  cases m with
  | lst xs => obtain ⟨vs, h1, h2⟩ := h; exact ⟨vs, by rw [e]; exact h1, h2.mono p k⟩
  | dic xs => obtain ⟨vs, h1, h2, h3⟩ := h; exact ⟨vs, by rw [e]; exact h1, h2, h3.mono p k⟩
  | dit xs => obtain ⟨vs, h1, h2, h3⟩ := h; exact ⟨vs, by rw [e]; exact h1, h2, h3.mono p k⟩
  | dnt xs => show H' a = _; rw [e]; exact h
  | obj c xs => obtain ⟨dx, vs, h1, h2, h3⟩ := h; exact ⟨dx, vs, by rw [e]; exact h1, h2, h3.mono p k⟩
noncomputable def isMu : HO → Bool
  | .lst _ | .dK _ | .dT _ | .dN _ | .ins _ _ _ => true
  | _ => false
theorem RpM.mu {a : Addr} {m : M} (h : RpM K κ ι H a m) : ∃ o, H a = some o ∧ isMu o = true := by
  cases m with
  | lst xs => obtain ⟨vs, h1, h2⟩ := h; exact ⟨_, h1, rfl⟩
  | dic xs => obtain ⟨vs, h1, h2, h3⟩ := h; exact ⟨_, h1, rfl⟩
  | dit xs => obtain ⟨vs, h1, h2, h3⟩ := h; exact ⟨_, h1, rfl⟩
  | dnt xs => exact ⟨_, h, rfl⟩
  | obj c xs => obtain ⟨dx, vs, h1, h2, h3⟩ := h; exact ⟨_, h1, rfl⟩
inductive RpE (K : PySem.W.Frag) (κ : Str → Addr) (ι : List Addr) (H : Hp) : Option V → Option Vl → Prop
  | no (x : Option V) : RpE K κ ι H x none
  | im {v : V} {d : I} : RpI K ι H v d → RpE K κ ι H (some v) (some (.im d))
  | ow {a : Addr} {m : M} : RpM K κ ι H a m → RpE K κ ι H (some (.ref a)) (some (.ow m))
noncomputable def own1 : Option V → Option Vl → List Addr
  | some (.ref a), some (.ow _) => [a]
  | _, _ => []
noncomputable def own : List (Option V) → List (Option Vl) → List Addr
  | v :: σ, x :: δ => own1 v x ++ own σ δ
  | _, _ => []
theorem own_app : ∀ {σ : List (Option V)} {δ : List (Option Vl)} (τ : List (Option V)) (θ : List (Option Vl)), σ.length = δ.length → own (σ ++ τ) (δ ++ θ) = own σ δ ++ own τ θ
  | [], [], _, _, _ => rfl
  | [], _ :: _, _, _, h => by cases h
  | _ :: _, [], _, _, h => by cases h
  | v :: σ, x :: δ, τ, θ, h => by
    show own1 v x ++ own (σ ++ τ) (δ ++ θ) = own1 v x ++ own σ δ ++ own τ θ
    rw [own_app τ θ (by simpa using h), List.append_assoc]
noncomputable abbrev cnt (a : Addr) (l : List Addr) : Nat := List.count a l
structure SR (K : PySem.W.Frag) (κ : Str → Addr) (ι : List Addr) (H : Hp) (σ : St) (δ : List (Option Vl)) (G : List M) : Prop where
  sl : Paired (RpE K κ ι H) σ δ
  gs : Paired (RpM K κ ι H) ι G
  nd : ∀ a, cnt a (own σ δ) + cnt a ι ≤ 1
structure Step (ι fp : List Addr) (H : Hp) (ι' fp' : List Addr) (H' : Hp) : Prop where
  pre : Pre ι ι'
  src : ∀ a, a ∈ fp' → a ∈ fp ∨ H a = none
  keep : ∀ a o, H a = some o → a ∉ fp → H' a = some o
  dom : ∀ a, H' a = none → H a = none
  kp : Kp H H'
theorem Step.refl (ι fp : List Addr) (H : Hp) : Step ι fp H ι fp H := ⟨Pre.refl _, fun _ h => .inl h, fun _ _ h _ => h, fun _ h => h, Kp.refl _⟩
theorem Step.trans {ι fp ι1 fp1 ι2 fp2 : List Addr} {H H1 H2 : Hp} (x : Step ι fp H ι1 fp1 H1) (y : Step ι1 fp1 H1 ι2 fp2 H2) : Step ι fp H ι2 fp2 H2 where
  pre := x.pre.trans y.pre
  src := fun a h => by
    rcases y.src a h with q | q
    · exact x.src a q
    · exact .inr (x.dom a q)
  keep := fun a o h n => y.keep a o (x.keep a o h n) fun q => by
    rcases x.src a q with z | z
    · exact n z
    · rw [z] at h; cases h
  dom := fun a h => x.dom a (y.dom a h)
  kp := x.kp.trans y.kp
theorem Step.sub {ι fp ι1 fp1 fp2 : List Addr} {H H1 : Hp} (x : Step ι fp H ι1 fp1 H1) (h : ∀ a, a ∈ fp2 → a ∈ fp1) : Step ι fp H ι1 fp2 H1 := ⟨x.pre, fun a q => x.src a (h a q), x.keep, x.dom, x.kp⟩
theorem Step.wide {ι fp ι1 fp1 fq : List Addr} {H H1 : Hp} (x : Step ι fp H ι1 fp1 H1) (h : ∀ a, a ∈ fp → a ∈ fq) : Step ι fq H ι1 fp1 H1 := ⟨x.pre, fun a q => (x.src a q).imp (h a) id, fun a o q n => x.keep a o q fun z => n (h a z), x.dom, x.kp⟩
/-- with what lies beside it -/
theorem Step.beside {ι fp ι1 fp1 t : List Addr} {H H1 : Hp} (x : Step ι fp H ι1 fp1 H1) : Step ι (t ++ fp) H ι1 (t ++ fp1) H1 where
  pre := x.pre
  src := fun a h => by
    rcases List.mem_append.mp h with q | q
    · exact .inl (List.mem_append_left _ q)
    · exact (x.src a q).imp (List.mem_append_right _) id
  keep := fun a o h n => x.keep a o h fun q => n (List.mem_append_right _ q)
  dom := x.dom
  kp := x.kp
theorem cnt_pos {a : Addr} {l : List Addr} : a ∈ l ↔ 0 < cnt a l := List.count_pos_iff.symm
theorem RpE.mono {v : Option V} {x : Option Vl} (p : Pre ι ι') (k : Kp H H') (e : ∀ a, a ∈ own1 v x → H' a = H a) (h : RpE K κ ι H v x) : RpE K κ ι' H' v x := by
  cases h with
  | no => exact .no _
  | im h => exact .im (h.mono p k)
  | ow h => exact .ow (h.mono p k (e _ (by unfold own1; exact List.mem_singleton.mpr rfl)))
theorem slots_mono (p : Pre ι ι') (k : Kp H H') : ∀ {σ : St} {δ : List (Option Vl)}, (∀ a, a ∈ own σ δ → H' a = H a) → Paired (RpE K κ ι H) σ δ → Paired (RpE K κ ι' H') σ δ
  | _, _, _, .nil => .nil
  | _, _, e, .cons h r => .cons (h.mono p k fun a q => e a (List.mem_append_left _ q)) (slots_mono p k (fun a q => e a (List.mem_append_right _ q)) r)
theorem objs_mono (p : Pre ι ι') (k : Kp H H') : ∀ {as : List Addr} {G : List M}, (∀ a, a ∈ as → H' a = H a) → Paired (RpM K κ ι H) as G → Paired (RpM K κ ι' H') as G
  | _, _, _, .nil => .nil
  | _, _, e, .cons h r => .cons (h.mono p k (e _ List.mem_cons_self)) (objs_mono p k (fun a q => e a (List.mem_cons_of_mem _ q)) r)
theorem own1_no (v : Option V) : own1 v none = [] := by
  cases v with
  | none => rfl
  | some v => cases v <;> rfl
theorem own1_im (v : Option V) (d : I) : own1 v (some (.im d)) = [] := by
  cases v with
  | none => rfl
  | some v => cases v <;> rfl
theorem own_mu : ∀ {σ : St} {δ : List (Option Vl)} {a : Addr}, Paired (RpE K κ ι H) σ δ → a ∈ own σ δ → ∃ o, H a = some o ∧ isMu o = true
  | _, _, _, .nil, h => by cases h
  | _, _, a, .cons h r, q => by
    rcases List.mem_append.mp q with z | z
    · cases h with
      | no => rw [own1_no] at z; cases z
      | im h => rw [own1_im] at z; cases z
      | ow h => obtain rfl := List.mem_singleton.mp z; exact h.mu
    · exact own_mu r z
theorem objs_mu : ∀ {as : List Addr} {G : List M} {a : Addr}, Paired (RpM K κ ι H) as G → a ∈ as → ∃ o, H a = some o ∧ isMu o = true
  | _, _, _, .nil, h => by cases h
  | _, _, a, .cons h r, q => by
    rcases List.mem_cons.mp q with rfl | z
    · exact h.mu
    · exact objs_mu r z
theorem SR.len {σ : St} {δ : List (Option Vl)} {G : List M} (h : SR K κ ι H σ δ G) : σ.length = δ.length := Paired.length h.sl
theorem SR.mu {σ : St} {δ : List (Option Vl)} {G : List M} {a : Addr} (h : SR K κ ι H σ δ G) (q : a ∈ own σ δ ++ ι) : ∃ o, H a = some o ∧ isMu o = true := by
  rcases List.mem_append.mp q with z | z
  · exact own_mu h.sl z
  · exact objs_mu h.gs z
theorem paired_app {α β : Type} {F : α → β → Prop} : ∀ {a : List α} {b : List β} {c : List α} {d : List β}, Paired F a b → Paired F c d → Paired F (a ++ c) (b ++ d)
  | _, _, _, _, .nil, h => h
  | _, _, _, _, .cons h r, q => .cons h (paired_app r q)
theorem paired_split {α β : Type} {F : α → β → Prop} : ∀ {a : List α} {b : List β} {c : List α} {d : List β}, a.length = b.length → Paired F (a ++ c) (b ++ d) → Paired F a b ∧ Paired F c d
  | [], [], _, _, _, h => ⟨.nil, h⟩
  | [], _ :: _, _, _, l, _ => by cases l
  | _ :: _, [], _, _, l, _ => by cases l
  | x :: a, y :: b, c, d, l, h => by
    cases h with
    | cons h r =>
      obtain ⟨p, q⟩ := paired_split (by simpa using l) r
      exact ⟨.cons h p, q⟩
/-- temporaries that lie beside the slots while something else is done -/
theorem SR.join {ι1 ι2 : List Addr} {H1 H2 : Hp} {σ0 σ τ τ2 : St} {δ1 δ2 θ θ2 : List (Option Vl)} {G1 G2 : List M} (h1 : SR K κ ι1 H1 (σ0 ++ τ) (δ1 ++ θ) G1) (l1 : σ0.length = δ1.length) (h2 : SR K κ ι2 H2 (σ ++ τ2) (δ2 ++ θ2) G2) (l2 : σ.length = δ2.length)
    (st : Step ι1 (own σ0 δ1 ++ ι1) H1 ι2 (own (σ ++ τ2) (δ2 ++ θ2) ++ ι2) H2) : SR K κ ι2 H2 (σ ++ (τ ++ τ2)) (δ2 ++ (θ ++ θ2)) G2 ∧ Step ι1 (own (σ0 ++ τ) (δ1 ++ θ) ++ ι1) H1 ι2 (own (σ ++ (τ ++ τ2)) (δ2 ++ (θ ++ θ2)) ++ ι2) H2 := by
  obtain ⟨a1, b1⟩ := paired_split l1 h1.sl
  obtain ⟨a2, b2⟩ := paired_split l2 h2.sl
  have lt := Paired.length b1
  have n1 := h1.nd
  have n2 := h2.nd
  rw [own_app _ _ l1] at n1
  rw [own_app _ _ l2] at n2
  have st' := st
  rw [own_app _ _ l2] at st'
  have apart : ∀ a, a ∈ own τ θ → a ∉ own σ0 δ1 ++ ι1 := fun a q z => by
    have := n1 a
    rw [cnt, List.count_append] at this
    have p1 : 0 < cnt a (own τ θ) := cnt_pos.mp q
    rcases List.mem_append.mp z with z | z
    · have := cnt_pos.mp z; unfold cnt at *; lia
    · have := cnt_pos.mp z; unfold cnt at *; lia
  have some1 : ∀ a, a ∈ own τ θ → ∃ o, H1 a = some o := fun a q => let ⟨o, e, _⟩ := own_mu b1 q; ⟨o, e⟩
  have e2 : own (σ ++ (τ ++ τ2)) (δ2 ++ (θ ++ θ2)) = own σ δ2 ++ (own τ θ ++ own τ2 θ2) := by rw [own_app _ _ l2, own_app _ _ lt]
  refine ⟨⟨paired_app a2 (paired_app (slots_mono st.pre st.kp (fun a q => ?_) b1) b2), h2.gs, fun a => ?_⟩, ?_⟩
  · obtain ⟨o, e⟩ := some1 a q
    rw [e, st.keep a o e (apart a q)]
  · rw [e2]
    have m2 := n2 a
    have m1 := n1 a
    simp only [cnt, List.count_append] at m1 m2 ⊢
    by_cases q : a ∈ own τ θ
    · obtain ⟨o, e⟩ := some1 a q
      have z : a ∉ own σ δ2 ++ own τ2 θ2 ++ ι2 := fun z => by
        rcases st'.src a z with y | y
        · exact apart a q y
        · rw [e] at y; cases y
      have : cnt a (own σ δ2 ++ own τ2 θ2 ++ ι2) = 0 := List.count_eq_zero.mpr z
      simp only [cnt, List.count_append] at this
      lia
    · have : cnt a (own τ θ) = 0 := List.count_eq_zero.mpr q
      unfold cnt at this
      lia
  · rw [e2, own_app _ _ l1]
    have s := (Step.beside (t := own τ θ) st')
    refine (s.sub fun a h => ?_).wide fun a h => ?_
    · simp only [List.mem_append] at h ⊢
      rcases h with (h | h | h) | h
      · exact .inr (.inl (.inl h))
      · exact .inl h
      · exact .inr (.inl (.inr h))
      · exact .inr (.inr h)
    · simp only [List.mem_append] at h ⊢
      rcases h with h | h | h
      · exact .inl (.inr h)
      · exact .inl (.inl h)
      · exact .inr h
end
end B
namespace B
open PySem L2
section
variable {K : PySem.W.Frag} {κ : Str → Addr} {ι ι' : List Addr} {H H' : Hp} {σ τ : St} {δ θ : List (Option Vl)} {G : List M}
theorem own1_ow (a : Addr) (m : M) : own1 (some (.ref a)) (some (.ow m)) = [a] := rfl
theorem cnt_own_set : ∀ {σ : St} {δ : List (Option Vl)} {i : Nat} {v w : Option V} {x y : Option Vl} (a : Addr), σ[i]? = some v → δ[i]? = some x →
    cnt a (own (σ.set i w) (δ.set i y)) + cnt a (own1 v x) = cnt a (own σ δ) + cnt a (own1 w y)
  | [], _, _, _, _, _, _, _, h, _ => by simp at h
  | _ :: _, [], _, _, _, _, _, _, _, h => by simp at h
  | v0 :: σ, x0 :: δ, 0, v, w, x, y, a, h1, h2 => by
    simp at h1 h2
    subst h1; subst h2
    show cnt a (own1 w y ++ own σ δ) + cnt a (own1 v0 x0) = cnt a (own1 v0 x0 ++ own σ δ) + cnt a (own1 w y)
    simp only [cnt, List.count_append]
    lia
  | v0 :: σ, x0 :: δ, i + 1, v, w, x, y, a, h1, h2 => by
    have := cnt_own_set (σ := σ) (δ := δ) (i := i) (v := v) (w := w) (x := x) (y := y) a (by simpa using h1) (by simpa using h2)
    show cnt a (own1 v0 x0 ++ own (σ.set i w) (δ.set i y)) + cnt a (own1 v x) = cnt a (own1 v0 x0 ++ own σ δ) + cnt a (own1 w y)
    simp only [cnt, List.count_append] at this ⊢
    lia
theorem set_self {α : Type} {l : List α} {i : Nat} {v : α} (h : l[i]? = some v) : l.set i v = l := by
  refine List.ext_getElem? fun j => ?_
  by_cases e : i = j
  · subst e
    rw [List.getElem?_set_self (List.getElem?_eq_some_iff.mp h).1, h]
  · rw [List.getElem?_set_ne e]
theorem cnt_own_setD {i : Nat} {v : Option V} {x y : Option Vl} (a : Addr) (h1 : σ[i]? = some v) (h2 : δ[i]? = some x) :
    cnt a (own σ (δ.set i y)) + cnt a (own1 v x) = cnt a (own σ δ) + cnt a (own1 v y) := by
  have := cnt_own_set (w := v) (y := y) a h1 h2
  rw [set_self h1] at this
  exact this
theorem paired_get {α β : Type} {F : α → β → Prop} : ∀ {l : List α} {r : List β} {i : Nat} {y : β}, Paired F l r → r[i]? = some y → ∃ x, l[i]? = some x ∧ F x y
  | _, _, _, _, .nil, h => by simp at h
  | _, _, 0, _, .cons h _, e => by simp at e; subst e; exact ⟨_, rfl, h⟩
  | _, _, i + 1, y, .cons _ r, e => by
    obtain ⟨x, h1, h2⟩ := paired_get (i := i) (y := y) r (by simpa using e)
    exact ⟨x, by simpa using h1, h2⟩
theorem paired_set {α β : Type} {F : α → β → Prop} {x : α} {y : β} : ∀ {l : List α} {r : List β} (i : Nat), Paired F l r → F x y → Paired F (l.set i x) (r.set i y)
  | _, _, _, .nil, _ => .nil
  | _, _, 0, .cons _ r, q => .cons q r
  | _, _, i + 1, .cons h r, q => .cons h (paired_set i r q)
theorem paired_setR {α β : Type} {F : α → β → Prop} {x : α} {y : β} {l : List α} {r : List β} {i : Nat} (h : Paired F l r) (e : l[i]? = some x) (q : F x y) : Paired F l (r.set i y) := by
  have := paired_set i h q
  rw [set_self e] at this
  exact this
theorem SR.get_im (h : SR K κ ι H σ δ G) {i : Nat} {d : I} (e : δ[i]? = some (some (.im d))) : ∃ v, σ[i]? = some (some v) ∧ RpI K ι H v d := by
  obtain ⟨x, e1, q⟩ := paired_get h.sl e
  cases q with
  | im q => exact ⟨_, e1, q⟩
theorem SR.get_ow (h : SR K κ ι H σ δ G) {i : Nat} {m : M} (e : δ[i]? = some (some (.ow m))) : ∃ a, σ[i]? = some (some (.ref a)) ∧ RpM K κ ι H a m := by
  obtain ⟨x, e1, q⟩ := paired_get h.sl e
  cases q with
  | ow q => exact ⟨_, e1, q⟩
theorem SR.get_g (h : SR K κ ι H σ δ G) {k : Nat} {m : M} (e : G[k]? = some m) : ∃ a, ι[k]? = some a ∧ RpM K κ ι H a m := paired_get h.gs e
theorem own_mem : ∀ {σ : St} {δ : List (Option Vl)} {i : Nat} {a : Addr} {m : M}, σ[i]? = some (some (.ref a)) → δ[i]? = some (some (.ow m)) → a ∈ own σ δ
  | [], _, _, _, _, h, _ => by simp at h
  | _ :: _, [], _, _, _, _, h => by simp at h
  | v0 :: σ, x0 :: δ, 0, a, m, h1, h2 => by
    simp at h1 h2
    subst h1; subst h2
    exact List.mem_append_left _ (List.mem_singleton.mpr rfl)
  | v0 :: σ, x0 :: δ, i + 1, a, m, h1, h2 => List.mem_append_right _ (own_mem (i := i) (by simpa using h1) (by simpa using h2))
theorem SR.same (h : SR K κ ι H σ δ G) (s : Same H H') : SR K κ ι H' σ δ G where
  sl := slots_mono (Pre.refl _) (Kp.same s) (fun a q => by obtain ⟨o, e, _⟩ := own_mu h.sl q; rw [e, s _ _ e]) h.sl
  gs := objs_mono (Pre.refl _) (Kp.same s) (fun a q => by obtain ⟨o, e, _⟩ := objs_mu h.gs q; rw [e, s _ _ e]) h.gs
  nd := h.nd
theorem Step.same {fp : List Addr} (s : Same H H') : Step ι fp H ι fp H' := ⟨Pre.refl _, fun _ h => .inl h, fun a o e _ => s _ _ e, fun a e => s.free e, Kp.same s⟩
theorem Same.lay {H : Hp} {p : Addr} {o : HO} (hp : H p = none) : Same H (upd H p o) := fun b u e => by rw [upd_ne (ne_of_none e hp)]; exact e
theorem SR.pop (h : SR K κ ι H (σ ++ τ) (δ ++ θ) G) (l : σ.length = δ.length) : SR K κ ι H σ δ G := by
  obtain ⟨a, b⟩ := paired_split l h.sl
  refine ⟨a, h.gs, fun x => ?_⟩
  have := h.nd x
  rw [own_app _ _ l] at this
  simp only [cnt, List.count_append] at this ⊢
  lia
theorem own_sub {a : Addr} (l : σ.length = δ.length) (h : a ∈ own σ δ ++ ι) : a ∈ own (σ ++ τ) (δ ++ θ) ++ ι := by
  rw [own_app _ _ l]
  simp only [List.mem_append] at h ⊢
  rcases h with h | h
  · exact .inl (.inl h)
  · exact .inr h
theorem SR.push_im {v : V} {d : I} (h : SR K κ ι H σ δ G) (r : RpI K ι H v d) : SR K κ ι H (σ ++ [some v]) (δ ++ [some (.im d)]) G := by
  refine ⟨paired_app h.sl (.cons (.im r) .nil), h.gs, fun x => ?_⟩
  have e : own [some v] [some (.im d)] = [] := by show own1 _ _ ++ [] = []; rw [own1_im]; rfl
  rw [own_app _ _ h.len, e, List.append_nil]
  exact h.nd x
theorem own_im {v : V} {d : I} (l : σ.length = δ.length) : own (σ ++ [some v]) (δ ++ [some (.im d)]) = own σ δ := by
  rw [own_app _ _ l]
  show own σ δ ++ (own1 _ _ ++ []) = _
  rw [own1_im]; simp
theorem own_ow {a : Addr} {m : M} (l : σ.length = δ.length) : own (σ ++ [some (.ref a)]) (δ ++ [some (.ow m)]) = own σ δ ++ [a] := by
  rw [own_app _ _ l]; rfl
theorem SR.push_ow {p : Addr} {o : HO} {m : M} (h : SR K κ ι H σ δ G) (hp : H p = none) (r : RpM K κ ι (upd H p o) p m) : SR K κ ι (upd H p o) (σ ++ [some (.ref p)]) (δ ++ [some (.ow m)]) G := by
  have h' := h.same (Same.lay (o := o) hp)
  refine ⟨paired_app h'.sl (.cons (.ow r) .nil), h'.gs, fun x => ?_⟩
  rw [own_ow h.len]
  have := h.nd x
  simp only [cnt, List.count_append] at this ⊢
  by_cases e : p = x
  · subst e
    have n : p ∉ own σ δ ++ ι := fun q => by obtain ⟨o, e, _⟩ := h.mu q; rw [hp] at e; cases e
    have : cnt p (own σ δ ++ ι) = 0 := List.count_eq_zero.mpr n
    simp only [cnt, List.count_append] at this
    simp
    lia
  · have : List.count x [p] = 0 := List.count_eq_zero.mpr (by simp; exact fun z => e z.symm)
    lia
theorem Step.lay_ow {p : Addr} {o : HO} {m : M} (l : σ.length = δ.length) (hp : H p = none) : Step ι (own σ δ ++ ι) H ι (own (σ ++ [some (.ref p)]) (δ ++ [some (.ow m)]) ++ ι) (upd H p o) where
  pre := Pre.refl _
  src := fun a h => by
    rw [own_ow l] at h
    simp only [List.mem_append, List.mem_singleton] at h ⊢
    rcases h with (h | h) | h
    · exact .inl (.inl h)
    · subst h; exact .inr hp
    · exact .inl (.inr h)
  keep := fun a u e _ => Same.lay hp _ _ e
  dom := fun a e => (Same.lay hp).free e
  kp := Kp.same (Same.lay hp)
/-- the last temporary goes into slot i -/
theorem SR.store {i : Nat} {v : V} {x : Vl} (h : SR K κ ι H (σ ++ [some v]) (δ ++ [some x]) G) (l : σ.length = δ.length) : SR K κ ι H (σ.set i (some v)) (δ.set i (some x)) G := by
  obtain ⟨a, b⟩ := paired_split l h.sl
  cases b with
  | cons b _ =>
    refine ⟨paired_set i a b, h.gs, fun y => ?_⟩
    have n := h.nd y
    rw [own_app _ _ l] at n
    have e1 : own [some v] [some x] = own1 (some v) (some x) := List.append_nil _
    rw [e1] at n
    by_cases hi : i < σ.length
    · have := cnt_own_set (σ := σ) (δ := δ) (i := i) (w := some v) (y := some x) y (List.getElem?_eq_getElem hi) (List.getElem?_eq_getElem (by lia))
      simp only [cnt, List.count_append] at this n ⊢
      lia
    · rw [List.set_eq_of_length_le (by lia), List.set_eq_of_length_le (by lia)]
      simp only [cnt, List.count_append] at n ⊢
      lia
theorem own_store {i : Nat} {v : V} {x : Vl} {a : Addr} (l : σ.length = δ.length) (h : a ∈ own (σ.set i (some v)) (δ.set i (some x)) ++ ι) : a ∈ own (σ ++ [some v]) (δ ++ [some x]) ++ ι := by
  rw [own_app _ _ l]
  have e1 : own [some v] [some x] = own1 (some v) (some x) := List.append_nil _
  rw [e1]
  rw [cnt_pos] at h ⊢
  by_cases hi : i < σ.length
  · have := cnt_own_set (σ := σ) (δ := δ) (i := i) (w := some v) (y := some x) a (List.getElem?_eq_getElem hi) (List.getElem?_eq_getElem (by lia))
    simp only [cnt, List.count_append] at this h ⊢
    lia
  · rw [List.set_eq_of_length_le (by lia), List.set_eq_of_length_le (by lia)] at h
    simp only [cnt, List.count_append] at h ⊢
    lia
/-- slot i becomes a temporary -/
theorem SR.take {i : Nat} {a : Addr} {m : M} (h : SR K κ ι H σ δ G) (e1 : σ[i]? = some (some (.ref a))) (e2 : δ[i]? = some (some (.ow m))) :
    SR K κ ι H (σ ++ [some (.ref a)]) (δ.set i none ++ [some (.ow m)]) G ∧ Step ι (own σ δ ++ ι) H ι (own (σ ++ [some (.ref a)]) (δ.set i none ++ [some (.ow m)]) ++ ι) H := by
  have l : σ.length = (δ.set i none).length := by rw [List.length_set]; exact h.len
  obtain ⟨a', e1', r⟩ := h.get_ow e2
  rw [e1] at e1'; cases e1'
  have q : ∀ x, cnt x (own σ (δ.set i none)) + cnt x [a] = cnt x (own σ δ) := fun x => by
    have := cnt_own_setD (y := none) x e1 e2
    rw [own1_ow, own1_no] at this
    exact this
  refine ⟨⟨paired_app (paired_setR h.sl e1 (.no _)) (.cons (.ow r) .nil), h.gs, fun x => ?_⟩, (Step.refl _ _ _).sub fun x hx => ?_⟩
  · rw [own_ow l]
    have := h.nd x
    have := q x
    simp only [cnt, List.count_append] at *
    lia
  · rw [own_ow l, cnt_pos] at hx
    rw [cnt_pos]
    have := q x
    simp only [cnt, List.count_append] at *
    lia
theorem SR.gl (h : SR K κ ι H σ δ G) : ι.length = G.length := Paired.length h.gs
theorem SR.box {a : Addr} {m : M} (h : SR K κ ι H (σ ++ [some (.ref a)]) (δ ++ [some (.ow m)]) G) (l : σ.length = δ.length) :
    SR K κ (ι ++ [a]) H σ δ (G ++ [m]) ∧ RpI K (ι ++ [a]) H (.ref a) (.ref G.length) ∧ Step ι (own (σ ++ [some (.ref a)]) (δ ++ [some (.ow m)]) ++ ι) H (ι ++ [a]) (own σ δ ++ (ι ++ [a])) H := by
  obtain ⟨p, q⟩ := paired_split l h.sl
  have pr := Pre.snoc ι [a]
  cases q with
  | cons q _ =>
    cases q with
    | ow q =>
      refine ⟨⟨slots_mono pr (Kp.refl _) (fun _ _ => rfl) p, paired_app (objs_mono pr (Kp.refl _) (fun _ _ => rfl) h.gs) (.cons (q.mono pr (Kp.refl _) rfl) .nil), fun x => ?_⟩, ?_, ⟨pr, fun x hx => .inl ?_, fun _ _ e _ => e, fun _ e => e, Kp.refl _⟩⟩
      · have := h.nd x
        rw [own_ow l] at this
        simp only [cnt, List.count_append] at this ⊢
        lia
      · refine .ref ?_
        have e := h.gl
        rw [← e, List.getElem?_append_right (Nat.le_refl _), Nat.sub_self]; rfl
      · rw [own_ow l]
        simp only [List.mem_append] at hx ⊢
        rcases hx with hx | hx | hx
        · exact .inl (.inl hx)
        · exact .inr hx
        · exact .inl (.inr hx)
/-- the content of slot i is changed -/
theorem SR.poke {i : Nat} {a : Addr} {m m' : M} {o : HO} (h : SR K κ ι H σ δ G) (e1 : σ[i]? = some (some (.ref a))) (e2 : δ[i]? = some (some (.ow m))) (r : ∀ (ρ : RpM K κ ι H a m), Kp H (upd H a o) → RpM K κ ι (upd H a o) a m') :
    SR K κ ι (upd H a o) σ (δ.set i (some (.ow m'))) G ∧ Step ι (own σ δ ++ ι) H ι (own σ (δ.set i (some (.ow m'))) ++ ι) (upd H a o) := by
  obtain ⟨a', e1', rm⟩ := h.get_ow e2
  rw [e1] at e1'; cases e1'
  obtain ⟨u, hu, mu⟩ := rm.mu
  have kp : Kp H (upd H a o) := ⟨fun b xs e => by rw [upd_ne (ne_of e hu (by rintro rfl; cases mu))]; exact e, fun b o' u' e => by rw [upd_ne (ne_of e hu (by rintro rfl; cases mu))]; exact e⟩
  have q : ∀ x, cnt x (own σ (δ.set i (some (.ow m')))) = cnt x (own σ δ) := fun x => by
    have := cnt_own_setD (y := some (.ow m')) x e1 e2
    rw [own1_ow, own1_ow] at this
    lia
  have mem := own_mem e1 e2
  have na : ∀ x, x ∈ own σ (δ.set i none) → x ≠ a := fun x hx z => by
    subst z
    have := cnt_own_setD (y := none) x e1 e2
    rw [own1_ow, own1_no] at this
    have n := h.nd x
    have := cnt_pos.mp hx
    have z1 : cnt x [x] = 1 := by simp [cnt]
    have z0 : cnt x [] = 0 := rfl
    lia
  have ni : ∀ x, x ∈ ι → x ≠ a := fun x hx z => by
    subst z
    have n := h.nd x
    have := cnt_pos.mp hx
    have := cnt_pos.mp mem
    lia
  have p1 := slots_mono (Pre.refl ι) kp (fun x hx => upd_ne (na x hx)) (paired_setR (y := none) h.sl e1 (.no _))
  refine ⟨⟨?_, objs_mono (Pre.refl ι) kp (fun x hx => upd_ne (ni x hx)) h.gs, fun x => by rw [q]; exact h.nd x⟩, ⟨Pre.refl _, fun x hx => .inl ?_, fun x u e n => ?_, fun x e => ?_, kp⟩⟩
  · have := paired_setR (y := some (.ow m')) p1 e1 (.ow (r rm kp))
    rw [List.set_set] at this
    exact this
  · rw [cnt_pos] at hx ⊢
    have := q x
    simp only [cnt, List.count_append] at *
    lia
  · rw [upd_ne (fun z => n (by rw [z]; exact List.mem_append_left _ mem))]; exact e
  · by_cases z : x = a
    · subst z; rw [upd_same] at e; cases e
    · rw [upd_ne z] at e; exact e
/-- the content of the thing k is changed -/
theorem SR.pokeG {k : Nat} {a : Addr} {m m' : M} {o : HO} (h : SR K κ ι H σ δ G) (e1 : ι[k]? = some a) (e2 : G[k]? = some m) (r : ∀ (ρ : RpM K κ ι H a m), Kp H (upd H a o) → RpM K κ ι (upd H a o) a m') :
    SR K κ ι (upd H a o) σ δ (G.set k m') ∧ Step ι (own σ δ ++ ι) H ι (own σ δ ++ ι) (upd H a o) := by
  obtain ⟨a', e1', rm⟩ := h.get_g e2
  rw [e1] at e1'; cases e1'
  obtain ⟨u, hu, mu⟩ := rm.mu
  have kp : Kp H (upd H a o) := ⟨fun b xs e => by rw [upd_ne (ne_of e hu (by rintro rfl; cases mu))]; exact e, fun b o' u' e => by rw [upd_ne (ne_of e hu (by rintro rfl; cases mu))]; exact e⟩
  have mem : a ∈ ι := List.mem_of_getElem? e1
  have na : ∀ x, x ∈ own σ δ → x ≠ a := fun x hx z => by
    subst z
    have n := h.nd x
    have := cnt_pos.mp hx
    have := cnt_pos.mp mem
    lia
  have inj : ∀ j, ι[j]? = some a → j = k := fun j ej => by
    have n := h.nd a
    have c1 : cnt a ι ≤ 1 := by lia
    by_cases z : j = k
    · exact z
    · exfalso
      have : 2 ≤ cnt a ι := by
        have hj := (List.getElem?_eq_some_iff.mp ej)
        have hk := (List.getElem?_eq_some_iff.mp e1)
        obtain ⟨hj, vj⟩ := hj
        obtain ⟨hk, vk⟩ := hk
        have two : ∀ (l : List Addr) (i j : Nat) (hi : i < l.length) (hj : j < l.length), i < j → l[i] = a → l[j] = a → 2 ≤ List.count a l := by
          intro l i j hi hj hij e1 e2
          have e : l = l.take j ++ l.drop j := (List.take_append_drop j l).symm
          rw [e, List.count_append]
          have p1 : 0 < List.count a (l.take j) := List.count_pos_iff.mpr (by rw [List.mem_take_iff_getElem]; exact ⟨i, by lia, e1⟩)
          have p2 : 0 < List.count a (l.drop j) := List.count_pos_iff.mpr (by rw [List.mem_drop_iff_getElem]; exact ⟨0, by lia, by simpa using e2⟩)
          lia
        rcases Nat.lt_or_gt_of_ne z with z | z
        · exact two ι j k hj hk z vj vk
        · exact two ι k j hk hj z vk vj
      lia
  have objs : ∀ (as : List Addr) (Gs : List M) (b : Nat), (∀ j x, as[j]? = some x → x = a → b + j = k) → Paired (RpM K κ ι H) as Gs → (∀ j, b + j = k → j < as.length → as[j]? = some a) → Paired (RpM K κ ι (upd H a o)) as (if b ≤ k then Gs.set (k - b) m' else Gs) := by
    intro as Gs b hj p hk
    induction p generalizing b with
    | nil => by_cases z : b ≤ k <;> simp [z] <;> exact .nil
    | @cons x y l r hx hr ih =>
      have ih' := ih (b + 1) (fun j x e z => by have := hj (j + 1) x (by simpa using e) z; lia) (fun j e l => by have := hk (j + 1) (by lia) (by simp; lia); simpa using this)
      by_cases z : b = k
      · subst z
        have xa : x = a := by have := hk 0 rfl (by simp); simpa using this
        subst xa
        rw [if_neg (by lia)] at ih'
        rw [if_pos (Nat.le_refl _), Nat.sub_self]
        exact .cons (r rm kp) ih'
      · have xa : x ≠ a := fun e => z (by have := hj 0 x rfl e; lia)
        by_cases w : b ≤ k
        · rw [if_pos (by lia)] at ih'
          rw [if_pos w]
          obtain ⟨n, hn⟩ : ∃ n, k - b = n + 1 := ⟨k - b - 1, by lia⟩
          have hn' : k - (b + 1) = n := by lia
          rw [hn]; rw [hn'] at ih'
          exact .cons (hx.mono (Pre.refl _) kp (upd_ne xa)) ih'
        · rw [if_neg (by lia)] at ih'
          rw [if_neg w]
          exact .cons (hx.mono (Pre.refl _) kp (upd_ne xa)) ih'
  have p2 := objs ι G 0 (fun j x e z => by subst z; have := inj j e; lia) h.gs (fun j e _ => (show j = k by lia) ▸ e1)
  rw [if_pos (Nat.zero_le _), Nat.sub_zero] at p2
  refine ⟨⟨slots_mono (Pre.refl ι) kp (fun x hx => upd_ne (na x hx)) h.sl, p2, h.nd⟩, ⟨Pre.refl _, fun x hx => .inl hx, fun x u e n => ?_, fun x e => ?_, kp⟩⟩
  · rw [upd_ne (fun z => n (by rw [z]; exact List.mem_append_right _ mem))]; exact e
  · by_cases z : x = a
    · subst z; rw [upd_same] at e; cases e
    · rw [upd_ne z] at e; exact e
end
end B
namespace B
open PySem L2
inductive Ev where
  | v (x : Vl) | s (i : Nat)
noncomputable abbrev De := List (Option Vl)
noncomputable abbrev Mo (α : Type) := De → List M → Option (α × De × List M)
noncomputable def bd {α β : Type} (m : Mo α) (f : α → Mo β) : Mo β := fun δ G => match m δ G with
  | some (a, δ1, G1) => f a δ1 G1
  | none => none
noncomputable def rt {α : Type} (a : α) : Mo α := fun δ G => some (a, δ, G)
theorem bd_inv {α β : Type} {m : Mo α} {f : α → Mo β} {δ : De} {G : List M} {r : β × De × List M} (h : bd m f δ G = some r) : ∃ a δ1 G1, m δ G = some (a, δ1, G1) ∧ f a δ1 G1 = some r := by
  unfold bd at h
  split at h
  · exact ⟨_, _, _, by assumption, h⟩
  · cases h
theorem bd_of {α β : Type} {m : Mo α} {f : α → Mo β} {δ δ1 : De} {G G1 : List M} {a : α} (h : m δ G = some (a, δ1, G1)) : bd m f δ G = f a δ1 G1 := by
  unfold bd; rw [h]
noncomputable def tS : List Ev → List V → St
  | .v _ :: es, v :: vs => some v :: tS es vs
  | .s _ :: es, _ :: vs => tS es vs
  | _, _ => []
noncomputable def tD : List Ev → De
  | .v x :: es => some x :: tD es
  | .s _ :: es => tD es
  | [] => []
theorem tS_app : ∀ {es : List Ev} {vs : List V} (fs : List Ev) (ws : List V), es.length = vs.length → tS (es ++ fs) (vs ++ ws) = tS es vs ++ tS fs ws
  | [], [], _, _, _ => rfl
  | [], _ :: _, _, _, h => by cases h
  | _ :: _, [], _, _, h => by cases h
  | .v x :: es, v :: vs, fs, ws, h => by
    show some v :: tS (es ++ fs) (vs ++ ws) = some v :: (tS es vs ++ tS fs ws)
    rw [tS_app fs ws (by simpa using h)]
  | .s i :: es, v :: vs, fs, ws, h => by
    show tS (es ++ fs) (vs ++ ws) = tS es vs ++ tS fs ws
    rw [tS_app fs ws (by simpa using h)]
theorem tD_app : ∀ (es fs : List Ev), tD (es ++ fs) = tD es ++ tD fs
  | [], _ => rfl
  | .v x :: es, fs => by
    show some x :: tD (es ++ fs) = some x :: (tD es ++ tD fs)
    rw [tD_app]
  | .s i :: es, fs => by
    show tD (es ++ fs) = tD es ++ tD fs
    rw [tD_app]
structure Args (K : PySem.W.Frag) (κ : Str → Addr) (ι : List Addr) (H : Hp) (σ : St) (δ : De) (G : List M) (es : List Ev) (vs : List V) : Prop where
  l : σ.length = δ.length
  sr : SR K κ ι H (σ ++ tS es vs) (δ ++ tD es) G
  al : Paired (fun (e : Ev) (v : V) => ∀ i, e = .s i → σ[i]? = some (some v)) es vs
structure After (K : PySem.W.Frag) (κ : Str → Addr) (σ : St) (ι fp : List Addr) (H : Hp) (es : List Ev) (δ' : De) (G' : List M) (vs : List V) (ι' : List Addr) (H' : Hp) : Prop where
  ar : Args K κ ι' H' σ δ' G' es vs
  st : Step ι fp H ι' (own (σ ++ tS es vs) (δ' ++ tD es) ++ ι') H'
noncomputable def UpE (K : PySem.W.Frag) (κ : Str → Addr) (f : Mo Ev) : TE := fun σ H Q => ∃ ι δ G e δ' G', SR K κ ι H σ δ G ∧ f δ G = some (e, δ', G') ∧ ∀ v ι' H', After K κ σ ι (own σ δ ++ ι) H [e] δ' G' [v] ι' H' → Q v H'
noncomputable def UpA (K : PySem.W.Frag) (κ : Str → Addr) (f : Mo (List Ev)) : TA := fun σ H Q => ∃ ι δ G es δ' G', SR K κ ι H σ δ G ∧ f δ G = some (es, δ', G') ∧ ∀ vs ι' H', After K κ σ ι (own σ δ ++ ι) H es δ' G' vs ι' H' → Q vs H'
section
variable {K : PySem.W.Frag} {κ : Str → Addr} {ι ι1 ι2 fp : List Addr} {H H1 H2 : Hp} {σ : St} {δ δ1 δ2 : De} {G G1 G2 : List M} {es fs : List Ev} {vs ws : List V}
theorem Args.base (h : Args K κ ι H σ δ G es vs) : SR K κ ι H σ δ G := h.sr.pop h.l
theorem len0 {vs : List V} {n : Nat} (h : n = vs.length) (e : n = 0 := by rfl) : vs = [] := by subst e; cases vs with | nil => rfl | cons _ _ => cases h
theorem len1 {vs : List V} {n : Nat} (h : n = vs.length) (e : n = 1 := by rfl) : ∃ a, vs = [a] := by
  subst e
  cases vs with
  | nil => cases h
  | cons a r => exact ⟨a, by rw [len0 (Nat.succ.inj h)]⟩
theorem len2 {vs : List V} {n : Nat} (h : n = vs.length) (e : n = 2 := by rfl) : ∃ a b, vs = [a, b] := by
  subst e
  cases vs with
  | nil => cases h
  | cons a r => obtain ⟨b, e⟩ := len1 (Nat.succ.inj h); exact ⟨a, b, by rw [e]⟩
theorem Args.len (h : Args K κ ι H σ δ G es vs) : es.length = vs.length := Paired.length h.al
theorem After.app (a : After K κ σ ι fp H es δ1 G1 vs ι1 H1) (b : After K κ σ ι1 (own σ δ1 ++ ι1) H1 fs δ2 G2 ws ι2 H2) : After K κ σ ι fp H (es ++ fs) δ2 G2 (vs ++ ws) ι2 H2 := by
  obtain ⟨s, t⟩ := SR.join a.ar.sr a.ar.l b.ar.sr b.ar.l b.st
  have e1 := tS_app fs ws a.ar.len
  have e2 := tD_app es fs
  refine ⟨⟨b.ar.l, by rw [e1, e2]; exact s, paired_app a.ar.al b.ar.al⟩, ?_⟩
  rw [e1, e2]
  exact a.st.trans t
theorem After.nil (h : SR K κ ι H σ δ G) : After K κ σ ι (own σ δ ++ ι) H [] δ G [] ι H := by
  refine ⟨⟨h.len, ?_, .nil⟩, ?_⟩
  · show SR K κ ι H (σ ++ []) (δ ++ []) G
    rw [List.append_nil, List.append_nil]; exact h
  · show Step ι _ H ι (own (σ ++ []) (δ ++ []) ++ ι) H
    rw [List.append_nil, List.append_nil]; exact Step.refl _ _ _
noncomputable def nilF : Mo (List Ev) := rt []
noncomputable def consF (fa : Mo Ev) (fr : Mo (List Ev)) : Mo (List Ev) := bd fa fun e => bd fr fun es => rt (e :: es)
theorem upA_nil {Q : List V → Hp → Prop} (h : UpA K κ nilF σ H Q) : tNil σ H Q := by
  obtain ⟨ι, δ, G, es, δ', G', s, e, k⟩ := h
  cases e
  exact k _ _ _ (After.nil s)
theorem upA_cons {fa : Mo Ev} {fr : Mo (List Ev)} {Q : List V → Hp → Prop} (h : UpA K κ (consF fa fr) σ H Q) : tCons (UpE K κ fa) (UpA K κ fr) σ H Q := by
  obtain ⟨ι, δ, G, es, δ', G', s, e, k⟩ := h
  obtain ⟨x, δ1, G1, e1, e⟩ := bd_inv e
  obtain ⟨xs, δ2, G2, e2, e⟩ := bd_inv e
  cases e
  refine ⟨ι, δ, G, x, δ1, G1, s, e1, fun v ι1 H1 a => ?_⟩
  refine ⟨ι1, δ1, G1, xs, _, _, a.ar.base, e2, fun vs ι2 H2 b => ?_⟩
  exact k _ _ _ (a.app b)
/-- a primitive: what it wants of its arguments, and what it does -/
noncomputable def Prim (K : PySem.W.Frag) (κ : Str → Addr) (r : List V → Hp → VK → Prop) (p : List Ev → Mo Ev) : Prop :=
  ∀ (ι : List Addr) (H : Hp) (σ : St) (δ : De) (G : List M) (es : List Ev) (vs : List V) (e : Ev) (δ' : De) (G' : List M) (Q : VK), Args K κ ι H σ δ G es vs → p es δ G = some (e, δ', G') →
    (∀ v ι' H', After K κ σ ι (own (σ ++ tS es vs) (δ ++ tD es) ++ ι) H [e] δ' G' [v] ι' H' → Q v H') → r vs H Q
theorem After.then {es' : List Ev} {vs' : List V} (a : After K κ σ ι fp H es δ1 G1 vs ι1 H1) (b : After K κ σ ι1 (own (σ ++ tS es vs) (δ1 ++ tD es) ++ ι1) H1 es' δ2 G2 vs' ι2 H2) : After K κ σ ι fp H es' δ2 G2 vs' ι2 H2 := ⟨b.ar, a.st.trans b.st⟩
theorem up_args {r : List V → Hp → VK → Prop} {p : List Ev → Mo Ev} {fa : Mo (List Ev)} {Q : VK} (hp : Prim K κ r p) (h : UpE K κ (bd fa p) σ H Q) : UpA K κ fa σ H fun vs H1 => r vs H1 Q := by
  obtain ⟨ι, δ, G, e, δ', G', s, eq, k⟩ := h
  obtain ⟨xs, δ1, G1, e1, e2⟩ := bd_inv eq
  refine ⟨ι, δ, G, xs, δ1, G1, s, e1, fun vs ι1 H1 a => ?_⟩
  exact hp _ _ _ _ _ _ _ _ _ _ _ a.ar e2 fun v ι2 H2 b => k _ _ _ (a.then b)
noncomputable def r2 (r : R2) : List V → Hp → VK → Prop := fun vs H Q => ∃ x y, vs = [x, y] ∧ r x y H Q
noncomputable def r1 (r : V → Hp → VK → Prop) : List V → Hp → VK → Prop := fun vs H Q => ∃ x, vs = [x] ∧ r x H Q
noncomputable def opF (p : List Ev → Mo Ev) (fa fb : Mo Ev) : Mo Ev := bd fa fun x => bd fb fun y => p [x, y]
noncomputable def unF (p : List Ev → Mo Ev) (fa : Mo Ev) : Mo Ev := bd fa fun x => p [x]
theorem up_op {r : R2} {p : List Ev → Mo Ev} {fa fb : Mo Ev} {Q : VK} (hp : Prim K κ (r2 r) p) (h : UpE K κ (opF p fa fb) σ H Q) : tOp r (UpE K κ fa) (UpE K κ fb) σ H Q := by
  obtain ⟨ι, δ, G, e, δ', G', s, eq, k⟩ := h
  obtain ⟨x, δ1, G1, e1, eq⟩ := bd_inv eq
  obtain ⟨y, δ2, G2, e2, eq⟩ := bd_inv eq
  refine ⟨ι, δ, G, x, δ1, G1, s, e1, fun v ι1 H1 a => ?_⟩
  refine ⟨ι1, δ1, G1, y, δ2, G2, a.ar.base, e2, fun w ι2 H2 b => ?_⟩
  have c := a.app b
  obtain ⟨x', y', e', q⟩ := hp _ _ _ _ _ _ _ _ _ _ Q c.ar eq fun v ι3 H3 d => k _ _ _ (c.then d)
  cases e'
  exact q
theorem up_un {r : V → Hp → VK → Prop} {p : List Ev → Mo Ev} {fa : Mo Ev} {Q : VK} (hp : Prim K κ (r1 r) p) (h : UpE K κ (unF p fa) σ H Q) : tUn r (UpE K κ fa) σ H Q := by
  obtain ⟨ι, δ, G, e, δ', G', s, eq, k⟩ := h
  obtain ⟨x, δ1, G1, e1, eq⟩ := bd_inv eq
  refine ⟨ι, δ, G, x, δ1, G1, s, e1, fun v ι1 H1 a => ?_⟩
  obtain ⟨x', e', q⟩ := hp _ _ _ _ _ _ _ _ _ _ Q a.ar eq fun v ι3 H3 d => k _ _ _ (a.then d)
  cases e'
  exact q
theorem tsd : ∀ {es : List Ev} {vs : List V} {j : Nat} {x : Vl} {v : V}, Paired (RpE K κ ι H) (tS es vs) (tD es) → es[j]? = some (.v x) → vs[j]? = some v → RpE K κ ι H (some v) (some x)
  | [], _, _, _, _, _, h, _ => by simp at h
  | _ :: _, [], _, _, _, _, _, h => by simp at h
  | .v y :: es, w :: vs, 0, x, v, p, h1, h2 => by
    simp at h1 h2
    subst h1; subst h2
    cases p with
    | cons q _ => exact q
  | .s i :: es, w :: vs, 0, x, v, p, h1, h2 => by simp at h1
  | .v y :: es, w :: vs, j + 1, x, v, p, h1, h2 => by
    cases p with
    | cons _ p => exact tsd (j := j) p (by simpa using h1) (by simpa using h2)
  | .s i :: es, w :: vs, j + 1, x, v, p, h1, h2 => tsd (j := j) (es := es) (vs := vs) p (by simpa using h1) (by simpa using h2)
theorem Args.im {j : Nat} {d : I} {v : V} (a : Args K κ ι H σ δ G es vs) (h1 : es[j]? = some (.v (.im d))) (h2 : vs[j]? = some v) : RpI K ι H v d := by
  have := tsd (paired_split a.l a.sr.sl).2 h1 h2
  cases this with
  | im r => exact r
/-- what an argument is, where it is a thing that may change -/
noncomputable def pk (δ : De) (G : List M) : Ev → Option M
  | .v (.ow m) => some m
  | .v (.im (.ref k)) => G[k]?
  | .v (.im _) => none
  | .s i => match δ[i]? with
    | some (some (.ow m)) => some m
    | _ => none
theorem Args.pk {j : Nat} {e : Ev} {m : M} {v : V} (a : Args K κ ι H σ δ G es vs) (h1 : es[j]? = some e) (h2 : vs[j]? = some v) (h : B.pk δ G e = some m) : ∃ b, v = .ref b ∧ RpM K κ ι H b m := by
  cases e with
  | v x =>
    have q := tsd (paired_split a.l a.sr.sl).2 h1 h2
    cases x with
    | ow m' => cases h; cases q with
      | ow r => exact ⟨_, rfl, r⟩
    | im d =>
      cases q with
      | im r =>
        cases r with
        | ref e =>
          obtain ⟨b, e', r⟩ := a.base.get_g h
          rw [e] at e'; cases e'
          exact ⟨_, rfl, r⟩
        | _ => cases h
  | s i =>
    have h : (match δ[i]? with | some (some (.ow m)) => some m | _ => none) = some m := h
    obtain ⟨v', e1, al⟩ : ∃ v', vs[j]? = some v' ∧ σ[i]? = some (some v') := by
      have : ∀ {es : List Ev} {vs : List V} {j : Nat}, Paired (fun (e : Ev) (v : V) => ∀ i, e = .s i → σ[i]? = some (some v)) es vs → es[j]? = some (.s i) → ∃ v', vs[j]? = some v' ∧ σ[i]? = some (some v') := by
        intro es vs j p
        induction p generalizing j with
        | nil => intro h; simp at h
        | cons q _ ih =>
          intro h
          cases j with
          | zero => simp at h; exact ⟨_, rfl, q i h⟩
          | succ j => obtain ⟨v', e, z⟩ := ih (j := j) (by simpa using h); exact ⟨v', by simpa using e, z⟩
      exact this a.al h1
    rw [h2] at e1; cases e1
    split at h
    · rename_i m' e
      cases h
      obtain ⟨b, e', r⟩ := a.base.get_ow e
      rw [al] at e'; cases e'
      exact ⟨_, rfl, r⟩
    · cases h
noncomputable def sq (δ : De) (G : List M) : Ev → Option (List I)
  | .v (.im (.tup xs)) => some xs
  | .v (.im (.fro xs)) => some xs
  | .v (.im (.con xs)) => some xs
  | e => match pk δ G e with
    | some (.lst xs) => some xs
    | _ => none
theorem Args.sq {j : Nat} {e : Ev} {xs : List I} {v : V} (a : Args K κ ι H σ δ G es vs) (h1 : es[j]? = some e) (h2 : vs[j]? = some v) (h : B.sq δ G e = some xs) : ∃ b ys, v = .ref b ∧ (SqL K H b ys ∨ SqT K H b ys) ∧ RpIs K ι H ys xs := by
  have fromPk : (match B.pk δ G e with | some (.lst xs) => some xs | _ => none) = some xs → ∃ b ys, v = .ref b ∧ (SqL K H b ys ∨ SqT K H b ys) ∧ RpIs K ι H ys xs := fun q => by
    split at q
    · rename_i xs' e'
      cases q
      obtain ⟨b, e1, ys, h3, r⟩ := a.pk h1 h2 e'
      exact ⟨b, ys, e1, .inl (SqL.of h3), r⟩
    · cases q
  cases e with
  | s i => exact fromPk h
  | v x =>
    cases x with
    | ow m => exact fromPk h
    | im d =>
      have r := a.im h1 h2
      cases r with
      | tup q r => cases h; exact ⟨_, _, rfl, .inr (SqT.of q), r⟩
      | con q r => cases h; exact ⟨_, _, rfl, .inr (SqT.kon q), r⟩
      | fro q r => cases h; exact ⟨_, _, rfl, .inl q.sq, r⟩
      | ref q => exact fromPk h
      | non => exact fromPk h
      | bl => exact fromPk h
      | int => exact fromPk h
      | str => exact fromPk h
      | ty => exact fromPk h
theorem fin_im {v : V} {d : I} (a : Args K κ ι H σ δ G es vs) (r : RpI K ι H v d) : After K κ σ ι (own (σ ++ tS es vs) (δ ++ tD es) ++ ι) H [.v (.im d)] δ G [v] ι H := by
  refine ⟨⟨a.l, a.base.push_im r, .cons (fun _ h => by cases h) .nil⟩, (Step.refl _ _ _).sub fun x h => ?_⟩
  have h : x ∈ own (σ ++ [some v]) (δ ++ [some (.im d)]) ++ ι := h
  rw [own_im a.l] at h
  exact own_sub a.l h
theorem fin_same {v : V} {d : I} {H' : Hp} (a : Args K κ ι H σ δ G es vs) (s : Same H H') (r : RpI K ι H' v d) : After K κ σ ι (own (σ ++ tS es vs) (δ ++ tD es) ++ ι) H [.v (.im d)] δ G [v] ι H' := by
  refine ⟨⟨a.l, (a.base.same s).push_im r, .cons (fun _ h => by cases h) .nil⟩, (Step.same s).sub fun x h => ?_⟩
  have h : x ∈ own (σ ++ [some v]) (δ ++ [some (.im d)]) ++ ι := h
  rw [own_im a.l] at h
  exact own_sub a.l h
theorem fin_tup {p : Addr} {ys : List V} {xs : List I} (a : Args K κ ι H σ δ G es vs) (hp : H p = none) (r : RpIs K ι H ys xs) : After K κ σ ι (own (σ ++ tS es vs) (δ ++ tD es) ++ ι) H [.v (.im (.tup xs))] δ G [.ref p] ι (upd H p (.tup ys)) :=
  fin_same a (Same.lay hp) (.tup upd_same (r.mono (Pre.refl _) (Kp.same (Same.lay hp))))
theorem fin_ow {p : Addr} {o : HO} {m : M} (a : Args K κ ι H σ δ G es vs) (hp : H p = none) (r : RpM K κ ι (upd H p o) p m) : After K κ σ ι (own (σ ++ tS es vs) (δ ++ tD es) ++ ι) H [.v (.ow m)] δ G [.ref p] ι (upd H p o) :=
  ⟨⟨a.l, a.base.push_ow hp r, .cons (fun _ h => by cases h) .nil⟩, (Step.lay_ow a.l hp).wide fun x h => own_sub a.l h⟩
theorem fin_lst {p : Addr} {ys : List V} {xs : List I} (a : Args K κ ι H σ δ G es vs) (hp : H p = none) (r : RpIs K ι H ys xs) : After K κ σ ι (own (σ ++ tS es vs) (δ ++ tD es) ++ ι) H [.v (.ow (.lst xs))] δ G [.ref p] ι (upd H p (.lst ys)) :=
  fin_ow a hp ⟨ys, upd_same, r.mono (Pre.refl _) (Kp.same (Same.lay hp))⟩
/-- the thing that an argument is, changed -/
noncomputable def pkS (δ : De) (G : List M) (m' : M) : Ev → De × List M
  | .v (.im (.ref k)) => (δ, G.set k m')
  | .v _ => (δ, G)
  | .s i => (δ.set i (some (.ow m')), G)
theorem tmp_at : ∀ {es : List Ev} {vs : List V} {j : Nat} {x : Vl} {v : V}, es[j]? = some (.v x) → vs[j]? = some v → es.length = vs.length → ∃ n : Nat, (tS es vs)[n]? = some (some v) ∧ (tD es)[n]? = some (some x)
  | [], _, _, _, _, h, _, _ => by simp at h
  | _ :: _, [], _, _, _, _, h, _ => by simp at h
  | .v y :: es, w :: vs, 0, x, v, h1, h2, _ => by
    simp at h1 h2
    subst h1; subst h2
    exact ⟨0, rfl, rfl⟩
  | .s i :: es, w :: vs, 0, x, v, h1, h2, _ => by simp at h1
  | .v y :: es, w :: vs, j + 1, x, v, h1, h2, l => by
    obtain ⟨n, p, q⟩ := tmp_at (j := j) (es := es) (vs := vs) (by simpa using h1) (by simpa using h2) (by simpa using l)
    exact ⟨n + 1, by simpa [tS] using p, by simpa [tD] using q⟩
  | .s i :: es, w :: vs, j + 1, x, v, h1, h2, l => by
    obtain ⟨n, p, q⟩ := tmp_at (j := j) (es := es) (vs := vs) (by simpa using h1) (by simpa using h2) (by simpa using l)
    exact ⟨n, p, q⟩
theorem al_at {i : Nat} : ∀ {es : List Ev} {vs : List V} {j : Nat} {v : V}, Paired (fun (e : Ev) (v : V) => ∀ i, e = .s i → σ[i]? = some (some v)) es vs → es[j]? = some (.s i) → vs[j]? = some v → σ[i]? = some (some v) := by
  intro es vs j v p
  induction p generalizing j with
  | nil => intro h; simp at h
  | cons q _ ih =>
    intro h h2
    cases j with
    | zero => simp at h h2; subst h2; exact q i h
    | succ j => exact ih (j := j) (by simpa using h) (by simpa using h2)
theorem fin_mut {j : Nat} {e : Ev} {m m' : M} {b : Addr} {o : HO} {v : V} {d : I} (a : Args K κ ι H σ δ G es vs) (h1 : es[j]? = some e) (h2 : vs[j]? = some (.ref b)) (h : pk δ G e = some m)
    (r : RpM K κ ι H b m → Kp H (upd H b o) → RpM K κ ι (upd H b o) b m') (rv : RpI K ι H v d) :
    After K κ σ ι (own (σ ++ tS es vs) (δ ++ tD es) ++ ι) H [.v (.im d)] (pkS δ G m' e).1 (pkS δ G m' e).2 [v] ι (upd H b o) := by
  have fin : ∀ {δ' : De} {G' : List M}, SR K κ ι (upd H b o) σ δ' G' → Step ι (own (σ ++ tS es vs) (δ ++ tD es) ++ ι) H ι (own σ δ' ++ ι) (upd H b o) → After K κ σ ι (own (σ ++ tS es vs) (δ ++ tD es) ++ ι) H [.v (.im d)] δ' G' [v] ι (upd H b o) := fun s st => by
    refine ⟨⟨s.len, s.push_im (rv.mono (Pre.refl _) st.kp), .cons (fun _ h => by cases h) .nil⟩, st.sub fun x h => ?_⟩
    have h : x ∈ own (σ ++ [some v]) (_ ++ [some (.im d)]) ++ ι := h
    rw [own_im s.len] at h
    exact h
  cases e with
  | s i =>
    have al := al_at a.al h1 h2
    have h : (match δ[i]? with | some (some (.ow m)) => some m | _ => none) = some m := h
    split at h
    · rename_i m0 e
      cases h
      obtain ⟨p, q⟩ := a.base.poke al e (m' := m') (o := o) r
      exact fin p (q.wide fun x h => own_sub a.l h)
    · cases h
  | v x =>
    cases x with
    | im d =>
      cases d with
      | ref k =>
        have rr := a.im h1 h2
        cases rr with
        | ref e =>
          obtain ⟨p, q⟩ := a.base.pokeG e h (m' := m') (o := o) r
          exact fin p (q.wide fun x h => own_sub a.l h)
      | _ => cases h
    | ow m0 =>
      cases h
      obtain ⟨n, p1, p2⟩ := tmp_at h1 h2 a.len
      have e1 : (σ ++ tS es vs)[σ.length + n]? = some (some (.ref b)) := by rw [List.getElem?_append_right (by lia)]; simpa using p1
      have e2 : (δ ++ tD es)[σ.length + n]? = some (some (.ow m)) := by rw [a.l, List.getElem?_append_right (by lia)]; simpa using p2
      obtain ⟨p, q⟩ := a.sr.poke e1 e2 (m' := m') (o := o) r
      have e3 : (δ ++ tD es).set (σ.length + n) (some (.ow m')) = δ ++ (tD es).set n (some (.ow m')) := by rw [a.l, List.set_append_right _ _ (by lia)]; simp
      rw [e3] at p q
      exact fin (p.pop a.l) (q.sub fun x h => own_sub a.l h)
end
end B
namespace B
open PySem L2
section
variable {K : PySem.W.Frag} {κ : Str → Addr} {ι ι1 ι2 fp : List Addr} {H H1 H2 : Hp} {σ : St} {δ δ1 δ2 : De} {G G1 G2 : List M} {es fs : List Ev} {vs ws : List V}
noncomputable def varF (i : Nat) : Mo Ev := fun δ G => match δ[i]? with
  | some (some (.im d)) => some (.v (.im d), δ, G)
  | some (some (.ow _)) => some (.s i, δ, G)
  | _ => none
theorem up_var {i : Nat} {Q : VK} (h : UpE K κ (varF i) σ H Q) : tVar i σ H Q := by
  obtain ⟨ι, δ, G, e, δ', G', s, eq, k⟩ := h
  unfold varF at eq
  split at eq
  · rename_i d hd
    cases eq
    obtain ⟨v, e1, r⟩ := s.get_im hd
    refine ⟨v, e1, k v ι H ⟨⟨s.len, s.push_im r, .cons (fun _ h => by cases h) .nil⟩, (Step.refl _ _ _).sub fun x h => ?_⟩⟩
    have h : x ∈ own (σ ++ [some v]) (δ ++ [some (.im d)]) ++ ι := h
    rw [own_im s.len] at h
    exact h
  · rename_i m hd
    cases eq
    obtain ⟨a, e1, r⟩ := s.get_ow hd
    have n := After.nil s
    exact ⟨_, e1, k _ ι H ⟨⟨s.len, n.ar.sr, .cons (fun j h => by cases h; exact e1) .nil⟩, n.st⟩⟩
  · cases eq
noncomputable def conF (d : I) : Mo Ev := rt (.v (.im d))
theorem up_con {v : V} {d : I} {Q : VK} (r : ∀ ι H, RpI K ι H v d) (h : UpE K κ (conF d) σ H Q) : tC v σ H Q := by
  obtain ⟨ι, δ, G, e, δ', G', s, eq, k⟩ := h
  cases eq
  have a := fin_im (After.nil s).ar (r ι H)
  exact k _ _ _ ⟨a.ar, (After.nil s).st.trans a.st⟩
noncomputable def bxE : Ev → Mo Ev
  | .v (.im d) => rt (.v (.im d))
  | .v (.ow m) => fun δ G => some (.v (.im (.ref G.length)), δ, G ++ [m])
  | .s i => fun δ G => match δ[i]? with
    | some (some (.ow m)) => some (.v (.im (.ref G.length)), δ.set i (some (.im (.ref G.length))), G ++ [m])
    | _ => none
noncomputable def mvE : Ev → Mo Ev
  | .v x => rt (.v x)
  | .s i => fun δ G => match δ[i]? with
    | some (some (.ow m)) => some (.v (.ow m), δ.set i none, G)
    | _ => none
noncomputable def boxF (f : Mo Ev) : Mo Ev := bd f bxE
noncomputable def movF (f : Mo Ev) : Mo Ev := bd f mvE
theorem after_mv {e e' : Ev} {δ' : De} {G' : List M} {v : V} (a : After K κ σ ι fp H [e] δ1 G1 [v] ι1 H1) (h : mvE e δ1 G1 = some (e', δ', G')) : After K κ σ ι fp H [e'] δ' G' [v] ι1 H1 ∧ ∃ x, e' = .v x := by
  cases e with
  | v x => cases h; exact ⟨a, _, rfl⟩
  | s i =>
    unfold mvE at h
    dsimp only at h
    split at h
    · rename_i m hm
      cases h
      have al := al_at (j := 0) a.ar.al rfl rfl
      obtain ⟨b, e1, r⟩ := a.ar.base.get_ow hm
      rw [al] at e1; cases e1
      obtain ⟨p, q⟩ := a.ar.base.take al hm
      refine ⟨⟨⟨by rw [List.length_set]; exact a.ar.l, p, .cons (fun _ h => by cases h) .nil⟩, ?_⟩, _, rfl⟩
      have st := a.st
      have e0 : own (σ ++ tS [.s i] [.ref b]) (δ1 ++ tD [.s i]) = own σ δ1 := by
        show own (σ ++ []) (δ1 ++ []) = _
        rw [List.append_nil, List.append_nil]
      rw [e0] at st
      exact st.trans q
    · cases h
theorem after_bx {e e' : Ev} {δ' : De} {G' : List M} {v : V} (a : After K κ σ ι fp H [e] δ1 G1 [v] ι1 H1) (h : bxE e δ1 G1 = some (e', δ', G')) : ∃ ι2, After K κ σ ι fp H [e'] δ' G' [v] ι2 H1 := by
  have go : ∀ {δ3 : De} {b : Addr} {m : M}, σ.length = δ3.length → After K κ σ ι fp H [.v (.ow m)] δ3 G1 [.ref b] ι1 H1 → After K κ σ ι fp H [.v (.im (.ref G1.length))] δ3 (G1 ++ [m]) [.ref b] (ι1 ++ [b]) H1 := fun {δ3 b m} l a => by
    obtain ⟨p, r, q⟩ := SR.box a.ar.sr l
    refine ⟨⟨l, p.push_im r, .cons (fun _ h => by cases h) .nil⟩, a.st.trans (q.sub fun x h => ?_)⟩
    have h : x ∈ own (σ ++ [some (.ref b)]) (δ3 ++ [some (.im (.ref G1.length))]) ++ (ι1 ++ [b]) := h
    rw [own_im l] at h
    exact h
  cases e with
  | v x =>
    cases x with
    | im d => cases h; exact ⟨_, a⟩
    | ow m =>
      cases h
      have r := tsd (paired_split a.ar.l a.ar.sr.sl).2 (j := 0) rfl rfl
      cases r
      exact ⟨_, go a.ar.l a⟩
  | s i =>
    unfold bxE at h
    dsimp only at h
    split at h
    · rename_i m hm
      cases h
      have al := al_at (j := 0) a.ar.al rfl rfl
      have hm' : mvE (.s i) δ1 G1 = some (.v (.ow m), δ1.set i none, G1) := by unfold mvE; dsimp only; rw [hm]
      obtain ⟨a', _⟩ := after_mv a hm'
      obtain ⟨b, e1, r⟩ := a.ar.base.get_ow hm
      rw [al] at e1; cases e1
      have c := go (by rw [List.length_set]; exact a.ar.l) a'
      -- the slot becomes the thing's number
      have hr : RpI K (ι1 ++ [b]) H1 (.ref b) (.ref G1.length) := c.ar.im (j := 0) rfl rfl
      have s0 := c.ar.base
      have l : σ.length = (δ1.set i (some (.im (.ref G1.length)))).length := by rw [List.length_set]; exact a.ar.l
      have eo : ∀ x, cnt x (own σ (δ1.set i (some (.im (.ref G1.length))))) = cnt x (own σ (δ1.set i none)) := fun x => by
        have h1 := cnt_own_setD (y := some (.im (.ref G1.length))) x al hm
        have h2 := cnt_own_setD (y := none) x al hm
        rw [own1_im] at h1; rw [own1_no] at h2
        lia
      have sr : SR K κ (ι1 ++ [b]) H1 σ (δ1.set i (some (.im (.ref G1.length)))) (G1 ++ [m]) := by
        refine ⟨?_, s0.gs, fun x => by rw [eo]; exact s0.nd x⟩
        have := paired_setR (y := some (.im (.ref G1.length))) s0.sl al (.im hr)
        rw [List.set_set] at this
        exact this
      refine ⟨_, ⟨l, sr.push_im hr, .cons (fun _ h => by cases h) .nil⟩, c.st.sub fun x h => ?_⟩
      have h : x ∈ own (σ ++ [some (.ref b)]) (δ1.set i (some (.im (.ref G1.length))) ++ [some (.im (.ref G1.length))]) ++ (ι1 ++ [b]) := h
      rw [own_im l] at h
      show x ∈ own (σ ++ [some (.ref b)]) (δ1.set i none ++ [some (.im (.ref G1.length))]) ++ (ι1 ++ [b])
      rw [own_im (by rw [List.length_set]; exact a.ar.l)]
      simp only [List.mem_append] at h ⊢
      rcases h with h | h
      · left; rw [cnt_pos] at h ⊢; rw [← eo]; exact h
      · exact .inr h
    · cases h
theorem up_box {f : Mo Ev} {Q : VK} (h : UpE K κ (boxF f) σ H Q) : UpE K κ f σ H Q := by
  obtain ⟨ι, δ, G, e, δ', G', s, eq, k⟩ := h
  obtain ⟨x, δ1, G1, e1, eq⟩ := bd_inv eq
  refine ⟨ι, δ, G, x, δ1, G1, s, e1, fun v ι1 H1 a => ?_⟩
  obtain ⟨ι2, b⟩ := after_bx a eq
  exact k _ _ _ b
theorem up_mov {f : Mo Ev} {Q : VK} (h : UpE K κ (movF f) σ H Q) : UpE K κ f σ H Q := by
  obtain ⟨ι, δ, G, e, δ', G', s, eq, k⟩ := h
  obtain ⟨x, δ1, G1, e1, eq⟩ := bd_inv eq
  refine ⟨ι, δ, G, x, δ1, G1, s, e1, fun v ι1 H1 a => ?_⟩
  obtain ⟨b, _⟩ := after_mv a eq
  exact k _ _ _ b
noncomputable def imE : Ev → Option I
  | .v (.im d) => some d
  | _ => none
noncomputable def imA : List Ev → Option (List I)
  | [] => some []
  | e :: es => match imE e, imA es with
    | some d, some ds => some (d :: ds)
    | _, _ => none
theorem args_im : ∀ {es : List Ev} {vs : List V} {ds : List I}, Paired (RpE K κ ι H) (tS es vs) (tD es) → es.length = vs.length → imA es = some ds → RpIs K ι H vs ds
  | [], [], _, _, _, h => by cases h; exact .nil
  | [], _ :: _, _, _, l, _ => by cases l
  | _ :: _, [], _, _, l, _ => by cases l
  | e :: es, v :: vs, ds, p, l, h => by
    unfold imA at h
    split at h
    · rename_i d ds' h1 h2
      cases h
      cases e with
      | s i => cases h1
      | v x =>
        cases x with
        | ow m => cases h1
        | im d' =>
          cases h1
          cases p with
          | cons q p =>
            cases q with
            | im r => exact .cons r (args_im p (by simpa using l) h2)
    · cases h
theorem Args.ims {ds : List I} (a : Args K κ ι H σ δ G es vs) (h : imA es = some ds) : RpIs K ι H vs ds := args_im (paired_split a.l a.sr.sl).2 a.len h
noncomputable def tupP : List Ev → Mo Ev := fun es δ G => match imA es with
  | some ds => if ds.length ≤ 1000 then some (.v (.im (.tup ds)), δ, G) else none
  | none => none
noncomputable def lstP : List Ev → Mo Ev := fun es δ G => match imA es with
  | some ds => if ds.length ≤ 1000 then some (.v (.ow (.lst ds)), δ, G) else none
  | none => none
theorem sl1000 : 1000 ≤ sizeLine := by decide
theorem prim_tup : Prim K κ (fun vs H Q => vs.length ≤ sizeLine ∧ ∀ p, H p = none → Q (.ref p) (upd H p (.tup vs))) tupP := by
  intro ι H σ δ G es vs e δ' G' Q a h k
  unfold tupP at h
  split at h
  · rename_i ds hd
    split at h
    · cases h
      have r := a.ims hd
      exact ⟨by rw [r.len]; exact Nat.le_trans (by assumption) sl1000, fun p hp => k _ _ _ (fin_tup a hp r)⟩
    · cases h
  · cases h
theorem prim_lst : Prim K κ (fun vs H Q => vs.length ≤ sizeLine ∧ ∀ p, H p = none → Q (.ref p) (upd H p (.lst vs))) lstP := by
  intro ι H σ δ G es vs e δ' G' Q a h k
  unfold lstP at h
  split at h
  · rename_i ds hd
    split at h
    · cases h
      have r := a.ims hd
      exact ⟨by rw [r.len]; exact Nat.le_trans (by assumption) sl1000, fun p hp => k _ _ _ (fin_lst a hp r)⟩
    · cases h
  · cases h
noncomputable def UpT (K : PySem.W.Frag) (κ : Str → Addr) (f : Mo Bool) : TT := fun σ H Q => ∃ ι δ G b δ' G', SR K κ ι H σ δ G ∧ f δ G = some (b, δ', G') ∧ ∀ ι' H', SR K κ ι' H' σ δ' G' → Step ι (own σ δ ++ ι) H ι' (own σ δ' ++ ι') H' → Q b H'
noncomputable def blE : Ev → Mo Bool
  | .v (.im (.bl b)) => rt b
  | _ => fun _ _ => none
noncomputable def tstF (f : Mo Ev) : Mo Bool := bd f blE
theorem After.drop {e : Ev} {v : V} (a : After K κ σ ι fp H [e] δ1 G1 [v] ι1 H1) : SR K κ ι1 H1 σ δ1 G1 ∧ Step ι fp H ι1 (own σ δ1 ++ ι1) H1 := ⟨a.ar.base, a.st.sub fun x h => own_sub a.ar.l h⟩
theorem up_test {f : Mo Ev} {Q : Bool → Hp → Prop} (h : UpT K κ (tstF f) σ H Q) : tTest (UpE K κ f) σ H Q := by
  obtain ⟨ι, δ, G, b, δ', G', s, eq, k⟩ := h
  obtain ⟨x, δ1, G1, e1, eq⟩ := bd_inv eq
  refine ⟨ι, δ, G, x, δ1, G1, s, e1, fun v ι1 H1 a => ?_⟩
  unfold blE at eq
  split at eq
  · rename_i b'
    cases eq
    have r := a.ar.im (j := 0) rfl rfl
    cases r
    obtain ⟨p, q⟩ := a.drop
    exact ⟨_, rfl, k _ _ p q⟩
  · cases eq
noncomputable def andF (c d : Mo Bool) : Mo Bool := bd c fun b => if b then d else rt false
noncomputable def orF (c d : Mo Bool) : Mo Bool := bd c fun b => if b then rt true else d
noncomputable def notF (c : Mo Bool) : Mo Bool := bd c fun b => rt (!b)
theorem UpT.go {f : Mo Bool} {Q Q' : Bool → Hp → Prop} {ι : List Addr} {fp : List Addr} (s : SR K κ ι1 H1 σ δ1 G1) (st : Step ι fp H ι1 (own σ δ1 ++ ι1) H1) {b : Bool} (e : f δ1 G1 = some (b, δ2, G2))
    (k : ∀ ι' H', SR K κ ι' H' σ δ2 G2 → Step ι fp H ι' (own σ δ2 ++ ι') H' → Q b H') : UpT K κ f σ H1 Q := ⟨ι1, δ1, G1, b, δ2, G2, s, e, fun ι' H' s' st' => k ι' H' s' (st.trans st')⟩
theorem up_and {c d : Mo Bool} {Q : Bool → Hp → Prop} (h : UpT K κ (andF c d) σ H Q) : tAnd (UpT K κ c) (UpT K κ d) σ H Q := by
  obtain ⟨ι, δ, G, b, δ', G', s, eq, k⟩ := h
  obtain ⟨x, δ1, G1, e1, eq⟩ := bd_inv eq
  refine ⟨ι, δ, G, x, δ1, G1, s, e1, fun ι1 H1 s1 st => ?_⟩
  cases x with
  | true => rw [if_pos rfl] at eq ⊢; exact UpT.go (Q' := Q) s1 st eq k
  | false => rw [if_neg Bool.false_ne_true] at eq ⊢; cases eq; exact k _ _ s1 st
theorem up_or {c d : Mo Bool} {Q : Bool → Hp → Prop} (h : UpT K κ (orF c d) σ H Q) : tOr (UpT K κ c) (UpT K κ d) σ H Q := by
  obtain ⟨ι, δ, G, b, δ', G', s, eq, k⟩ := h
  obtain ⟨x, δ1, G1, e1, eq⟩ := bd_inv eq
  refine ⟨ι, δ, G, x, δ1, G1, s, e1, fun ι1 H1 s1 st => ?_⟩
  cases x with
  | true => rw [if_pos rfl] at eq ⊢; cases eq; exact k _ _ s1 st
  | false => rw [if_neg Bool.false_ne_true] at eq ⊢; exact UpT.go (Q' := Q) s1 st eq k
theorem up_not {c : Mo Bool} {Q : Bool → Hp → Prop} (h : UpT K κ (notF c) σ H Q) : tNot (UpT K κ c) σ H Q := by
  obtain ⟨ι, δ, G, b, δ', G', s, eq, k⟩ := h
  obtain ⟨x, δ1, G1, e1, eq⟩ := bd_inv eq
  cases eq
  exact ⟨ι, δ, G, x, _, _, s, e1, fun ι1 H1 s1 st => k _ _ s1 st⟩
noncomputable def ifE (c : Mo Bool) (fa fb : Mo Ev) : Mo Ev := bd c fun b => if b then fa else fb
theorem UpE.go {f : Mo Ev} {Q : VK} {ι : List Addr} {fp : List Addr} {e : Ev} (s : SR K κ ι1 H1 σ δ1 G1) (st : Step ι fp H ι1 (own σ δ1 ++ ι1) H1) (eq : f δ1 G1 = some (e, δ2, G2))
    (k : ∀ v ι' H', After K κ σ ι fp H [e] δ2 G2 [v] ι' H' → Q v H') : UpE K κ f σ H1 Q := ⟨ι1, δ1, G1, e, δ2, G2, s, eq, fun v ι' H' a => k v ι' H' ⟨a.ar, st.trans a.st⟩⟩
inductive Fl where
  | nx (δ : De) (G : List M) | rt (x : Vl) (G : List M) | bk (δ : De) (G : List M) | ct (δ : De) (G : List M)
noncomputable abbrev SF := De → List M → Option Fl
noncomputable def EndOk (K : PySem.W.Frag) (κ : Str → Addr) (ι fp : List Addr) (H : Hp) (D : Ends) : Fl → Prop
  | .nx δ' G' => ∀ σ' ι' H', SR K κ ι' H' σ' δ' G' → Step ι fp H ι' (own σ' δ' ++ ι') H' → D.nx σ' H'
  | .bk δ' G' => ∀ σ' ι' H', SR K κ ι' H' σ' δ' G' → Step ι fp H ι' (own σ' δ' ++ ι') H' → D.bk σ' H'
  | .ct δ' G' => ∀ σ' ι' H', SR K κ ι' H' σ' δ' G' → Step ι fp H ι' (own σ' δ' ++ ι') H' → D.ct σ' H'
  | .rt x G' => ∀ v ι' H', SR K κ ι' H' [some v] [some x] G' → Step ι fp H ι' (own [some v] [some x] ++ ι') H' → D.rt v H'
noncomputable def UpS (K : PySem.W.Frag) (κ : Str → Addr) (f : SF) : TS := fun D σ H => ∃ ι δ G fl, SR K κ ι H σ δ G ∧ f δ G = some fl ∧ EndOk K κ ι (own σ δ ++ ι) H D fl
theorem EndOk.step {D : Ends} {fl : Fl} {fq : List Addr} (st : Step ι fp H ι1 fq H1) (h : EndOk K κ ι fp H D fl) : EndOk K κ ι1 fq H1 D fl := by
  cases fl with
  | nx δ' G' => exact fun σ' ι' H' s t => h σ' ι' H' s (st.trans t)
  | bk δ' G' => exact fun σ' ι' H' s t => h σ' ι' H' s (st.trans t)
  | ct δ' G' => exact fun σ' ι' H' s t => h σ' ι' H' s (st.trans t)
  | rt x G' => exact fun v ι' H' s t => h v ι' H' s (st.trans t)
theorem UpS.of {f : SF} {D : Ends} {fl : Fl} (s : SR K κ ι1 H1 σ δ1 G1) (st : Step ι fp H ι1 (own σ δ1 ++ ι1) H1) (eq : f δ1 G1 = some fl) (k : EndOk K κ ι fp H D fl) : UpS K κ f D σ H1 := ⟨ι1, δ1, G1, fl, s, eq, k.step st⟩
noncomputable def skipF : SF := fun δ G => some (.nx δ G)
noncomputable def seqF (a b : SF) : SF := fun δ G => match a δ G with
  | some (.nx δ1 G1) => b δ1 G1
  | r => r
theorem up_skip {D : Ends} (h : UpS K κ skipF D σ H) : tNext D σ H := by
  obtain ⟨ι, δ, G, fl, s, eq, k⟩ := h
  cases eq
  exact k _ _ _ s (Step.refl _ _ _)
theorem up_seq {a b : SF} {D : Ends} (h : UpS K κ (seqF a b) D σ H) : tSeq (UpS K κ a) (UpS K κ b) D σ H := by
  obtain ⟨ι, δ, G, fl, s, eq, k⟩ := h
  unfold seqF at eq
  split at eq
  · rename_i δ1 G1 e1
    exact ⟨ι, δ, G, _, s, e1, fun σ' ι' H' s' t => UpS.of s' t eq k⟩
  · rename_i r hn
    cases fl with
    | nx δ' G' => exact absurd eq (hn δ' G')
    | bk δ' G' => exact ⟨ι, δ, G, _, s, eq, k⟩
    | ct δ' G' => exact ⟨ι, δ, G, _, s, eq, k⟩
    | rt x G' => exact ⟨ι, δ, G, _, s, eq, k⟩
noncomputable def iteF' (c : Mo Bool) (a b : SF) : SF := fun δ G => match c δ G with
  | some (true, δ1, G1) => a δ1 G1
  | some (false, δ1, G1) => b δ1 G1
  | none => none
theorem up_if {c : Mo Bool} {a b : SF} {D : Ends} (h : UpS K κ (iteF' c a b) D σ H) : tIfS (UpT K κ c) (UpS K κ a) (UpS K κ b) D σ H := by
  obtain ⟨ι, δ, G, fl, s, eq, k⟩ := h
  unfold iteF' at eq
  split at eq
  · rename_i δ1 G1 e1
    exact ⟨ι, δ, G, true, δ1, G1, s, e1, fun ι' H' s' t => by dsimp only; rw [if_pos rfl]; exact UpS.of s' t eq k⟩
  · rename_i δ1 G1 e1
    exact ⟨ι, δ, G, false, δ1, G1, s, e1, fun ι' H' s' t => by dsimp only; rw [if_neg Bool.false_ne_true]; exact UpS.of s' t eq k⟩
  · cases eq
noncomputable def dropF (f : Mo Ev) : SF := fun δ G => match f δ G with
  | some (_, δ1, G1) => some (.nx δ1 G1)
  | none => none
theorem up_drop {f : Mo Ev} {D : Ends} (h : UpS K κ (dropF f) D σ H) : tDrop (UpE K κ f) D σ H := by
  obtain ⟨ι, δ, G, fl, s, eq, k⟩ := h
  unfold dropF at eq
  split at eq
  · rename_i e δ1 G1 e1
    cases eq
    refine ⟨ι, δ, G, e, δ1, G1, s, e1, fun v ι' H' a => ?_⟩
    obtain ⟨p, q⟩ := a.drop
    exact k _ _ _ p q
  · cases eq
/-- the last temporary alone -/
theorem SR.last {v : V} {x : Vl} (h : SR K κ ι H (σ ++ [some v]) (δ ++ [some x]) G) (l : σ.length = δ.length) : SR K κ ι H [some v] [some x] G ∧ ∀ a, a ∈ own [some v] [some x] ++ ι → a ∈ own (σ ++ [some v]) (δ ++ [some x]) ++ ι := by
  obtain ⟨p, q⟩ := paired_split l h.sl
  refine ⟨⟨q, h.gs, fun a => ?_⟩, fun a ha => ?_⟩
  · have := h.nd a
    rw [own_app _ _ l] at this
    simp only [cnt, List.count_append] at this ⊢
    lia
  · rw [own_app _ _ l]
    simp only [List.mem_append] at ha ⊢
    rcases ha with ha | ha
    · exact .inl (.inr ha)
    · exact .inr ha
noncomputable def retF (f : Mo Ev) : SF := fun δ G => match movF f δ G with
  | some (.v x, _, G1) => some (.rt x G1)
  | _ => none
theorem up_ret {f : Mo Ev} {D : Ends} (h : UpS K κ (retF f) D σ H) : tRet (UpE K κ f) D σ H := by
  obtain ⟨ι, δ, G, fl, s, eq, k⟩ := h
  unfold retF at eq
  split at eq
  · rename_i x δ1 G1 e1
    cases eq
    refine up_mov ⟨ι, δ, G, _, δ1, G1, s, e1, fun v ι' H' a => ?_⟩
    obtain ⟨p, q⟩ := SR.last a.ar.sr a.ar.l
    exact k _ _ _ p (a.st.sub q)
  · cases eq
noncomputable def retN : SF := fun _ G => some (.rt (.im .non) G)
/-- a value goes into names -/
noncomputable abbrev GF := Vl → De → List M → Option (De × List M)
noncomputable def UpG (K : PySem.W.Frag) (κ : Str → Addr) (g : GF) : TG := fun v σ H Q => ∃ ι δ G x δ' G', σ.length = δ.length ∧ SR K κ ι H (σ ++ [some v]) (δ ++ [some x]) G ∧ g x δ G = some (δ', G') ∧
  ∀ σ' ι' H', SR K κ ι' H' σ' δ' G' → Step ι (own (σ ++ [some v]) (δ ++ [some x]) ++ ι) H ι' (own σ' δ' ++ ι') H' → Q σ' H'
noncomputable def gNm (i : Nat) : GF := fun x δ G => some (δ.set i (some x), G)
theorem up_gnm {i : Nat} {v : V} {Q : St → Hp → Prop} (h : UpG K κ (gNm i) v σ H Q) : gName i v σ H Q := by
  obtain ⟨ι, δ, G, x, δ', G', l, s, eq, k⟩ := h
  cases eq
  exact k _ _ _ (s.store l) ((Step.refl _ _ _).sub fun a ha => own_store l ha)
noncomputable def setIs : List Nat → List I → De → Option De
  | [], [], δ => some δ
  | i :: is, d :: ds, δ => setIs is ds (δ.set i (some (.im d)))
  | _, _, _ => none
/-- names, in a row -/
noncomputable def gRow (is : List Nat) : TGs := is.foldr (fun i t => gCons (gName i) t) gNil
theorem row_ok : ∀ {is : List Nat} {ds : List I} {vs : List V} {σ : St} {δ δ' : De} {Q : St → Hp → Prop}, RpIs K ι H vs ds → setIs is ds δ = some δ' → SR K κ ι H σ δ G →
    (∀ σ', SR K κ ι H σ' δ' G → (∀ a, a ∈ own σ' δ' → a ∈ own σ δ) → Q σ' H) → gRow is vs σ H Q
  | [], [], _, _, _, _, _, r, e, s, k => by
    cases r; cases e
    exact ⟨rfl, k _ s fun _ h => h⟩
  | i :: is, d :: ds, _, σ, δ, δ', Q, .cons r rs, e, s, k => by
    refine ⟨_, _, rfl, ?_⟩
    have s1 := (s.push_im r).store (i := i) s.len
    refine row_ok (is := is) rs e s1 fun σ' s' sub => k σ' s' fun a ha => ?_
    have h1 := sub a ha
    have : a ∈ own (σ ++ [some _]) (δ ++ [some (.im d)]) ++ [] := own_store (i := i) s.len (List.mem_append_left _ h1)
    rw [own_im s.len, List.append_nil] at this
    exact this
  | [], _ :: _, _, _, _, _, _, _, e, _, _ => by cases e
  | _ :: _, [], _, _, _, _, _, _, e, _, _ => by cases e
noncomputable def asgF (f : Mo Ev) (g : GF) : SF := fun δ G => match movF f δ G with
  | some (.v x, δ1, G1) => match g x δ1 G1 with
    | some (δ2, G2) => some (.nx δ2 G2)
    | none => none
  | _ => none
theorem up_asg {f : Mo Ev} {g : GF} {D : Ends} (h : UpS K κ (asgF f g) D σ H) : tAsg (UpE K κ f) (UpG K κ g) D σ H := by
  obtain ⟨ι, δ, G, fl, s, eq, k⟩ := h
  unfold asgF at eq
  split at eq
  · rename_i x δ1 G1 e1
    split at eq
    · rename_i δ2 G2 e2
      cases eq
      refine up_mov ⟨ι, δ, G, _, δ1, G1, s, e1, fun v ι' H' a => ?_⟩
      exact ⟨ι', δ1, G1, x, δ2, G2, a.ar.l, a.ar.sr, e2, fun σ' ι2 H2 s2 st => k _ _ _ s2 (a.st.trans st)⟩
    · cases eq
  · cases eq
end
end B
namespace B
open PySem L2
section
variable {K : PySem.W.Frag} {κ : Str → Addr} {ι ι1 ι2 fp : List Addr} {H H1 H2 : Hp} {σ : St} {δ δ1 δ2 : De} {G G1 G2 : List M} {es fs : List Ev} {vs ws : List V}
/-- at most n turns -/
noncomputable def whN (c : Mo Bool) (b : SF) : Nat → SF
  | 0, _, _ => none
  | n + 1, δ, G => match c δ G with
    | some (true, δ1, G1) => match b δ1 G1 with
      | some (.nx δ2 G2) => whN c b n δ2 G2
      | some (.ct δ2 G2) => whN c b n δ2 G2
      | some (.bk δ2 G2) => some (.nx δ2 G2)
      | some (.rt x G2) => some (.rt x G2)
      | none => none
    | some (false, δ1, G1) => some (.nx δ1 G1)
    | none => none
theorem whN_mono {c : Mo Bool} {b : SF} : ∀ {n : Nat} {δ : De} {G : List M} {fl : Fl}, whN c b n δ G = some fl → whN c b (n + 1) δ G = some fl
  | 0, _, _, _, h => by cases h
  | n + 1, δ, G, fl, h => by
    unfold whN at h ⊢
    cases e : c δ G with
    | none => rw [e] at h; cases h
    | some r =>
      obtain ⟨t, δ1, G1⟩ := r
      rw [e] at h
      cases t with
      | false => exact h
      | true =>
        cases e2 : b δ1 G1 with
        | none => dsimp only at h; rw [e2] at h; cases h
        | some fl2 =>
          dsimp only at h
          rw [e2] at h
          dsimp only
          rw [e2]
          cases fl2 with
          | nx δ2 G2 => exact whN_mono h
          | ct δ2 G2 => exact whN_mono h
          | bk δ2 G2 => exact h
          | rt x G2 => exact h
theorem whN_le {c : Mo Bool} {b : SF} {δ : De} {G : List M} {fl : Fl} {n m : Nat} (h : whN c b n δ G = some fl) (l : n ≤ m) : whN c b m δ G = some fl := by
  induction l with
  | refl => exact h
  | step _ ih => exact whN_mono ih
open Classical in
noncomputable def whF (c : Mo Bool) (b : SF) : SF := fun δ G => if h : ∃ n fl, whN c b n δ G = some fl then some (choose (choose_spec h)) else none
theorem whF_of {c : Mo Bool} {b : SF} {δ : De} {G : List M} {fl : Fl} {n : Nat} (h : whN c b n δ G = some fl) : whF c b δ G = some fl := by
  have ex : ∃ n fl, whN c b n δ G = some fl := ⟨n, fl, h⟩
  unfold whF
  rw [dif_pos ex]
  have q := Classical.choose_spec (Classical.choose_spec ex)
  have h1 := whN_le h (Nat.le_max_left n (Classical.choose ex))
  have h2 := whN_le q (Nat.le_max_right n (Classical.choose ex))
  rw [h1] at h2
  exact h2.symm
theorem whF_inv {c : Mo Bool} {b : SF} {δ : De} {G : List M} {fl : Fl} (h : whF c b δ G = some fl) : ∃ n, whN c b n δ G = some fl := by
  unfold whF at h
  split at h
  · rename_i ex
    have q := Classical.choose_spec (Classical.choose_spec ex)
    cases h
    exact ⟨_, q⟩
  · cases h
/-- a turn that goes on -/
theorem whF_next {c : Mo Bool} {b : SF} {δ δ1 δ2 : De} {G G1 G2 : List M} (h1 : c δ G = some (true, δ1, G1)) (h2 : b δ1 G1 = some (.nx δ2 G2)) : whF c b δ G = whF c b δ2 G2 := by
  cases e : whF c b δ2 G2 with
  | some fl =>
    obtain ⟨n, hn⟩ := whF_inv e
    refine whF_of (n := n + 1) ?_
    unfold whN
    rw [h1]; dsimp only; rw [h2]; exact hn
  | none =>
    cases e' : whF c b δ G with
    | none => rfl
    | some fl =>
      obtain ⟨n, hn⟩ := whF_inv e'
      cases n with
      | zero => cases hn
      | succ n =>
        unfold whN at hn
        rw [h1] at hn; dsimp only at hn; rw [h2] at hn
        have := whF_of hn
        rw [e] at this; cases this
theorem whF_done {c : Mo Bool} {b : SF} {δ δ1 : De} {G G1 : List M} (h1 : c δ G = some (false, δ1, G1)) : whF c b δ G = some (.nx δ1 G1) := by
  refine whF_of (n := 1) ?_
  unfold whN
  rw [h1]
theorem up_while {c : Mo Bool} {b : SF} {D : Ends} (h : UpS K κ (whF c b) D σ H) : tWhile (UpT K κ c) (UpS K κ b) D σ H := by
  obtain ⟨ι, δ, G, fl, s, eq, k⟩ := h
  obtain ⟨n, hn⟩ := whF_inv eq
  refine ⟨fun m σ' H' => ∃ ι' δ' G', SR K κ ι' H' σ' δ' G' ∧ Step ι (own σ δ ++ ι) H ι' (own σ' δ' ++ ι') H' ∧ whN c b m δ' G' = some fl, ⟨n, ι, δ, G, s, Step.refl _ _ _, hn⟩, ?_⟩
  rintro m σ' H' ⟨ι', δ', G', s', st, e⟩
  cases m with
  | zero => cases e
  | succ m =>
    unfold whN at e
    split at e
    · rename_i δ1 G1 e1
      refine ⟨ι', δ', G', true, δ1, G1, s', e1, fun ι1 H1 s1 st1 => ?_⟩
      dsimp only
      rw [if_pos rfl]
      refine ⟨fun σ2 H2 => ∃ ι2 δ2 G2, SR K κ ι2 H2 σ2 δ2 G2 ∧ Step ι (own σ δ ++ ι) H ι2 (own σ2 δ2 ++ ι2) H2 ∧ whN c b m δ2 G2 = some fl, fun σ2 H2 q => ⟨m, Nat.lt_succ_self _, q⟩, ?_⟩
      split at e
      · rename_i δ2 G2 e2
        exact ⟨ι1, δ1, G1, _, s1, e2, fun σ2 ι2 H2 s2 st2 => ⟨ι2, δ2, G2, s2, (st.trans st1).trans st2, e⟩⟩
      · rename_i δ2 G2 e2
        exact ⟨ι1, δ1, G1, _, s1, e2, fun σ2 ι2 H2 s2 st2 => ⟨ι2, δ2, G2, s2, (st.trans st1).trans st2, e⟩⟩
      · rename_i δ2 G2 e2
        cases e
        exact ⟨ι1, δ1, G1, _, s1, e2, fun σ2 ι2 H2 s2 st2 => k _ _ _ s2 ((st.trans st1).trans st2)⟩
      · rename_i x G2 e2
        cases e
        exact ⟨ι1, δ1, G1, _, s1, e2, fun v ι2 H2 s2 st2 => k _ _ _ s2 ((st.trans st1).trans st2)⟩
      · cases e
    · rename_i δ1 G1 e1
      cases e
      refine ⟨ι', δ', G', false, δ1, G1, s', e1, fun ι1 H1 s1 st1 => ?_⟩
      dsimp only
      rw [if_neg Bool.false_ne_true]
      exact k _ _ _ s1 (st.trans st1)
    · cases e
/-- what is walked: its items by their places in the state; how many; what is laid for a turn stays pure -/
structure Wk where
  n : Nat
  at_ : Nat → De → List M → Option I
  fin : De → List M → Bool
/-- an iterator is told by w: at turn i of n its next item is w.at_ i; the temporaries of what is walked lie beside the slots -/
structure Walks (K : PySem.W.Frag) (κ : Str → Addr) (J : It) (τ : St) (θ : De) (w : Wk) : Prop where
  go : ∀ {i : Nat} {d : I} {ι : List Addr} {H : Hp} {σ : St} {δ : De} {G : List M}, i < w.n → w.at_ i δ G = some d → σ.length = δ.length → SR K κ ι H (σ ++ τ) (δ ++ θ) G → J.go i H ∧ ∀ x H', J.yld i H x H' → Same H H' ∧ RpI K ι H' x d
  stop : ∀ {ι : List Addr} {H : Hp} {σ : St} {δ : De} {G : List M}, w.fin δ G = true → σ.length = δ.length → SR K κ ι H (σ ++ τ) (δ ++ θ) G → J.stop w.n H
/-- the turns from i on, r of them -/
noncomputable def fTurns (w : Wk) (g : GF) (b : SF) : Nat → Nat → SF
  | i, 0, δ, G => if w.fin δ G then some (.nx δ G) else none
  | i, r + 1, δ, G => match w.at_ i δ G with
    | some d => match g (.im d) δ G with
      | some (δ1, G1) => match b δ1 G1 with
        | some (.nx δ2 G2) => fTurns w g b (i + 1) r δ2 G2
        | some (.ct δ2 G2) => fTurns w g b (i + 1) r δ2 G2
        | some (.bk δ2 G2) => some (.nx δ2 G2)
        | some (.rt x G2) => some (.rt x G2)
        | none => none
      | none => none
    | none => none
/-- an iterable: how it comes to be walked -/
noncomputable abbrev IF := De → List M → Option (Wk × List Ev × De × List M)
noncomputable def UpI (K : PySem.W.Frag) (κ : Str → Addr) (f : IF) : TI := fun σ H R => ∃ ι δ G w es δ' G', SR K κ ι H σ δ G ∧ f δ G = some (w, es, δ', G') ∧
  ∀ J vs ι' H', After K κ σ ι (own σ δ ++ ι) H es δ' G' vs ι' H' → Walks K κ J (tS es vs) (tD es) w → R J H'
noncomputable def forF (f : IF) (g : GF) (b : SF) : SF := fun δ G => match f δ G with
  | some (w, _, δ1, G1) => fTurns w g b 0 w.n δ1 G1
  | none => none
theorem up_for {f : IF} {g : GF} {b : SF} {D : Ends} (h : UpS K κ (forF f g b) D σ H) : tFor (UpI K κ f) (UpG K κ g) (UpS K κ b) D σ H := by
  obtain ⟨ι, δ, G, fl, s, eq, k⟩ := h
  unfold forF at eq
  split at eq
  · rename_i w es δ1 G1 e1
    refine ⟨ι, δ, G, w, es, δ1, G1, s, e1, fun J vs ι1 H1 a wk => ?_⟩
    refine ⟨fun i m σ' H' => i + m = w.n ∧ ∃ ι' δ' G', σ'.length = δ'.length ∧ SR K κ ι' H' (σ' ++ tS es vs) (δ' ++ tD es) G' ∧ Step ι (own σ δ ++ ι) H ι' (own (σ' ++ tS es vs) (δ' ++ tD es) ++ ι') H' ∧ fTurns w g b i m δ' G' = some fl,
      ⟨w.n, by lia, ι1, δ1, G1, a.ar.l, a.ar.sr, a.st, eq⟩, ?_⟩
    rintro i m σ' H' ⟨him, ι', δ', G', l, s', st, e⟩
    have sub : ∀ a, a ∈ own σ' δ' ++ ι' → a ∈ own (σ' ++ tS es vs) (δ' ++ tD es) ++ ι' := fun a ha => own_sub l ha
    cases m with
    | zero =>
      have hi : i = w.n := by lia
      subst hi
      unfold fTurns at e
      split at e
      · rename_i hf
        cases e
        exact .inl ⟨wk.stop hf l s', k _ _ _ (s'.pop l) (st.sub sub)⟩
      · cases e
    | succ m =>
      unfold fTurns at e
      split at e
      · rename_i d hd
        obtain ⟨go, yl⟩ := wk.go (by lia) hd l s'
        refine .inr ⟨go, fun σ2 H2 => ∃ ι2 δ2 G2, σ2.length = δ2.length ∧ SR K κ ι2 H2 (σ2 ++ tS es vs) (δ2 ++ tD es) G2 ∧ Step ι (own σ δ ++ ι) H ι2 (own (σ2 ++ tS es vs) (δ2 ++ tD es) ++ ι2) H2 ∧ fTurns w g b (i + 1) m δ2 G2 = some fl,
          fun σ2 H2 q => ⟨m, Nat.lt_succ_self _, by lia, q⟩, fun x H3 hy => ?_⟩
        obtain ⟨sm, rx⟩ := yl x H3 hy
        have s3 := s'.same sm
        have st3 := st.trans (Step.same (ι := ι') (fp := own (σ' ++ tS es vs) (δ' ++ tD es) ++ ι') sm)
        split at e
        · rename_i δ4 G4 e4
          have p := (s3.pop l).push_im rx
          -- behind the target
          refine ⟨ι', δ', G', .im d, δ4, G4, l, p, e4, fun σ4 ι4 H4 s4 st4 => ?_⟩
          rw [own_im l] at st4
          -- the temporaries lie beside it
          have jn : ∀ {σ5 : St} {δ5 : De} {G5 : List M} {ι5 : List Addr} {H5 : Hp}, SR K κ ι5 H5 σ5 δ5 G5 → Step ι4 (own σ4 δ4 ++ ι4) H4 ι5 (own σ5 δ5 ++ ι5) H5 →
              SR K κ ι5 H5 (σ5 ++ tS es vs) (δ5 ++ tD es) G5 ∧ Step ι (own σ δ ++ ι) H ι5 (own (σ5 ++ tS es vs) (δ5 ++ tD es) ++ ι5) H5 := fun {σ5 δ5 G5 ι5 H5} s5 st5 => by
            have j := SR.join (τ2 := []) (θ2 := []) (σ := σ5) (δ2 := δ5) (ι2 := ι5) (H2 := H5) (G2 := G5) s3 l (by rw [List.append_nil, List.append_nil]; exact s5) s5.len (by rw [List.append_nil, List.append_nil]; exact st4.trans st5)
            rw [List.append_nil, List.append_nil] at j
            exact ⟨j.1, st3.trans j.2⟩
          split at e
          · rename_i δ5 G5 e5
            exact ⟨ι4, δ4, G4, _, s4, e5, fun σ5 ι5 H5 s5 st5 => ⟨ι5, δ5, G5, s5.len, (jn s5 st5).1, (jn s5 st5).2, e⟩⟩
          · rename_i δ5 G5 e5
            exact ⟨ι4, δ4, G4, _, s4, e5, fun σ5 ι5 H5 s5 st5 => ⟨ι5, δ5, G5, s5.len, (jn s5 st5).1, (jn s5 st5).2, e⟩⟩
          · rename_i δ5 G5 e5
            cases e
            exact ⟨ι4, δ4, G4, _, s4, e5, fun σ5 ι5 H5 s5 st5 => k _ _ _ s5 ((jn s5 st5).2.sub fun a ha => own_sub s5.len ha)⟩
          · rename_i x5 G5 e5
            cases e
            refine ⟨ι4, δ4, G4, _, s4, e5, fun v ι5 H5 s5 st5 => k _ _ _ s5 ((jn s5 st5).2.sub fun a ha => own_sub s5.len ha)⟩
          · cases e
        · cases e
      · cases e
  · cases eq
end
end B
namespace B
open PySem L2
section
variable {K : PySem.W.Frag} {κ : Str → Addr} {ι ι1 ι2 fp : List Addr} {H H1 H2 : Hp} {σ τ : St} {δ δ1 δ2 θ : De} {G G1 G2 : List M} {es fs : List Ev} {vs ws : List V}
theorem own_swap {a : Addr} (l : σ.length = δ.length) (l2 : τ.length = θ.length) : cnt a (own (τ ++ σ) (θ ++ δ)) = cnt a (own (σ ++ τ) (δ ++ θ)) := by
  rw [own_app _ _ l, own_app _ _ l2]
  simp only [cnt, List.count_append]
  lia
theorem SR.swap (h : SR K κ ι H (σ ++ τ) (δ ++ θ) G) (l : σ.length = δ.length) : SR K κ ι H (τ ++ σ) (θ ++ δ) G := by
  obtain ⟨p, q⟩ := paired_split l h.sl
  exact ⟨paired_app q p, h.gs, fun a => by rw [own_swap l (Paired.length q)]; exact h.nd a⟩
theorem mem_swap {a : Addr} {l1 : List Addr} (l : σ.length = δ.length) (l2 : τ.length = θ.length) (h : a ∈ own (τ ++ σ) (θ ++ δ) ++ l1) : a ∈ own (σ ++ τ) (δ ++ θ) ++ l1 := by
  simp only [List.mem_append] at h ⊢
  rcases h with h | h
  · left; rw [cnt_pos] at h ⊢; rw [← own_swap l l2]; exact h
  · exact .inr h
noncomputable abbrev FF := List Vl → List M → Option (Vl × List M)
noncomputable def UpF (K : PySem.W.Frag) (κ : Str → Addr) (n : Nat) (fn : FF) : Sp := fun vs H Q _ => ∃ ι xs G x G', xs.length = n ∧ SR K κ ι H (vs.map some) (xs.map some) G ∧ fn xs G = some (x, G') ∧
  ∀ v ι' H', SR K κ ι' H' [some v] [some x] G' → Step ι (own (vs.map some) (xs.map some) ++ ι) H ι' (own [some v] [some x] ++ ι') H' → Q v H'
noncomputable def vlA : List Ev → Option (List Vl)
  | [] => some []
  | .v x :: es => (vlA es).map (x :: ·)
  | .s _ :: _ => none
noncomputable def callP (n : Nat) (fn : FF) : List Ev → Mo Ev := fun es δ G => match vlA es with
  | some xs => if xs.length = n then match fn xs G with
    | some (x, G') => some (.v x, δ, G')
    | none => none
    else none
  | none => none
theorem vlA_ts : ∀ {es : List Ev} {vs : List V} {xs : List Vl}, vlA es = some xs → es.length = vs.length → tS es vs = vs.map some ∧ tD es = xs.map some
  | [], [], _, h, _ => by cases h; exact ⟨rfl, rfl⟩
  | [], _ :: _, _, _, l => by cases l
  | _ :: _, [], _, _, l => by cases l
  | .s i :: _, _ :: _, _, h, _ => by cases h
  | .v x :: es, v :: vs, xs, h, l => by
    have h : (vlA es).map (x :: ·) = some xs := h
    cases e : vlA es with
    | none => rw [e] at h; cases h
    | some ys =>
      rw [e] at h; cases h
      obtain ⟨p, q⟩ := vlA_ts e (by simpa using l)
      exact ⟨by show some v :: tS es vs = _; rw [p]; rfl, by show some x :: tD es = _; rw [q]; rfl⟩
theorem prim_call {n : Nat} {fn : FF} {E : XK} : Prim K κ (fun vs H Q => UpF K κ n fn vs H Q E) (callP n fn) := by
  intro ι H σ δ G es vs e δ' G' Q a h k
  unfold callP at h
  split at h
  · rename_i xs hx
    split at h
    · rename_i hl
      split at h
      · rename_i x G1 e1
        cases h
        obtain ⟨t1, t2⟩ := vlA_ts hx a.len
        have sr := a.sr
        rw [t1, t2] at sr k
        have sw := sr.swap a.l
        have lt : (vs.map some).length = (xs.map some).length := Paired.length (paired_split a.l sr.sl).2
        refine ⟨ι, xs, G, x, _, hl, sw.pop lt, e1, fun v ι' H' s st => ?_⟩
        have s' : SR K κ ι' H' ([some v] ++ []) ([some x] ++ []) _ := s
        obtain ⟨j1, j2⟩ := SR.join (σ0 := vs.map some) (δ1 := xs.map some) (σ := [some v]) (δ2 := [some x]) (τ2 := []) (θ2 := []) sw lt s' rfl st
        rw [List.append_nil, List.append_nil] at j1 j2
        refine k v ι' H' ⟨⟨a.l, j1.swap rfl, .cons (fun _ h => by cases h) .nil⟩, (j2.wide fun y hy => mem_swap a.l lt hy).sub fun y hy => ?_⟩
        exact mem_swap (σ := [some v]) (δ := [some x]) (τ := σ) (θ := δ) rfl a.l hy
      · cases h
    · cases h
  · cases h
/-- a def's body, from its arguments; N names in all -/
noncomputable def runF (n r : Nat) (body : SF) : FF := fun xs G => if xs.length = n then match body (xs.map some ++ List.replicate r none) G with
  | some (.rt x G') => some (x, G')
  | some (.nx _ G') => some (.im .non, G')
  | _ => none
  else none
theorem paired_no : ∀ (r : Nat), Paired (RpE K κ ι H) (List.replicate r none) (List.replicate r none)
  | 0 => .nil
  | r + 1 => .cons (.no _) (paired_no r)
theorem own_no : ∀ (r : Nat), own (List.replicate r none) (List.replicate r none) = []
  | 0 => rfl
  | r + 1 => own_no r
theorem SR.nones (h : SR K κ ι H σ δ G) (r : Nat) : SR K κ ι H (σ ++ List.replicate r none) (δ ++ List.replicate r none) G ∧ own (σ ++ List.replicate r none) (δ ++ List.replicate r none) = own σ δ := by
  have e : own (σ ++ List.replicate r none) (δ ++ List.replicate r none) = own σ δ := by rw [own_app _ _ h.len, own_no, List.append_nil]
  exact ⟨⟨paired_app h.sl (paired_no r), h.gs, fun a => by rw [e]; exact h.nd a⟩, e⟩
theorem up_run {n r : Nat} {body : SF} {E : XK} {Q : VK} (h : UpF K κ n (runF n r body) vs H Q E) : vs.length = n ∧ UpS K κ body { nx := fun _ H' => Q .non H', rt := Q } (vs.map some ++ List.replicate r none) H := by
  obtain ⟨ι, xs, G, x, G', hl, s, eq, k⟩ := h
  have lv : vs.length = n := by have := s.len; rw [List.length_map, List.length_map] at this; lia
  refine ⟨lv, ?_⟩
  unfold runF at eq
  rw [if_pos hl] at eq
  obtain ⟨s0, e0⟩ := s.nones r
  split at eq
  · rename_i x' G1 e1
    cases eq
    refine ⟨ι, _, G, _, s0, e1, ?_⟩
    rw [e0]
    exact fun v ι' H' s' st => k v ι' H' s' st
  · rename_i δ1 G1 e1
    cases eq
    refine ⟨ι, _, G, _, s0, e1, ?_⟩
    rw [e0]
    intro σ' ι' H' s' st
    obtain ⟨p, q⟩ := SR.last (s'.push_im .non) s'.len
    refine k _ _ _ p (st.sub fun a ha => ?_)
    have := q a ha
    rw [own_im s'.len] at this
    exact this
  · cases eq
noncomputable def PrimI (K : PySem.W.Frag) (κ : Str → Addr) (r : List V → Hp → (It → Hp → Prop) → Prop) (p : List Ev → De → List M → Option Wk) : Prop :=
  ∀ (ι : List Addr) (H : Hp) (σ : St) (δ : De) (G : List M) (es : List Ev) (vs : List V) (w : Wk) (R : It → Hp → Prop), Args K κ ι H σ δ G es vs → p es δ G = some w →
    (∀ J, Walks K κ J (tS es vs) (tD es) w → R J H) → r vs H R
noncomputable def itF (fa : Mo (List Ev)) (p : List Ev → De → List M → Option Wk) : IF := fun δ G => match fa δ G with
  | some (es, δ1, G1) => (p es δ1 G1).map fun w => (w, es, δ1, G1)
  | none => none
theorem up_it {r : List V → Hp → (It → Hp → Prop) → Prop} {p : List Ev → De → List M → Option Wk} {fa : Mo (List Ev)} {R : It → Hp → Prop} (hp : PrimI K κ r p) (h : UpI K κ (itF fa p) σ H R) : UpA K κ fa σ H fun vs H1 => r vs H1 R := by
  obtain ⟨ι, δ, G, w, es, δ', G', s, eq, k⟩ := h
  unfold itF at eq
  split at eq
  · rename_i es1 δ1 G1 e1
    cases q : p es1 δ1 G1 with
    | none => rw [q] at eq; cases eq
    | some w' =>
      rw [q] at eq
      cases eq
      exact ⟨ι, δ, G, _, _, _, s, e1, fun vs ι1 H1 a => hp _ _ _ _ _ _ _ _ _ a.ar q fun J wk => k J vs ι1 H1 a wk⟩
  · cases eq
noncomputable def one (f : Mo Ev) : Mo (List Ev) := bd f fun e => rt [e]
theorem up_one {f : Mo Ev} {Q : VK} (h : UpA K κ (one f) σ H fun vs H1 => ∃ v, vs = [v] ∧ Q v H1) : UpE K κ f σ H Q := by
  obtain ⟨ι, δ, G, es, δ', G', s, eq, k⟩ := h
  obtain ⟨x, δ1, G1, e1, eq⟩ := bd_inv eq
  cases eq
  refine ⟨ι, δ, G, x, _, _, s, e1, fun v ι1 H1 a => ?_⟩
  obtain ⟨v', e', q⟩ := k _ _ _ a
  cases e'
  exact q
/-- range(n) -/
noncomputable def rng1P : List Ev → De → List M → Option Wk := fun es _ _ => match es with
  | [.v (.im (.int j))] => if j < 2 ^ 62 ∧ -(2 ^ 62) ≤ j then some ⟨j.toNat, fun i _ _ => some (.int i), fun _ _ => true⟩ else none
  | _ => none
theorem walks_range {lo : Int} {n : Nat} {τ : St} {θ : De} : Walks K κ (Itr lo n) τ θ ⟨n, fun i _ _ => some (.int (lo + i)), fun _ _ => true⟩ where
  go := fun hi hd _ _ => by
    cases hd
    refine ⟨hi, fun x H' y => ?_⟩
    obtain ⟨e1, e2⟩ := y
    subst e1; subst e2
    exact ⟨(fun _ _ h => h), .int _⟩
  stop := fun _ _ _ => Nat.le_refl _
theorem prim_rng1 : PrimI K κ (fun vs H R => ∃ j : Int, vs = [.int j] ∧ -(2 ^ 62) ≤ j ∧ j < 2 ^ 62 ∧ R (Itr 0 j.toNat) H) rng1P := by
  intro ι H σ δ G es vs w R a h k
  unfold rng1P at h
  split at h
  · rename_i j
    split at h
    · rename_i hj
      cases h
      obtain ⟨v, rfl⟩ := len1 a.len
      have r := a.im (j := 0) rfl rfl
      cases r
      refine ⟨j, rfl, hj.2, hj.1, k _ ?_⟩
      have := walks_range (K := K) (κ := κ) (lo := 0) (n := j.toNat) (τ := tS [.v (.im (.int j))] [.int j]) (θ := tD [.v (.im (.int j))])
      simpa using this
    · cases h
  · cases h
/-- the items of a list, of a tuple -/
noncomputable def lsW (e : Ev) (n : Nat) : Wk := ⟨n, fun i δ G => (sq δ G e).bind (·[i]?), fun δ G => match sq δ G e with | some xs => decide (xs.length ≤ n) | none => false⟩
noncomputable def isL (δ : De) (G : List M) : Ev → Bool
  | .v (.im (.fro _)) => true
  | .v (.im (.ref _)) => true
  | .v (.ow (.lst _)) => true
  | _ => false
noncomputable def lsP : List Ev → De → List M → Option Wk := fun es δ G => match es with
  | [e] => if isL δ G e then (sq δ G e).map fun xs => lsW e xs.length else none
  | _ => none
noncomputable def tpP : List Ev → De → List M → Option Wk := fun es δ G => match es with
  | [.v (.im (.tup xs))] => some (lsW (.v (.im (.tup xs))) xs.length)
  | [.v (.im (.con xs))] => some (lsW (.v (.im (.con xs))) xs.length)
  | _ => none
theorem args_one {e : Ev} {v : V} {x : Vl} (he : e = .v x) (l : σ.length = δ.length) (h : SR K κ ι H (σ ++ tS [e] [v]) (δ ++ tD [e]) G) : Args K κ ι H σ δ G [e] [v] := ⟨l, h, .cons (fun i q => by rw [he] at q; cases q) .nil⟩
theorem sqL_of {e : Ev} {v : V} {xs : List I} (a : Args K κ ι H σ δ G [e] [v]) (hl : isL δ G e = true) (h : sq δ G e = some xs) : ∃ b ys, v = .ref b ∧ SqL K H b ys ∧ RpIs K ι H ys xs := by
  cases e with
  | s i => cases hl
  | v x =>
    cases x with
    | ow m =>
      cases m with
      | lst ys =>
        cases h
        obtain ⟨b, e1, zs, h3, r⟩ := a.pk (j := 0) rfl rfl (m := .lst xs) rfl
        exact ⟨b, zs, e1, SqL.of h3, r⟩
      | _ => cases hl
    | im d =>
      cases d with
      | fro ys =>
        cases h
        have r := a.im (j := 0) rfl rfl
        cases r with
        | fro q r => exact ⟨_, _, rfl, q.sq, r⟩
      | ref k =>
        have h : (match pk δ G (.v (.im (.ref k))) with | some (.lst xs) => some xs | _ => none) = some xs := h
        split at h
        · rename_i ys e1
          cases h
          obtain ⟨b, e1, zs, h3, r⟩ := a.pk (j := 0) rfl rfl e1
          exact ⟨b, zs, e1, SqL.of h3, r⟩
        · cases h
      | _ => cases hl
theorem isL_v {e : Ev} (h : isL δ G e = true) : ∃ x, e = .v x := by
  cases e with
  | v x => exact ⟨x, rfl⟩
  | s i => cases h
theorem isL_any {e : Ev} (h : isL δ G e = true) : isL δ1 G1 e = true := by
  cases e with
  | s i => cases h
  | v x =>
    cases x with
    | ow m => cases m <;> first | rfl | cases h
    | im d => cases d <;> first | rfl | cases h
theorem walks_ls {e : Ev} {n : Nat} {b : Addr} (hl : isL δ G e = true) : Walks K κ (Itl K b) (tS [e] [.ref b]) (tD [e]) (lsW e n) where
  go := fun {i d ι H σ δ' G'} hi hd l s => by
    obtain ⟨x, hx⟩ := isL_v hl
    have hd : (sq δ' G' e).bind (·[i]?) = some d := hd
    cases q : sq δ' G' e with
    | none => rw [q] at hd; cases hd
    | some xs =>
      rw [q] at hd
      obtain ⟨b', ys, e1, h1, r⟩ := sqL_of (args_one hx l s) (isL_any hl) q
      cases e1
      obtain ⟨v, hv, rv⟩ := r.get hd
      refine ⟨⟨ys, v, h1, hv⟩, fun x H' y => ?_⟩
      obtain ⟨e2, e3⟩ := y
      subst e2
      have := e3 ys h1
      rw [hv] at this; cases this
      exact ⟨(fun _ _ h => h), rv⟩
  stop := fun {ι H σ δ' G'} hf l s => by
    obtain ⟨x, hx⟩ := isL_v hl
    have hf : (match sq δ' G' e with | some xs => decide (xs.length ≤ n) | none => false) = true := hf
    cases q : sq δ' G' e with
    | none => rw [q] at hf; cases hf
    | some xs =>
      rw [q] at hf
      obtain ⟨b', ys, e1, h1, r⟩ := sqL_of (args_one hx l s) (isL_any hl) q
      cases e1
      exact ⟨ys, h1, by rw [r.len]; exact of_decide_eq_true hf⟩
theorem prim_ls : PrimI K κ (fun vs H R => ∃ v, vs = [v] ∧ ∃ a, v = .ref a ∧ (∃ xs, SqL K H a xs) ∧ R (Itl K a) H) lsP := by
  intro ι H σ δ G es vs w R a h k
  unfold lsP at h
  split at h
  · rename_i e
    split at h
    · rename_i hl
      cases q : sq δ G e with
      | none => rw [q] at h; cases h
      | some xs =>
        rw [q] at h
        cases h
        obtain ⟨v, rfl⟩ := len1 a.len
        obtain ⟨b, ys, e1, h1, r⟩ := sqL_of a hl q
        subst e1
        exact ⟨_, rfl, b, rfl, ⟨ys, h1⟩, k _ (walks_ls hl)⟩
    · cases h
  · cases h
theorem prim_tp : PrimI K κ (fun vs H R => ∃ v, vs = [v] ∧ ∃ a, v = .ref a ∧ (∃ xs, SqT K H a xs) ∧ R (Itt K a) H) tpP := by
  intro ι H σ δ G es vs w R a h k
  unfold tpP at h
  have go : ∀ {x : I} {xs : List I}, (x = .tup xs ∨ x = .con xs) → Args K κ ι H σ δ G [.v (.im x)] vs → sq δ G (.v (.im x)) = some xs → (∀ J, Walks K κ J (tS [.v (.im x)] vs) (tD [.v (.im x)]) (lsW (.v (.im x)) xs.length) → R J H) →
      ∃ v, vs = [v] ∧ ∃ a, v = .ref a ∧ (∃ xs, SqT K H a xs) ∧ R (Itt K a) H := fun {x xs} hx a hq k => by
    have tv : ∀ {ι : List Addr} {H : Hp} {v : V}, RpI K ι H v x → ∃ b ys, v = .ref b ∧ SqT K H b ys ∧ RpIs K ι H ys xs := fun r => by
      rcases hx with rfl | rfl
      · cases r with
        | tup h r => exact ⟨_, _, rfl, SqT.of h, r⟩
      · cases r with
        | con h r => exact ⟨_, _, rfl, SqT.kon h, r⟩
    have sx : ∀ (δ : De) (G : List M), sq δ G (.v (.im x)) = some xs := fun δ G => by rcases hx with rfl | rfl <;> rfl
    obtain ⟨v, rfl⟩ := len1 a.len
    obtain ⟨b, ys, e1, h1, r⟩ := tv (a.im (j := 0) rfl rfl)
    subst e1
    refine ⟨_, rfl, b, rfl, ⟨ys, h1⟩, k _ ⟨fun {i d ι' H' σ' δ' G'} hi hd l s => ?_, fun {ι' H' σ' δ' G'} hf l s => ?_⟩⟩
    · obtain ⟨b', zs, e2, h2, r2⟩ := tv ((args_one (x := .im x) rfl l s).im (j := 0) rfl rfl)
      cases e2
      have hd : (sq δ' G' (.v (.im x))).bind (·[i]?) = some d := hd
      rw [sx] at hd
      have hd : xs[i]? = some d := hd
      obtain ⟨v, hv, rv⟩ := r2.get hd
      refine ⟨⟨zs, v, h2, hv⟩, fun x H' y => ?_⟩
      obtain ⟨e2, e3⟩ := y
      subst e2
      have := e3 zs h2
      rw [hv] at this; cases this
      exact ⟨(fun _ _ h => h), rv⟩
    · obtain ⟨b', zs, e2, h2, r2⟩ := tv ((args_one (x := .im x) rfl l s).im (j := 0) rfl rfl)
      cases e2
      exact ⟨zs, h2, by rw [r2.len]; exact Nat.le_refl _⟩
  split at h
  · cases h
    exact go (.inl rfl) a rfl k
  · cases h
    exact go (.inr rfl) a rfl k
  · cases h
end
end B
namespace B
open PySem L2
section
variable {K : PySem.W.Frag} {κ : Str → Addr} {ι ι1 ι2 fp : List Addr} {H H1 H2 : Hp} {σ τ : St} {δ δ1 δ2 θ : De} {G G1 G2 : List M} {es fs : List Ev} {vs ws : List V}
/-- the slots that are looked at from within become things -/
noncomputable def boxS : List Nat → Mo Unit
  | [] => rt ()
  | i :: is => fun δ G => match δ[i]? with
    | some (some (.ow m)) => boxS is (δ.set i (some (.im (.ref G.length)))) (G ++ [m])
    | _ => boxS is δ G
theorem boxS_ok : ∀ {ix : List Nat} {δ δ' : De} {G G' : List M} {ι : List Addr} {u : Unit}, boxS ix δ G = some (u, δ', G') → SR K κ ι H σ δ G → ∃ ι', SR K κ ι' H σ δ' G' ∧ Step ι (own σ δ ++ ι) H ι' (own σ δ' ++ ι') H
  | [], _, _, _, _, ι, _, h, s => by cases h; exact ⟨ι, s, Step.refl _ _ _⟩
  | i :: is, δ, δ', G, G', ι, u, h, s => by
    unfold boxS at h
    split at h
    · rename_i m hm
      obtain ⟨a, e1, r⟩ := s.get_ow hm
      have n := After.nil s
      have a1 : After K κ σ ι (own σ δ ++ ι) H [.s i] δ G [.ref a] ι H := ⟨⟨s.len, n.ar.sr, .cons (fun j h => by cases h; exact e1) .nil⟩, n.st⟩
      have hb : bxE (.s i) δ G = some (.v (.im (.ref G.length)), δ.set i (some (.im (.ref G.length))), G ++ [m]) := by unfold bxE; dsimp only; rw [hm]
      obtain ⟨ι2, a2⟩ := after_bx a1 hb
      obtain ⟨s2, st2⟩ := a2.drop
      obtain ⟨ι3, s3, st3⟩ := boxS_ok h s2
      exact ⟨ι3, s3, st2.trans st3⟩
    · exact boxS_ok h s
noncomputable def inD1 (δ : De) (i : Nat) : Option Vl := match δ[i]? with
  | some (some (.im d)) => some (.im d)
  | _ => none
noncomputable def inD (ix : List Nat) (δ : De) : De := ix.map (inD1 δ)
noncomputable def inV (ix : List Nat) (σ : St) : St := ix.map fun i => (σ[i]?).getD none
theorem inner (h : SR K κ ι H σ δ G) : ∀ (ix : List Nat), Paired (RpE K κ ι H) (inV ix σ) (inD ix δ) ∧ own (inV ix σ) (inD ix δ) = []
  | [] => ⟨.nil, rfl⟩
  | i :: ix => by
    obtain ⟨p, q⟩ := inner h ix
    have one : RpE K κ ι H ((σ[i]?).getD none) (inD1 δ i) ∧ own1 ((σ[i]?).getD none) (inD1 δ i) = [] := by
      unfold inD1
      split
      · rename_i d hd
        obtain ⟨v, e, r⟩ := h.get_im hd
        rw [e]
        exact ⟨.im r, own1_im _ _⟩
      · exact ⟨.no _, own1_no _⟩
    refine ⟨.cons one.1 p, ?_⟩
    show own1 _ _ ++ own (inV ix σ) (inD ix δ) = []
    rw [one.2, q]; rfl
theorem ims_slots : ∀ {xs : List V} {ds : List I}, RpIs K ι H xs ds → Paired (RpE K κ ι H) (xs.map some) (ds.map fun d => some (Vl.im d)) ∧ own (xs.map some) (ds.map fun d => some (Vl.im d)) = []
  | _, _, .nil => ⟨.nil, rfl⟩
  | _, _, .cons r rs => by
    obtain ⟨p, q⟩ := ims_slots rs
    refine ⟨.cons (.im r) p, ?_⟩
    show own1 _ _ ++ own _ _ = []
    rw [own1_im, q]; rfl
/-- the turns of a comprehension -/
noncomputable def cTurns (w : Wk) (c : I → Option (List I)) (tt : Mo Bool) (te : Mo Ev) (di : De) : Nat → Nat → List I → De → List M → Option (List I × List M)
  | i, 0, acc, δ, G => if w.fin δ G then some (acc, G) else none
  | i, r + 1, acc, δ, G => match w.at_ i δ G with
    | some d => match c d with
      | some ds => match tt ((ds.map fun d => some (Vl.im d)) ++ di) G with
        | some (true, δa, Ga) => match te δa Ga with
          | some (.v (.im y), _, Gb) => cTurns w c tt te di (i + 1) r (acc ++ [y]) δ Gb
          | _ => none
        | some (false, _, Ga) => cTurns w c tt te di (i + 1) r acc δ Ga
        | none => none
      | none => none
    | none => none
/-- a target of n names -/
noncomputable def Tgt (K : PySem.W.Frag) (g : TG) (n : Nat) (c : I → Option (List I)) : Prop := ∀ (ι : List Addr) (H : Hp) (x : V) (d : I) (ds : List I) (σ' : St) (Q : St → Hp → Prop), RpI K ι H x d → c d = some ds →
  ds.length = n ∧ ((∀ xs, RpIs K ι H xs ds → Q (xs.map some ++ σ') H) → g x (List.replicate n none ++ σ') H Q)
noncomputable def c1 : I → Option (List I) := fun d => some [d]
noncomputable def cN (n : Nat) : I → Option (List I) := fun d => match d with
  | .tup ds => if ds.length = n then some ds else none
  | _ => none
theorem tgt_1 : Tgt K (gName 0) 1 c1 := by
  intro ι H x d ds σ' Q r h
  cases h
  exact ⟨rfl, fun k => k [x] (.cons r .nil)⟩
theorem rows_set : ∀ (vs : List V) (pre : St) (σ' : St) (Q : St → Hp → Prop), Q (pre ++ (vs.map some ++ σ')) H → gRow ((List.range vs.length).map (pre.length + ·)) vs (pre ++ (List.replicate vs.length none ++ σ')) H Q
  | [], pre, σ', Q, h => ⟨rfl, h⟩
  | v :: vs, pre, σ', Q, h => by
    have e : (List.range (v :: vs).length).map (pre.length + ·) = pre.length :: (List.range vs.length).map ((pre ++ [some v]).length + ·) := by
      rw [List.length_cons, List.range_succ_eq_map, List.map_cons, List.map_map]
      congr 1
      refine List.map_congr_left fun j _ => ?_
      simp
      lia
    rw [e]
    refine ⟨v, vs, rfl, ?_⟩
    show gRow _ vs ((pre ++ (List.replicate (vs.length + 1) none ++ σ')).set pre.length (some v)) H Q
    have e2 : (pre ++ (List.replicate (vs.length + 1) none ++ σ')).set pre.length (some v) = (pre ++ [some v]) ++ (List.replicate vs.length none ++ σ') := by
      rw [List.set_append_right _ _ (Nat.le_refl _), Nat.sub_self, List.replicate_succ]
      simp
    rw [e2]
    refine rows_set vs (pre ++ [some v]) σ' Q ?_
    have e3 : pre ++ [some v] ++ (vs.map some ++ σ') = pre ++ ((v :: vs).map some ++ σ') := by simp
    rw [e3]
    exact h
theorem tgt_n (n : Nat) : Tgt K (gTup K n (gRow (List.range n))) n (cN n) := by
  intro ι H x d ds σ' Q r h
  unfold cN at h
  split at h
  · rename_i xs
    split at h
    · rename_i hl
      cases h
      refine ⟨hl, fun k => ?_⟩
      cases r with
      | @tup a ys _ h1 r =>
        have e := r.len
        refine ⟨a, ys, rfl, SqT.of h1, by lia, ?_⟩
        have q := rows_set (H := H) ys [] σ' Q (k ys r)
        have e1 : (List.range ys.length).map (([] : St).length + ·) = List.range n := by
          rw [e, hl]; simp
        rw [e1] at q
        have e2 : n = ys.length := by lia
        rw [e2]
        rw [← e2] at q ⊢
        exact q
    · cases h
  · cases h
noncomputable def compF (fi : IF) (ix : List Nat) (c : I → Option (List I)) (tt : Mo Bool) (te : Mo Ev) : Mo Ev := fun δ G => match boxS ix δ G with
  | some (_, δ0, G0) => match fi δ0 G0 with
    | some (w, _, δ1, G1) => if w.n ≤ 100000 then match cTurns w c tt te (inD ix δ1) 0 w.n [] δ1 G1 with
      | some (ds, G2) => some (.v (.ow (.lst ds)), δ1, G2)
      | none => none
      else none
    | none => none
  | none => none
theorem line100 : 100000 < sizeLine := by decide
theorem up_comp {fi : IF} {ix : List Nat} {c : I → Option (List I)} {tt : Mo Bool} {te : Mo Ev} {g : CompAt → TG} {n : Nat} {Q : VK} (hg : ∀ z, Tgt K (g z) n c) (h : UpE K κ (compF fi ix c tt te) σ H Q) :
    tCompG n ix (UpI K κ fi) g (fun _ => UpT K κ tt) (fun _ => UpE K κ te) σ H Q := by
  obtain ⟨ι, δ, G, e, δ', G', s, eq, k⟩ := h
  unfold compF at eq
  split at eq
  · rename_i u δ0 G0 e0
    split at eq
    · rename_i w es δ1 G1 e1
      split at eq
      · rename_i hn
        split at eq
        · rename_i ds G2 e2
          simp only [Option.some.injEq, Prod.mk.injEq] at eq
          obtain ⟨rfl, rfl, rfl⟩ := eq
          obtain ⟨ι0, s0, st0⟩ := boxS_ok e0 s
          refine ⟨ι0, δ0, G0, w, es, δ1, G1, s0, e1, fun J vs ι1 H1 a wk => ?_⟩
          intro D hD
          have lo : (σ ++ tS es vs).length = (δ1 ++ tD es).length := by
            have := a.ar.sr.len; exact this
          refine ⟨fun i m ys H' => i + m = w.n ∧ H' D = some (.lst ys) ∧ ∃ ι' G' acc, SR K κ ι' H' ((σ ++ tS es vs) ++ [some (.ref D)]) ((δ1 ++ tD es) ++ [some (.ow (.lst acc))]) G' ∧
            Step ι (own σ δ ++ ι) H ι' (own ((σ ++ tS es vs) ++ [some (.ref D)]) ((δ1 ++ tD es) ++ [some (.ow (.lst acc))]) ++ ι') H' ∧ acc.length ≤ i ∧ acc.length = ys.length ∧ cTurns w c tt te (inD ix δ1) i m acc δ1 G' = some (ds, G2), ⟨w.n, by lia, upd_same, ι1, G1, [], ?_, ?_, Nat.le_refl _, rfl, e2⟩, ?_⟩
          · exact a.ar.sr.push_ow hD ⟨[], upd_same, .nil⟩
          · exact (st0.trans a.st).trans (Step.lay_ow lo hD)
          · rintro i m ys H' ⟨him, hys, ι', G', acc, s', st, hac, hay, et⟩
            refine ⟨hys, ?_⟩
            have sb := s'.pop lo
            cases m with
            | zero =>
              unfold cTurns at et
              split at et
              · rename_i hf
                cases et
                have hi : i = w.n := by lia
                subst hi
                refine .inl ⟨wk.stop hf a.ar.l sb, ?_⟩
                -- the list alone beside the slots
                have l1 := a.ar.l
                obtain ⟨pa, pc⟩ := paired_split lo s'.sl
                obtain ⟨pa, pb⟩ := paired_split l1 pa
                have lt := Paired.length pb
                have e3 : own ((σ ++ tS es vs) ++ [some (.ref D)]) ((δ1 ++ tD es) ++ [some (.ow (.lst ds))]) = own σ δ1 ++ own (tS es vs) (tD es) ++ [D] := by rw [own_ow lo, own_app _ _ l1]
                have e4 : own (σ ++ [some (.ref D)]) (δ1 ++ [some (.ow (.lst ds))]) = own σ δ1 ++ [D] := own_ow l1
                refine k _ ι' H' ⟨⟨l1, ⟨paired_app pa pc, s'.gs, fun x => ?_⟩, .cons (fun _ h => by cases h) .nil⟩, st.sub fun x hx => ?_⟩
                · have n' := s'.nd x
                  rw [e3] at n'
                  show cnt x (own (σ ++ [some (.ref D)]) (δ1 ++ [some (.ow (.lst ds))])) + cnt x ι' ≤ 1
                  rw [e4]
                  simp only [cnt, List.count_append] at n' ⊢
                  lia
                · have hx : x ∈ own (σ ++ [some (.ref D)]) (δ1 ++ [some (.ow (.lst ds))]) ++ ι' := hx
                  rw [e4] at hx
                  rw [e3]
                  simp only [List.mem_append] at hx ⊢
                  rcases hx with (hx | hx) | hx
                  · exact .inl (.inl (.inl hx))
                  · exact .inl (.inr hx)
                  · exact .inr hx
              · cases et
            | succ m =>
              unfold cTurns at et
              split at et
              · rename_i d hd
                obtain ⟨go, yl⟩ := wk.go (by lia) hd a.ar.l sb
                refine .inr ⟨go, by have := line100; lia, fun ys' H5 => i + 1 + m = w.n ∧ H5 D = some (.lst ys') ∧ ∃ ι5 G5 acc5, SR K κ ι5 H5 ((σ ++ tS es vs) ++ [some (.ref D)]) ((δ1 ++ tD es) ++ [some (.ow (.lst acc5))]) G5 ∧
                  Step ι (own σ δ ++ ι) H ι5 (own ((σ ++ tS es vs) ++ [some (.ref D)]) ((δ1 ++ tD es) ++ [some (.ow (.lst acc5))]) ++ ι5) H5 ∧ acc5.length ≤ i + 1 ∧ acc5.length = ys'.length ∧ cTurns w c tt te (inD ix δ1) (i + 1) m acc5 δ1 G5 = some (ds, G2), fun ys' H5 q => ⟨m, Nat.lt_succ_self _, q⟩, fun x H3 hy z => ?_⟩
                obtain ⟨sm, rx⟩ := yl x H3 hy
                split at et
                · rename_i dd hc
                  obtain ⟨hl, tg⟩ := hg z ι' H3 x d dd (inV ix σ) _ rx hc
                  refine tg fun xs rs => ?_
                  -- the block's own slots
                  have s3 := s'.same sm
                  have st3 := st.trans (Step.same (ι := ι') (fp := own ((σ ++ tS es vs) ++ [some (.ref D)]) ((δ1 ++ tD es) ++ [some (.ow (.lst acc))]) ++ ι') sm)
                  obtain ⟨p1, o1⟩ := ims_slots (κ := κ) rs
                  obtain ⟨p2, o2⟩ := inner ((s3.pop lo).pop a.ar.l) ix
                  have lx := Paired.length p1
                  have oin : own (xs.map some ++ inV ix σ) (dd.map (fun d => some (Vl.im d)) ++ inD ix δ1) = [] := by rw [own_app _ _ lx, o1, o2]; rfl
                  have sin : SR K κ ι' H3 (xs.map some ++ inV ix σ) (dd.map (fun d => some (Vl.im d)) ++ inD ix δ1) G' := ⟨paired_app p1 p2, s3.gs, fun y => by
                    rw [oin]; have := s3.nd y; simp only [cnt, List.count_nil] at *; lia⟩
                  have lin := sin.len
                  have both : SR K κ ι' H3 ((xs.map some ++ inV ix σ) ++ ((σ ++ tS es vs) ++ [some (.ref D)])) ((dd.map (fun d => some (Vl.im d)) ++ inD ix δ1) ++ ((δ1 ++ tD es) ++ [some (.ow (.lst acc))])) G' := ⟨paired_app sin.sl s3.sl, s3.gs, fun y => by
                    rw [own_app _ _ lin, oin]; have := s3.nd y; simpa using this⟩
                  have kn : KeepN n ix σ (xs.map some ++ inV ix σ) := by
                    have lxs : xs.length = n := by rw [List.length_map, List.length_map] at lx; lia
                    refine ⟨by rw [List.length_append, List.length_map]; unfold inV; rw [List.length_map, lxs], fun j v hj => ?_⟩
                    unfold inStN at hj
                    by_cases hjn : j < n
                    · rw [List.getElem?_append_left (by simpa using hjn), List.getElem?_replicate, if_pos hjn] at hj
                      cases hj
                    · rw [List.getElem?_append_right (by simp; lia)] at hj
                      rw [List.getElem?_append_right (by simp; lia)]
                      simp only [List.length_replicate, List.length_map, lxs] at hj ⊢
                      exact hj
                  refine ⟨kn, ?_⟩
                  -- the outer ones behind a step of the block
                  have jn : ∀ {σ5 : St} {δ5 : De} {θ5 : De} {τ5 : St} {G5 : List M} {ι5 : List Addr} {H5 : Hp}, σ5.length = δ5.length → SR K κ ι5 H5 (σ5 ++ τ5) (δ5 ++ θ5) G5 → Step ι' (own (xs.map some ++ inV ix σ) (dd.map (fun d => some (Vl.im d)) ++ inD ix δ1) ++ ι') H3 ι5 (own (σ5 ++ τ5) (δ5 ++ θ5) ++ ι5) H5 →
                      SR K κ ι5 H5 (((σ ++ tS es vs) ++ [some (.ref D)]) ++ τ5) (((δ1 ++ tD es) ++ [some (.ow (.lst acc))]) ++ θ5) G5 ∧ Step ι (own σ δ ++ ι) H ι5 (own (((σ ++ tS es vs) ++ [some (.ref D)]) ++ τ5) (((δ1 ++ tD es) ++ [some (.ow (.lst acc))]) ++ θ5) ++ ι5) H5 ∧ H5 D = some (.lst ys) := fun {σ5 δ5 θ5 τ5 G5 ι5 H5} l5 s5 st5 => by
                    obtain ⟨j1, j2⟩ := SR.join both lin s5 l5 st5
                    have lT : ((σ ++ tS es vs) ++ [some (V.ref D)]).length = ((δ1 ++ tD es) ++ [some (Vl.ow (.lst acc))]).length := s3.len
                    have lj : (((σ ++ tS es vs) ++ [some (V.ref D)]) ++ τ5).length = (((δ1 ++ tD es) ++ [some (Vl.ow (.lst acc))]) ++ θ5).length := by
                      have := j1.len; rw [List.length_append, List.length_append (as := δ5)] at this; lia
                    refine ⟨(j1.swap l5).pop lj, ?_, ?_⟩
                    · refine (st3.trans (j2.wide fun y hy => ?_)).sub fun y hy => ?_
                      · rw [own_app _ _ lin, oin] at hy; exact hy
                      · exact mem_swap (σ := σ5) (δ := δ5) l5 lj (own_sub lj hy)
                    · have q := sm _ _ hys
                      refine st5.keep D _ q fun hm => ?_
                      rw [oin] at hm
                      have n' := s3.nd D
                      rw [own_ow lo] at n'
                      have := cnt_pos.mp (show D ∈ ι' from hm)
                      have c1 : List.count D [D] = 1 := by simp
                      simp only [cnt, List.count_append] at *
                      lia
                  split at et
                  · rename_i δa Ga ea
                    refine ⟨ι', _, G', true, δa, Ga, sin, ea, fun ι4 H4 s4 st4 => ?_⟩
                    dsimp only
                    rw [if_pos rfl]
                    split at et
                    · rename_i y δb Gb eb
                      refine ⟨ι4, δa, Ga, _, δb, Gb, s4, eb, fun yv ι5 H5 a5 => ?_⟩
                      obtain ⟨j1, j2, j3⟩ := jn a5.ar.l a5.ar.sr (st4.trans a5.st)
                      refine ⟨j3, by lia, upd_same, ι5, Gb, acc ++ [y], ?_⟩
                      have ry : RpI K ι5 H5 yv y := a5.ar.im (j := 0) rfl rfl
                      have lT : ((σ ++ tS es vs) ++ [some (V.ref D)]).length = ((δ1 ++ tD es) ++ [some (Vl.ow (.lst acc))]).length := s3.len
                      have s6 := j1.pop lT
                      have i1 : ((σ ++ tS es vs) ++ [some (V.ref D)])[(σ ++ tS es vs).length]? = some (some (.ref D)) := by rw [List.getElem?_append_right (Nat.le_refl _), Nat.sub_self]; rfl
                      have i2 : ((δ1 ++ tD es) ++ [some (Vl.ow (.lst acc))])[(σ ++ tS es vs).length]? = some (some (.ow (.lst acc))) := by rw [lo, List.getElem?_append_right (Nat.le_refl _), Nat.sub_self]; rfl
                      obtain ⟨q1, q2⟩ := s6.poke i1 i2 (m' := .lst (acc ++ [y])) (o := .lst (ys ++ [yv])) (fun ρ kp => by
                        obtain ⟨zs, h1, h2⟩ := ρ
                        rw [j3] at h1; cases h1
                        exact ⟨_, upd_same, (h2.app (.cons ry .nil)).mono (Pre.refl _) kp⟩)
                      have e5 : ((δ1 ++ tD es) ++ [some (Vl.ow (.lst acc))]).set (σ ++ tS es vs).length (some (.ow (.lst (acc ++ [y])))) = (δ1 ++ tD es) ++ [some (.ow (.lst (acc ++ [y])))] := by rw [lo, List.set_append_right _ _ (Nat.le_refl _), Nat.sub_self]; rfl
                      rw [e5] at q1 q2
                      refine ⟨q1, (j2.sub fun w hw => own_sub lT hw).trans q2, by rw [List.length_append]; simp; lia, by rw [List.length_append, List.length_append]; simp; lia, et⟩
                    · cases et
                  · rename_i δa Ga ea
                    refine ⟨ι', _, G', false, δa, Ga, sin, ea, fun ι4 H4 s4 st4 => ?_⟩
                    dsimp only
                    rw [if_neg Bool.false_ne_true]
                    have s4' : SR K κ ι4 H4 ((xs.map some ++ inV ix σ) ++ []) (δa ++ []) Ga := by rw [List.append_nil, List.append_nil]; exact s4
                    obtain ⟨j1, j2, j3⟩ := jn (τ5 := []) (θ5 := []) s4.len s4' (by rw [List.append_nil, List.append_nil]; exact st4)
                    rw [List.append_nil, List.append_nil] at j1 j2
                    exact ⟨by lia, j3, ι4, Ga, acc, j1, j2, by lia, hay, et⟩
                  · cases et
                · cases et
              · cases et
        · cases eq
      · cases eq
    · cases eq
  · cases eq
end
end B
namespace B
open PySem L2
section
variable {K : PySem.W.Frag} {κ : Str → Addr} {ι ι1 ι2 fp : List Addr} {H H1 H2 : Hp} {σ τ : St} {δ δ1 δ2 θ : De} {G G1 G2 : List M} {es fs : List Ev} {vs ws : List V}
theorem lookup_rel {κ' : Type} [BEq κ'] {f : κ'} : ∀ {ws : List (κ' × V)} {fs : List (κ' × I)} {d : I}, ws.map (·.1) = fs.map (·.1) → RpIs K ι H (ws.map (·.2)) (fs.map (·.2)) → fs.lookup f = some d → ∃ v, ws.lookup f = some v ∧ RpI K ι H v d
  | [], [], _, _, _, h => by cases h
  | [], _ :: _, _, e, _, _ => by cases e
  | _ :: _, [], _, e, _, _ => by cases e
  | (g, v) :: ws, (g', d0) :: fs, d, e, r, h => by
    simp only [List.map_cons, List.cons.injEq] at e
    obtain ⟨e1, e2⟩ := e
    subst e1
    cases r with
    | cons r rs =>
      rw [List.lookup_cons] at h ⊢
      cases q : (f == g) with
      | true => rw [q] at h; cases h; exact ⟨v, rfl, r⟩
      | false => rw [q] at h; exact lookup_rel e2 rs h
theorem lookup_no {κ' : Type} [BEq κ'] {f : κ'} : ∀ {ws : List (κ' × V)} {fs : List (κ' × I)}, ws.map (·.1) = fs.map (·.1) → fs.lookup f = none → ws.lookup f = none
  | [], [], _, _ => rfl
  | [], _ :: _, e, _ => by cases e
  | _ :: _, [], e, _ => by cases e
  | (g, v) :: ws, (g', d0) :: fs, e, h => by
    simp only [List.map_cons, List.cons.injEq] at e
    obtain ⟨e1, e2⟩ := e
    subst e1
    rw [List.lookup_cons] at h ⊢
    cases q : (f == g) with
    | true => rw [q] at h; cases h
    | false => rw [q] at h; exact lookup_no e2 h
noncomputable def putI (f : Str) (d : I) : List (Str × I) → List (Str × I)
  | [] => [(f, d)]
  | (g, x) :: r => if g = f then (g, d) :: r else (g, x) :: putI f d r
theorem putI_rel {f : Str} {v : V} {d : I} (rv : RpI K ι H v d) : ∀ {ws : List (Str × V)} {fs : List (Str × I)}, ws.map (·.1) = fs.map (·.1) → RpIs K ι H (ws.map (·.2)) (fs.map (·.2)) →
    (putF f v ws).map (·.1) = (putI f d fs).map (·.1) ∧ RpIs K ι H ((putF f v ws).map (·.2)) ((putI f d fs).map (·.2))
  | [], [], _, _ => ⟨rfl, .cons rv .nil⟩
  | [], _ :: _, e, _ => by cases e
  | _ :: _, [], e, _ => by cases e
  | (g, u) :: ws, (g', d0) :: fs, e, r => by
    simp only [List.map_cons, List.cons.injEq] at e
    obtain ⟨e1, e2⟩ := e
    subst e1
    cases r with
    | cons r rs =>
      unfold putF putI
      by_cases q : g = f
      · rw [if_pos q, if_pos q]
        exact ⟨by simp [e2], .cons rv rs⟩
      · rw [if_neg q, if_neg q]
        obtain ⟨p1, p2⟩ := putI_rel rv e2 rs
        exact ⟨by simp [p1], .cons r p2⟩
noncomputable def fldP (c f : Str) : List Ev → Mo Ev := fun es δ G => match es with
  | [.v (.im (.ref k))] => match G[k]? with
    | some (.obj c' fs) => if c' = c then match fs.lookup f with
      | some d => some (.v (.im d), δ, G)
      | none => none
      else none
    | _ => none
  | _ => none
theorem prim_fld {c f : Str} (hc : Cls K (κ c)) (hn : NoAttr K (κ c) f) : Prim K κ (r1 fun x H1 Q => ∃ a C dx fs v, x = .ref a ∧ H1 a = some (.ins C dx fs) ∧ Cls K C ∧ NoAttr K C f ∧ fs.lookup f = some v ∧ Q v H1) (fldP c f) := by
  intro ι H σ δ G es vs e δ' G' Q a h k
  unfold fldP at h
  split at h
  · rename_i n
    split at h
    · rename_i c' fs hg
      split at h
      · rename_i ec
        subst ec
        split at h
        · rename_i d hd
          cases h
          obtain ⟨v, rfl⟩ := len1 a.len
          have r := a.im (j := 0) rfl rfl
          cases r with
          | @ref b _ e1 =>
            obtain ⟨b', e2, dx, ws, h1, h2, h3⟩ := a.base.get_g hg
            rw [e1] at e2; cases e2
            obtain ⟨v, hv, rv⟩ := lookup_rel h2 h3 hd
            exact ⟨_, rfl, b, _, dx, ws, v, rfl, h1, hc, hn, hv, k _ _ _ (fin_im a rv)⟩
        · cases h
      · cases h
    · cases h
  · cases h
theorem up_fld {c f : Str} {fo : Mo Ev} {Q : VK} (hc : Cls K (κ c)) (hn : NoAttr K (κ c) f) (h : UpE K κ (unF (fldP c f) fo) σ H Q) : tFld K (UpE K κ fo) f σ H Q := up_un (prim_fld hc hn) h
/-- o.f = value -/
noncomputable def fldS (c f : Str) (fo fv : Mo Ev) : SF := fun δ G => match fv δ G with
  | some (.v (.im d), δ1, G1) => match fo δ1 G1 with
    | some (.v (.im (.ref k)), δ2, G2) => match G2[k]? with
      | some (.obj c' fs) => if c' = c ∧ fs.length < 1000 then some (.nx δ2 (G2.set k (.obj c (putI f d fs)))) else none
      | _ => none
    | _ => none
  | _ => none
theorem up_fldS {c f : Str} {fo fv : Mo Ev} {D : Ends} (hc : Cls K (κ c)) (hn : NoAttr K (κ c) f) (h : UpS K κ (fldS c f fo fv) D σ H) : sFld K (UpE K κ fo) (UpE K κ fv) f D σ H := by
  obtain ⟨ι, δ, G, fl, s, eq, k⟩ := h
  unfold fldS at eq
  split at eq
  · rename_i d δ1 G1 e1
    split at eq
    · rename_i n δ2 G2 e2
      split at eq
      · rename_i c' fs hg
        split at eq
        · rename_i hcl
          obtain ⟨ec, hl⟩ := hcl
          subst ec
          cases eq
          refine ⟨ι, δ, G, _, δ1, G1, s, e1, fun v ι1 H1 a1 => ?_⟩
          refine ⟨ι1, δ1, G1, _, δ2, G2, a1.ar.base, e2, fun x ι2 H2 a2 => ?_⟩
          have a := a1.app a2
          have rv := a.ar.im (j := 0) rfl rfl
          have rx := a.ar.im (j := 1) rfl rfl
          cases rx with
          | @ref b _ eb =>
            obtain ⟨b', e3, dx, ws, h1, h2, h3⟩ := a.ar.base.get_g hg
            rw [eb] at e3; cases e3
            have hlw : ws.length < 1000 := by have := congrArg List.length h2; simp at this; lia
            refine ⟨b, _, dx, ws, rfl, h1, hc, hn, hlw, ?_⟩
            obtain ⟨p, q⟩ := a.ar.base.pokeG eb hg (m' := .obj c' (putI f d fs)) (o := .ins (κ c') dx (putF f v ws)) (fun _ kp => by
              obtain ⟨p1, p2⟩ := putI_rel (f := f) rv h2 h3
              exact ⟨dx, _, upd_same, p1, p2.mono (Pre.refl _) kp⟩)
            exact k _ _ _ p ((a.st.sub fun y hy => own_sub a.ar.l hy).trans q)
        · cases eq
      · cases eq
    · cases eq
  · cases eq
noncomputable def methF (c m : Str) (n : Nat) (fn : FF) (fo : Mo Ev) (fa : Mo (List Ev)) : Mo Ev := bd fo fun e => fun δ G => match e with
  | .v (.im (.ref k)) => match G[k]? with
    | some (.obj c' fs) => if c' = c ∧ (fs.lookup m).isNone then bd fa (fun es => callP n fn (.v (.im (.ref k)) :: es)) δ G else none
    | _ => none
  | _ => none
theorem up_meth {c m : Str} {n : Nat} {fn : FF} {fo : Mo Ev} {fa : Mo (List Ev)} {E : XK} {Q : VK} (h : UpE K κ (methF c m n fn fo fa) σ H Q) : tMeth (κ c) m (UpF K κ n fn) [] E (UpE K κ fo) (UpA K κ fa) σ H Q := by
  obtain ⟨ι, δ, G, e, δ', G', s, eq, k⟩ := h
  obtain ⟨x, δ1, G1, e1, eq2⟩ := bd_inv eq
  clear eq
  split at eq2
  · rename_i kk
    split at eq2
    · rename_i c' fs hg
      split at eq2
      · rename_i hcl
        obtain ⟨ec, hl⟩ := hcl
        subst ec
        obtain ⟨ys, δ2, G2, e2, eq3⟩ := bd_inv (m := fa) eq2
        refine ⟨ι, δ, G, _, δ1, G1, s, e1, fun v ι1 H1 a1 => ?_⟩
        have rx := a1.ar.im (j := 0) rfl rfl
        cases rx with
        | @ref b _ eb =>
          obtain ⟨b', e3, dx, ws, h1, h2, h3⟩ := a1.ar.base.get_g hg
          rw [eb] at e3; cases e3
          refine ⟨b, dx, ws, rfl, h1, lookup_no h2 (Option.isNone_iff_eq_none.mp hl), ?_⟩
          refine ⟨ι1, δ1, G1, ys, δ2, G2, a1.ar.base, e2, fun vs ι2 H2 a2 => ?_⟩
          have a := a1.app a2
          dsimp only
          rw [List.append_nil]
          exact prim_call (E := E) _ _ _ _ _ _ _ _ _ _ Q a.ar eq3 fun v ι3 H3 d => k _ _ _ (a.then d)
      · cases eq2
    · cases eq2
  · cases eq2
noncomputable def makeP (c : Str) (n : Nat) (fn : FF) : List Ev → Mo Ev := fun es δ G => match vlA es with
  | some xs => if xs.length + 1 = n then match fn (.im (.ref G.length) :: xs) (G ++ [.obj c []]) with
    | some (.im .non, G') => some (.v (.im (.ref G.length)), δ, G')
    | _ => none
    else none
  | none => none
theorem prim_make {c : Str} {n : Nat} {fn : FF} {E : XK} : Prim K κ (fun vs H1 Q => ∀ x dx, H1 x = none → H1 dx = none → dx ≠ x →
    UpF K κ n fn (.ref x :: (vs ++ [])) (upd (upd H1 dx (.own x)) x (.ins (κ c) dx [])) (fun v H2 => v = .non ∧ Q (.ref x) H2) E) (makeP c n fn) := by
  intro ι H σ δ G es vs e δ' G' Q a h k x dx hx hdx ndx
  unfold makeP at h
  split at h
  · rename_i xs hxs
    split at h
    · rename_i hl
      split at h
      · rename_i G1 e1
        cases h
        rw [List.append_nil]
        obtain ⟨t1, t2⟩ := vlA_ts hxs a.len
        have sr := a.sr
        rw [t1, t2] at sr k
        have lt : (vs.map some).length = (xs.map some).length := Paired.length (paired_split a.l sr.sl).2
        have hx1 : (upd H dx (.own x)) x = none := by rw [upd_ne (Ne.symm ndx)]; exact hx
        have sm1 : Same H (upd H dx (.own x)) := Same.lay hdx
        have sm2 : Same (upd H dx (.own x)) (upd (upd H dx (.own x)) x (.ins (κ c) dx [])) := Same.lay hx1
        have s1 := sr.same sm1
        have s2 := s1.push_ow (o := .ins (κ c) dx []) (m := .obj c []) hx1 ⟨dx, [], upd_same, rfl, .nil⟩
        obtain ⟨s3, r3, q3⟩ := s2.box s1.len
        -- the new thing first
        have s4 : SR K κ (ι ++ [x]) (upd (upd H dx (.own x)) x (.ins (κ c) dx [])) (((V.ref x :: vs).map some) ++ σ) (((Vl.im (.ref G.length) :: xs).map some) ++ δ) (G ++ [.obj c []]) := by
          have q := (s3.swap a.l)
          refine ⟨.cons (.im r3) q.sl, q.gs, fun y => ?_⟩
          have := q.nd y
          show cnt y (own1 _ _ ++ own (vs.map some ++ σ) (xs.map some ++ δ)) + _ ≤ 1
          rw [own1_im]
          exact this
        have l4 : ((V.ref x :: vs).map some).length = ((Vl.im (.ref G.length) :: xs).map some).length := by simpa using lt
        refine ⟨ι ++ [x], .im (.ref G.length) :: xs, G ++ [.obj c []], .im .non, _, by simpa using hl, s4.pop l4, e1, fun v ι' H' s st => ?_⟩
        have rv : RpI K ι' H' v .non := by
          have := s.sl
          cases this with
          | cons q _ => cases q with
            | im q => exact q
        cases rv
        refine ⟨rfl, ?_⟩
        have s' : SR K κ ι' H' ([some V.non] ++ []) ([some (Vl.im .non)] ++ []) _ := s
        obtain ⟨j1, j2⟩ := SR.join (σ0 := (V.ref x :: vs).map some) (δ1 := (Vl.im (.ref G.length) :: xs).map some) (σ := [some V.non]) (δ2 := [some (Vl.im .non)]) (τ2 := []) (θ2 := []) s4 l4 s' rfl st
        rw [List.append_nil, List.append_nil] at j1 j2
        have jb := (j1.swap rfl).pop a.l
        have rx : RpI K ι' H' (.ref x) (.ref G.length) := r3.mono st.pre st.kp
        have stt : Step ι (own (σ ++ vs.map some) (δ ++ xs.map some) ++ ι) H ι' (own σ δ ++ ι') H' := by
          have b1 : Step ι (own (σ ++ vs.map some) (δ ++ xs.map some) ++ ι) H ι (own (σ ++ vs.map some) (δ ++ xs.map some) ++ ι) (upd H dx (.own x)) := Step.same sm1
          have b2 := Step.lay_ow (ι := ι) (o := .ins (κ c) dx []) (m := .obj c []) s1.len hx1
          have b3 := q3
          refine ((b1.trans (b2.trans b3)).trans (j2.wide fun y hy => ?_)).sub fun y hy => ?_
          · have hy : y ∈ (own1 _ _ ++ own (vs.map some ++ σ) (xs.map some ++ δ)) ++ (ι ++ [x]) := hy
            rw [own1_im] at hy
            exact mem_swap a.l lt hy
          · exact mem_swap (σ := [some V.non]) (δ := [some (Vl.im .non)]) (τ := σ) (θ := δ) rfl a.l (own_sub a.l hy) |> fun z => by
              have z := mem_swap (σ := σ) (δ := δ) (τ := [some V.non]) (θ := [some (Vl.im .non)]) a.l rfl (mem_swap (σ := [some V.non]) (δ := [some (Vl.im .non)]) (τ := σ) (θ := δ) rfl a.l (own_sub a.l hy))
              exact mem_swap (σ := [some V.non]) (δ := [some (Vl.im .non)]) (τ := σ) (θ := δ) rfl a.l z
        refine k _ ι' H' ⟨⟨a.l, jb.push_im rx, .cons (fun _ h => by cases h) .nil⟩, stt.sub fun y hy => ?_⟩
        have hy : y ∈ own (σ ++ [some (V.ref x)]) (δ ++ [some (Vl.im (.ref G.length))]) ++ ι' := hy
        rw [own_im a.l] at hy
        exact hy
      · cases h
    · cases h
  · cases h
end
end B
namespace B
open PySem PySem.Spec PyProof.Rows L2
section
variable {X : Cx} {e : Expr} {es : List Expr} {st : Stmt} {sts : List Stmt}
theorem pe_imp {t t' : TE} (h : PE X e t) (k : ∀ σ H Q, t' σ H Q → t σ H Q) : PE X e t' := fun pins s σ H Q I q => h pins s σ H Q I (k σ H Q q)
theorem pt_imp {t t' : TT} (h : PT X e t) (k : ∀ σ H Q, t' σ H Q → t σ H Q) : PT X e t' := fun pins s σ H Q I q => h pins s σ H Q I (k σ H Q q)
theorem pw_imp {t t' : TT} (h : PW X e t) (k : ∀ σ H Q, t' σ H Q → t σ H Q) : PW X e t' := fun w pins s σ H Q I q => h w pins s σ H Q I (k σ H Q q)
theorem pa_imp {t t' : TA} (h : PA X es t) (k : ∀ σ H Q, t' σ H Q → t σ H Q) : PA X es t' := fun pos pins s σ H Q I q => h pos pins s σ H Q I (k σ H Q q)
theorem ps_imp {t t' : TS} (h : PS X st t) (k : ∀ D σ H, t' D σ H → t D σ H) : PS X st t' := fun pins s σ H D I q => h pins s σ H D I (k D σ H q)
theorem pss_imp {t t' : TS} (h : PSs X sts t) (k : ∀ D σ H, t' D σ H → t D σ H) : PSs X sts t' := fun pins s σ H D I q => h pins s σ H D I (k D σ H q)
theorem pi_imp {tg iter : Expr} {t t' : TI} (h : PI X tg iter t) (k : ∀ σ H R, t' σ H R → t σ H R) : PI X tg iter t' := fun pins s σ H R I q => h pins s σ H R I (k σ H R q)
theorem pg_imp {tg : Expr} {t t' : TG} (h : PG X tg t) (k : ∀ v σ H Q, t' v σ H Q → t v σ H Q) : PG X tg t' := fun pins s σ H v u Q I r q => h pins s σ H v u Q I r (k v σ H Q q)
theorem pe_or {t t' : TE} (h : PE X e t) (h' : PE X e t') : PE X e (fun σ H Q => t σ H Q ∨ t' σ H Q) := fun pins s σ H Q I q => q.elim (h pins s σ H Q I) (h' pins s σ H Q I)
theorem pt_or {t t' : TT} (h : PT X e t) (h' : PT X e t') : PT X e (fun σ H Q => t σ H Q ∨ t' σ H Q) := fun pins s σ H Q I q => q.elim (h pins s σ H Q I) (h' pins s σ H Q I)
theorem ps_or {t t' : TS} (h : PS X st t) (h' : PS X st t') : PS X st (fun D σ H => t D σ H ∨ t' D σ H) := fun pins s σ H D I q => q.elim (h pins s σ H D I) (h' pins s σ H D I)
theorem pi_or {tg iter : Expr} {t t' : TI} (h : PI X tg iter t) (h' : PI X tg iter t') : PI X tg iter (fun σ H R => t σ H R ∨ t' σ H R) := fun pins s σ H R I q => q.elim (h pins s σ H R I) (h' pins s σ H R I)
end
section
variable {X : Cx} {κ : Str → Addr} {a b c : Expr} {fa fb fv : Mo Ev} {fc fd : Mo Bool} {fs : Mo (List Ev)} {es : List Expr} {pos : Pos}
@[irreducible] noncomputable def LE (X : Cx) (κ : Str → Addr) (e : Expr) (f : Mo Ev) : Prop := PE X e (UpE X.K κ f)
theorem LE.mk {X : Cx} {κ : Str → Addr} {e : Expr} {f : Mo Ev} (h : PE X e (UpE X.K κ f)) : LE X κ e f := by unfold LE; exact h
theorem LE.pe {X : Cx} {κ : Str → Addr} {e : Expr} {f : Mo Ev} (h : LE X κ e f) : PE X e (UpE X.K κ f) := by unfold LE at h; exact h
@[irreducible] noncomputable def LT (X : Cx) (κ : Str → Addr) (e : Expr) (f : Mo Bool) : Prop := PT X e (UpT X.K κ f)
theorem LT.mk {X : Cx} {κ : Str → Addr} {e : Expr} {f : Mo Bool} (h : PT X e (UpT X.K κ f)) : LT X κ e f := by unfold LT; exact h
theorem LT.pe {X : Cx} {κ : Str → Addr} {e : Expr} {f : Mo Bool} (h : LT X κ e f) : PT X e (UpT X.K κ f) := by unfold LT at h; exact h
@[irreducible] noncomputable def LW (X : Cx) (κ : Str → Addr) (e : Expr) (f : Mo Bool) : Prop := PW X e (UpT X.K κ f)
theorem LW.mk {X : Cx} {κ : Str → Addr} {e : Expr} {f : Mo Bool} (h : PW X e (UpT X.K κ f)) : LW X κ e f := by unfold LW; exact h
theorem LW.pe {X : Cx} {κ : Str → Addr} {e : Expr} {f : Mo Bool} (h : LW X κ e f) : PW X e (UpT X.K κ f) := by unfold LW at h; exact h
@[irreducible] noncomputable def LA (X : Cx) (κ : Str → Addr) (es : List Expr) (f : Mo (List Ev)) : Prop := PA X es (UpA X.K κ f)
theorem LA.mk {X : Cx} {κ : Str → Addr} {es : List Expr} {f : Mo (List Ev)} (h : PA X es (UpA X.K κ f)) : LA X κ es f := by unfold LA; exact h
theorem LA.pe {X : Cx} {κ : Str → Addr} {es : List Expr} {f : Mo (List Ev)} (h : LA X κ es f) : PA X es (UpA X.K κ f) := by unfold LA at h; exact h
@[irreducible] noncomputable def LS (X : Cx) (κ : Str → Addr) (s : Stmt) (f : SF) : Prop := PS X s (UpS X.K κ f)
theorem LS.mk {X : Cx} {κ : Str → Addr} {s : Stmt} {f : SF} (h : PS X s (UpS X.K κ f)) : LS X κ s f := by unfold LS; exact h
theorem LS.pe {X : Cx} {κ : Str → Addr} {s : Stmt} {f : SF} (h : LS X κ s f) : PS X s (UpS X.K κ f) := by unfold LS at h; exact h
@[irreducible] noncomputable def LSs (X : Cx) (κ : Str → Addr) (s : List Stmt) (f : SF) : Prop := PSs X s (UpS X.K κ f)
theorem LSs.mk {X : Cx} {κ : Str → Addr} {s : List Stmt} {f : SF} (h : PSs X s (UpS X.K κ f)) : LSs X κ s f := by unfold LSs; exact h
theorem LSs.pe {X : Cx} {κ : Str → Addr} {s : List Stmt} {f : SF} (h : LSs X κ s f) : PSs X s (UpS X.K κ f) := by unfold LSs at h; exact h
@[irreducible] noncomputable def LI (X : Cx) (κ : Str → Addr) (tg e : Expr) (f : IF) : Prop := PI X tg e (UpI X.K κ f)
theorem LI.mk {X : Cx} {κ : Str → Addr} {tg e : Expr} {f : IF} (h : PI X tg e (UpI X.K κ f)) : LI X κ tg e f := by unfold LI; exact h
theorem LI.pe {X : Cx} {κ : Str → Addr} {tg e : Expr} {f : IF} (h : LI X κ tg e f) : PI X tg e (UpI X.K κ f) := by unfold LI at h; exact h
@[irreducible] noncomputable def LG (X : Cx) (κ : Str → Addr) (tg : Expr) (f : GF) : Prop := PG X tg (UpG X.K κ f)
theorem LG.mk {X : Cx} {κ : Str → Addr} {tg : Expr} {f : GF} (h : PG X tg (UpG X.K κ f)) : LG X κ tg f := by unfold LG; exact h
theorem LG.pe {X : Cx} {κ : Str → Addr} {tg : Expr} {f : GF} (h : LG X κ tg f) : PG X tg (UpG X.K κ f) := by unfold LG at h; exact h
theorem e_var (i : Nat) {x : Str} (hN : X.N[i]? = some x := by rfl) (hv : Vis X.env.scope x := by first | exact Or.inl rfl | exact Or.inr (Or.inl rfl) | exact Or.inr (Or.inr rfl)) (hd : (x == ("__debug__" : Str)) = false := by decide)
    (hcd : (x == ("__classdict__" : Str)) = false := by decide) : LE X κ (.Name x pos) (varF i) := .mk (pe_imp (pe_var hN hv hd hcd) fun _ _ _ => up_var)
theorem e_int {i : Int} {j pos} : LE X κ (.Constant (.int i) j pos) (conF (.int i)) := .mk (pe_imp pe_int fun _ _ _ => up_con fun _ _ => .int _)
theorem e_bl {i : Bool} {j pos} : LE X κ (.Constant (.bool i) j pos) (conF (.bl i)) := .mk (pe_imp pe_bl fun _ _ _ => up_con fun _ _ => .bl _)
theorem e_non {j pos} : LE X κ (.Constant .none j pos) (conF .non) := .mk (pe_imp pe_non fun _ _ _ => up_con fun _ _ => .non)
theorem e_str {x : Str} {j pos} : LE X κ (.Constant (.str x) j pos) (conF (.str x)) := .mk (pe_imp pe_str fun _ _ _ => up_con fun _ _ => .str _)
theorem e_box (h : LE X κ a fa) : LE X κ a (boxF fa) := .mk (pe_imp h.pe fun _ _ _ => up_box)
theorem a_nil : LA X κ [] nilF := .mk (pa_imp pa_nil fun _ _ _ => upA_nil)
theorem a_cons (h : LE X κ a fa) (r : LA X κ es fs) (hs : starEach (a :: es) X.env = (false, eval a X.env) :: starEach es X.env := by rfl) : LA X κ (a :: es) (consF fa fs) := .mk (pa_imp (pa_cons h.pe r.pe hs) fun _ _ _ => upA_cons)
theorem e_op {op : Operator} {r : R2} {p : List Ev → Mo Ev} (ho : OpR X (binaryOp op) r) (hp : Prim X.K κ (r2 r) p) (ha : LE X κ a fa) (hb : LE X κ b fb) : LE X κ (.BinOp a op b pos) (opF p fa fb) := .mk (pe_imp (pe_op ho ha.pe hb.pe) fun _ _ _ => up_op hp)
theorem e_un {op : UnaryOp} {r : V → Hp → VK → Prop} {p : List Ev → Mo Ev} (ho : UnR X (unaryOp op) r) (hp : Prim X.K κ (r1 r) p) (ha : LE X κ a fa) : LE X κ (.UnaryOp op a pos) (unF p fa) := .mk (pe_imp (pe_un ho ha.pe) fun _ _ _ => up_un hp)
theorem e_cmpR {op : CmpOp} {r : R2} {p : List Ev → Mo Ev} (ho : OpR X (compareOp op) r) (hp : Prim X.K κ (r2 r) p) (ha : LE X κ a fa) (hb : LE X κ b fb) (hm : behindInMarks op b = false) : LE X κ (.Compare a [op] [b] pos) (opF p fa fb) := .mk (pe_imp (pe_cmpR ho ha.pe hb.pe hm) fun _ _ _ => up_op hp)
theorem t_cmpR {op : CmpOp} {r : R2} {p : List Ev → Mo Ev} (ho : OpR X (compareOp op) r) (hp : Prim X.K κ (r2 r) p) (ha : LE X κ a fa) (hb : LE X κ b fb) (hm : behindInMarks op b = false) : LT X κ (.Compare a [op] [b] pos) (tstF (opF p fa fb)) := .mk (pt_imp (pt_cmpR ho ha.pe hb.pe hm) fun σ H Q h => up_op hp (up_test h))
theorem e_tup {x1} (h : LA X κ es fs) : LE X κ (.Tuple es x1 pos) (bd fs tupP) := .mk (pe_imp (pe_tup h.pe) fun _ _ _ q => up_args prim_tup q)
theorem e_lst (h : LA X κ es fs) : LE X κ (.List es pos) (bd fs lstP) := .mk (pe_imp (pe_lst h.pe) fun _ _ _ q => up_args prim_lst q)
theorem t_w (h : LW X κ a fc) : LT X κ a fc := .mk (h.pe.pt)
theorem w_and1 (h : LT X κ a fc) : LW X κ (.BoolOp .And [a] pos) fc := .mk (pw_and1 h.pe)
theorem w_or1 (h : LT X κ a fc) : LW X κ (.BoolOp .Or [a] pos) fc := .mk (pw_or1 h.pe)
theorem w_and {rest : List Expr} (h : LT X κ a fc) (k : LW X κ (.BoolOp .And (b :: rest) pos) fd) : LW X κ (.BoolOp .And (a :: b :: rest) pos) (andF fc fd) := .mk (pw_imp (pw_and h.pe k.pe) fun _ _ _ => up_and)
theorem w_or {rest : List Expr} (h : LT X κ a fc) (k : LW X κ (.BoolOp .Or (b :: rest) pos) fd) : LW X κ (.BoolOp .Or (a :: b :: rest) pos) (orF fc fd) := .mk (pw_imp (pw_or h.pe k.pe) fun _ _ _ => up_or)
theorem t_not (h : LT X κ a fc) : LT X κ (.UnaryOp .Not a pos) (notF fc) := .mk (pt_imp (pt_not h.pe) fun _ _ _ => up_not)
/-- a value's truth -/
noncomputable def truE : Ev → Mo Bool := fun e δ G => match e with
  | .v (.im .non) => some (false, δ, G)
  | .v (.im (.bl b)) => some (b, δ, G)
  | .v (.im (.int i)) => some (i != 0, δ, G)
  | .v (.im (.str y)) => if y.length ≤ 1000000 then some ((y.length : Int) != 0, δ, G) else none
  | e => match pk δ G e with
    | some (.dic kvs) => some (!kvs.isEmpty, δ, G)
    | _ => match sq δ G e with
      | some xs => some (!xs.isEmpty, δ, G)
      | none => none
theorem isE {K : PySem.W.Frag} {ι : List Addr} {H : Hp} {vs : List V} {xs : List I} (r : RpIs K ι H vs xs) : (!xs.isEmpty) = !vs.isEmpty := by cases r <;> rfl
theorem up_tru {K : PySem.W.Frag} {f : Mo Ev} {σ : L2.St} {H : Hp} {Q : Bool → Hp → Prop} (h : UpT K κ (bd f truE) σ H Q) : UpE K κ f σ H fun x H' => ∃ k, TruV K x H' k ∧ Q k H' := by
  obtain ⟨ι, δ, G, t, δ', G', s, eq, k⟩ := h
  obtain ⟨x, δ1, G1, e1, eq⟩ := bd_inv eq
  refine ⟨ι, δ, G, x, δ1, G1, s, e1, fun v ι1 H1 a => ?_⟩
  obtain ⟨p, q⟩ := a.drop
  have seqs : ∀ {xs : List I}, sq δ1 G1 x = some xs → TruV K v H1 (!xs.isEmpty) := fun hx => by
    obtain ⟨b, ys, e2, h2, r⟩ := a.ar.sq (j := 0) rfl rfl hx
    subst e2
    rw [isE r]
    rcases h2 with h2 | h2
    · exact .inl ⟨ys, h2, rfl⟩
    · exact .inr (.inl ⟨ys, h2, rfl⟩)
  unfold truE at eq
  split at eq
  · cases eq; cases a.ar.im (j := 0) rfl rfl; exact ⟨_, rfl, k _ _ p q⟩
  · cases eq; cases a.ar.im (j := 0) rfl rfl; exact ⟨_, rfl, k _ _ p q⟩
  · cases eq; cases a.ar.im (j := 0) rfl rfl; exact ⟨_, rfl, k _ _ p q⟩
  · split at eq
    · rename_i y hy
      cases eq; cases a.ar.im (j := 0) rfl rfl
      exact ⟨_, ⟨Nat.le_trans hy (by decide), rfl⟩, k _ _ p q⟩
    · cases eq
  · split at eq
    · rename_i kvs hp
      cases eq
      obtain ⟨b, e2, ws, h1, h2, h3⟩ := a.ar.pk (j := 0) rfl rfl hp
      subst e2
      refine ⟨_, .inr (.inr ⟨ws, h1, ?_⟩), k _ _ p q⟩
      have := congrArg List.length h2
      simp at this
      cases kvs <;> cases ws <;> simp_all
    · split at eq
      · rename_i xs hx
        cases eq
        exact ⟨_, seqs hx, k _ _ p q⟩
      · cases eq
theorem t_tru (h : LE X κ a fa) (he : ∀ whole, isTrue a X.env whole = (do let v ← whole; standAt a.pos; holding [v] (truthy v)) := by intro _; rfl) : LT X κ a (bd fa truE) := .mk (pt_imp (pt_truth h.pe he) fun _ _ _ q => up_tru q)
noncomputable def slOk (δ : De) : Ev → Bool
  | .s i => match δ[i]? with
    | some (some (.ow _)) => true
    | _ => false
  | _ => true
noncomputable def isQ (pos : Bool) : List Ev → Mo Ev := fun es δ G => match es with
  | [.v (.im .non)] => some (.v (.im (.bl pos)), δ, G)
  | [e] => if slOk δ e then some (.v (.im (.bl (!pos))), δ, G) else none
  | _ => none
variable {s : Stmt} {ss ss2 : List Stmt} {f g : SF}
theorem ss_nil : LSs X κ [] skipF := .mk (pss_imp pss_nil fun _ _ _ => up_skip)
theorem ss_one (h : LS X κ s f) : LSs X κ [s] f := .mk (pss_one h.pe)
theorem ss_cons (h : LS X κ s f) (r : LSs X κ ss g) : LSs X κ (s :: ss) (seqF f g) := .mk (pss_imp (pss_cons h.pe r.pe) fun _ _ _ => up_seq)
theorem s_ret (h : LE X κ a fa) : LS X κ (.Return (some a) pos) (retF fa) := .mk (ps_imp (ps_ret h.pe) fun _ _ _ => up_ret)
theorem s_expr (h : LE X κ a fa) (hs : swapsWith a none pos.line X.env = pure false := by rfl) : LS X κ (.Expr a pos) (dropF fa) := .mk (ps_imp (ps_expr h.pe hs) fun _ _ _ => up_drop)
theorem s_if (hc : LT X κ c fc) (ha : LSs X κ ss f) (hb : LSs X κ ss2 g) : LS X κ (.If c ss ss2 pos) (iteF' fc f g) := .mk (ps_imp (ps_if hc.pe ha.pe hb.pe) fun _ _ _ => up_if)
theorem s_while (hc : LT X κ c fc) (hb : LSs X κ ss f) (hp : PassesOwn (model X.prog X.w) X.A X.env X.xe := by exact PassesOwn.never) : LS X κ (.While c ss [] pos) (whF fc f) := .mk (ps_imp (ps_while hp hc.pe hb.pe) fun _ _ _ => up_while)
theorem s_for {tg it : Expr} {fi : IF} {gf : GF} (hi : LI X κ tg it fi) (hg : LG X κ tg gf) (hb : LSs X κ ss f) (hc : X.calm = true := by rfl) (hp : PassesOwn (model X.prog X.w) X.A X.env X.xe := by exact PassesOwn.never) (hs : ∀ x, foldedSetIterable it X.env x = pure x := by intro _; rfl) : LS X κ (.For tg it ss [] pos) (forF fi gf f) := .mk (ps_imp (ps_for hp hc hi.pe hg.pe hb.pe hs) fun _ _ _ => up_for)
theorem g_nm {i : Nat} {x : Str} {p : Pos} (hN : X.N.Nodup) (hi : X.N[i]? = some x := by rfl) (hx : Loc X.env.scope x := by first | exact Or.inl rfl | exact Or.inr rfl) (hf : X.fn x = true ∨ X.env.scope.names.lookup x = some .local := by first | exact .inl rfl | exact .inr rfl | assumption) : LG X κ (.Name x p) (gNm i) := .mk (pg_imp (pg_name hN hi hx hf) fun _ _ _ _ => up_gnm)
end
end B
namespace B
open PySem PySem.Spec PyProof.Rows L2
section
variable {X : Cx} {K : PySem.W.Frag} {κ : Str → Addr}
noncomputable def intP (f : Int → Int → Option I) : List Ev → Mo Ev := fun es δ G => match es with
  | [.v (.im (.int i)), .v (.im (.int j))] => match f i j with
    | some d => some (.v (.im d), δ, G)
    | none => none
  | _ => none
theorem prim_rI {C : Int → Int → Prop} {g : Int → Int → V} {f : Int → Int → Option I} (hf : ∀ i j d, f i j = some d → C i j ∧ ∀ ι H, RpI K ι H (g i j) d) : Prim K κ (r2 (rI C g)) (intP f) := by
  intro ι H σ δ G es vs e δ' G' Q a h k
  unfold intP at h
  split at h
  · rename_i i j
    split at h
    · rename_i d hd
      cases h
      obtain ⟨v, u, rfl⟩ := len2 a.len
      cases a.im (j := 0) rfl rfl
      cases a.im (j := 1) rfl rfl
      obtain ⟨c, r⟩ := hf i j d hd
      exact ⟨_, _, rfl, i, j, rfl, rfl, c, k _ _ _ (fin_im a (r ι H))⟩
    · cases h
  · cases h
theorem prim_rI0 {g : Int → Int → V} {f : Int → Int → Option I} (hf : ∀ i j d, f i j = some d → ∀ ι H, RpI K ι H (g i j) d) : Prim K κ (r2 (rI0 g)) (intP f) := by
  intro ι H σ δ G es vs e δ' G' Q a h k
  obtain ⟨x, y, e1, i, j, e2, e3, _, q⟩ := prim_rI (C := fun _ _ => True) (fun i j d hd => ⟨trivial, hf i j d hd⟩) ι H σ δ G es vs e δ' G' Q a h k
  exact ⟨x, y, e1, i, j, e2, e3, q⟩
theorem Prim.or {r r' : R2} {p p' : List Ev → Mo Ev} (h : Prim K κ (r2 r) p) (h' : Prim K κ (r2 r') p') : Prim K κ (r2 fun x y H Q => r x y H Q ∨ r' x y H Q) (fun es δ G => match p es δ G with | some z => some z | none => p' es δ G) := by
  intro ι H σ δ G es vs e δ' G' Q a hp k
  dsimp only at hp
  split at hp
  · rename_i z hz
    cases hp
    obtain ⟨x, y, e1, q⟩ := h ι H σ δ G es vs _ _ _ Q a hz k
    exact ⟨x, y, e1, .inl q⟩
  · obtain ⟨x, y, e1, q⟩ := h' ι H σ δ G es vs _ _ _ Q a hp k
    exact ⟨x, y, e1, .inr q⟩
noncomputable def orP (p p' : List Ev → Mo Ev) : List Ev → Mo Ev := fun es δ G => match p es δ G with | some z => some z | none => p' es δ G
noncomputable def catS : List Ev → Mo Ev := fun es δ G => match es with
  | [.v (.im (.str x)), .v (.im (.str y))] => if x.length + y.length ≤ 1000000 then some (.v (.im (.str (x ++ y))), δ, G) else none
  | _ => none
theorem prim_catS : Prim K κ (r2 fun x y H Q => ∃ i j, x = .str i ∧ y = .str j ∧ i.length + j.length ≤ sizeLine ∧ Q (.str (i ++ j)) H) catS := by
  intro ι H σ δ G es vs e δ' G' Q a h k
  unfold catS at h
  split at h
  · rename_i i j
    split at h
    · rename_i hl
      cases h
      obtain ⟨v, u, rfl⟩ := len2 a.len
      cases a.im (j := 0) rfl rfl
      cases a.im (j := 1) rfl rfl
      exact ⟨_, _, rfl, i, j, rfl, rfl, Nat.le_trans hl (by decide), k _ _ _ (fin_im a (.str _))⟩
    · cases h
  · cases h
noncomputable def rCatTT (K : PySem.W.Frag) : R2 := fun x y H Q => ∃ a b xs ys, x = .ref a ∧ y = .ref b ∧ SqT K H a xs ∧ SqT K H b ys ∧ xs.length + ys.length ≤ sizeLine ∧
  (xs = [] → Q (.ref b) H) ∧ (xs ≠ [] → ys = [] → Q (.ref a) H) ∧ (xs ≠ [] → ys ≠ [] → ∀ p, H p = none → Q (.ref p) (upd H p (.tup (xs ++ ys))))
theorem op_catTT : OpR X (binaryOp .Add) (rCatTT X.K) := by
  intro pins s σ H x y v u Q I rx ry h
  obtain ⟨a, b, xs, ys, rfl, rfl, ha, hb, hz, q0, q1, q2⟩ := h
  by_cases hx : xs = []
  · cases rx
    cases ry
    obtain ⟨its, r1, p1, _⟩ := I.tuple ha
    obtain ⟨its2, r2, p2, _⟩ := I.tuple hb
    have hi : its = [] := r1.nil_iff.mpr hx
    obtain ⟨⟨cls, dd, data, sl⟩, ho, hc, n, hd⟩ := id p1
    obtain ⟨⟨cls2, dd2, data2, sl2⟩, ho2, hc2, n2, hd2⟩ := id p2
    simp only at hc hd hc2 hd2
    subst hc hd hc2 hd2
    exact concat_meets ⟨_, ho, rfl⟩ ⟨_, ho2, rfl⟩ noFill_tuple_add seq_tuple_add PySem.F.slot_tuple_add PySem.F.entry_tuple_add (PySem.F.args_tuple_add_2 _ _)
      (tuple_addW0 a b its.toArray its2.toArray n n2 dd dd2 sl sl2 (by simp [hi])) ⟨ho, ho2, ⟨.ref b, H, I, rfl, q0 hx⟩⟩
  · exact op_catT pins s σ H _ _ v u Q I rx ry ⟨a, b, xs, ys, rfl, rfl, ha, hb, hx, hz, q1 hx, q2 hx⟩
noncomputable def catT : List Ev → Mo Ev := fun es δ G => match es with
  | [.v (.im (.tup xs)), .v (.im (.tup ys))] => if xs.length + ys.length ≤ 1000000 then some (.v (.im (.tup (xs ++ ys))), δ, G) else none
  | _ => none
theorem prim_catT : Prim K κ (r2 (rCatTT K)) catT := by
  intro ι H σ δ G es vs e δ' G' Q a h k
  unfold catT at h
  split at h
  · rename_i xs ys
    split at h
    · rename_i hl
      cases h
      obtain ⟨v, u, rfl⟩ := len2 a.len
      have ra := a.im (j := 0) rfl rfl
      have rb := a.im (j := 1) rfl rfl
      cases ra with
      | @tup p vs1 _ h1 r1 =>
        cases rb with
        | @tup q vs2 _ h2 r2 =>
          have l1 := r1.len
          have l2 := r2.len
          refine ⟨_, _, rfl, p, q, vs1, vs2, rfl, rfl, SqT.of h1, SqT.of h2, Nat.le_trans (by lia) (show 1000000 ≤ sizeLine by decide), fun e => ?_, fun _ e => ?_, fun _ _ p' hp => ?_⟩
          · subst e
            cases r1
            exact k _ _ _ (fin_im a (.tup h2 r2))
          · subst e
            cases r2
            exact k _ _ _ (fin_im a (by rw [List.append_nil]; exact .tup h1 r1))
          · exact k _ _ _ (fin_tup a hp (r1.app r2))
    · cases h
  · cases h
noncomputable def catL : List Ev → Mo Ev := fun es δ G => match es with
  | [a, b] => match pk δ G a, pk δ G b with
    | some (.lst xs), some (.lst ys) => if xs.length + ys.length ≤ 1000000 then some (.v (.ow (.lst (xs ++ ys))), δ, G) else none
    | _, _ => none
  | _ => none
theorem prim_catL : Prim K κ (r2 rCat) catL := by
  intro ι H σ δ G es vs e δ' G' Q a h k
  unfold catL at h
  split at h
  · rename_i x y
    split at h
    · rename_i xs ys hx hy
      split at h
      · rename_i hl
        cases h
        obtain ⟨v, u, rfl⟩ := len2 a.len
        obtain ⟨p, e1, vs1, h1, r1⟩ := a.pk (j := 0) rfl rfl hx
        obtain ⟨q, e2, vs2, h2, r2⟩ := a.pk (j := 1) rfl rfl hy
        subst e1; subst e2
        have l1 := r1.len
        have l2 := r2.len
        exact ⟨_, _, rfl, p, q, vs1, vs2, rfl, rfl, h1, h2, Nat.le_trans (by lia) (show 1000000 ≤ sizeLine by decide), fun p' hp => k _ _ _ (fin_lst a hp (r1.app r2))⟩
      · cases h
    · cases h
  · cases h
noncomputable def addI : List Ev → Mo Ev := intP fun i j => some (.int (i + j))
noncomputable def addP : List Ev → Mo Ev := orP addI (orP catS (orP catT catL))
theorem q_add {k : Nat} {A : Around} (hr : Room k A) : OpR X (binaryOp .Add) (fun x y H Q => rI0 (fun i j => .int (i + j)) x y H Q ∨ ((∃ i j, x = .str i ∧ y = .str j ∧ i.length + j.length ≤ sizeLine ∧ Q (.str (i ++ j)) H) ∨ (rCatTT X.K x y H Q ∨ rCat x y H Q))) :=
  op_add.or (op_add_str.or (op_catTT.or op_cat))
theorem p_add : Prim K κ (r2 fun x y H Q => rI0 (fun i j => .int (i + j)) x y H Q ∨ ((∃ i j, x = .str i ∧ y = .str j ∧ i.length + j.length ≤ sizeLine ∧ Q (.str (i ++ j)) H) ∨ (rCatTT K x y H Q ∨ rCat x y H Q))) addP :=
  Prim.or (prim_rI0 fun i j d h ι H => by cases h; exact .int _) (Prim.or prim_catS (Prim.or prim_catT prim_catL))
noncomputable def subP : List Ev → Mo Ev := intP fun i j => some (.int (i - j))
theorem q_sub {k : Nat} {A : Around} (hr : Room k A) : OpR X (binaryOp .Sub) (rI0 fun i j => .int (i - j)) := op_sub
theorem p_sub : Prim K κ (r2 (rI0 fun i j => .int (i - j))) subP := prim_rI0 fun i j d h ι H => by cases h; exact .int _
noncomputable def mulI : List Ev → Mo Ev := intP fun i j => if (-(2 ^ 64) < i ∧ i < 2 ^ 64) ∨ (-(2 ^ 64) < j ∧ j < 2 ^ 64) then some (.int (i * j)) else none
noncomputable def repL : List Ev → Mo Ev := fun es δ G => match es with
  | [a, .v (.im (.int j))] => match pk δ G a with
    | some (.lst xs) => if 0 ≤ j ∧ j ≤ 1000 ∧ xs.length ≤ 1000 then some (.v (.ow (.lst (List.replicate j.toNat xs).flatten)), δ, G) else none
    | _ => none
  | _ => none
theorem RpIs.rep {ι : List Addr} {H : Hp} {vs : List V} {xs : List I} (r : RpIs K ι H vs xs) : ∀ n : Nat, RpIs K ι H (List.replicate n vs).flatten (List.replicate n xs).flatten
  | 0 => .nil
  | n + 1 => by rw [List.replicate_succ, List.replicate_succ, List.flatten_cons, List.flatten_cons]; exact r.app (RpIs.rep r n)
theorem prim_repL : Prim K κ (r2 rRep) repL := by
  intro ι H σ δ G es vs e δ' G' Q a h k
  unfold repL at h
  split at h
  · rename_i x j
    split at h
    · rename_i xs hx
      split at h
      · rename_i hl
        cases h
        obtain ⟨v, u, rfl⟩ := len2 a.len
        obtain ⟨p, e1, vs1, h1, r1⟩ := a.pk (j := 0) rfl rfl hx
        cases a.im (j := 1) rfl rfl
        subst e1
        have l1 := r1.len
        refine ⟨_, _, rfl, p, j, vs1, rfl, rfl, h1, by lia, by lia, Nat.le_trans (Nat.mul_le_mul (show vs1.length ≤ 1000 by lia) (show j.toNat ≤ 1000 by lia)) (show 1000 * 1000 ≤ sizeLine by decide), fun p' hp => k _ _ _ (fin_lst a hp (r1.rep _))⟩
      · cases h
    · cases h
  · cases h
noncomputable def repS : List Ev → Mo Ev := fun es δ G => match es with
  | [.v (.im (.str z)), .v (.im (.int j))] => if 0 ≤ j ∧ j ≤ 1000 ∧ z.length ≤ 1000 then some (.v (.im (.str (PySem.Txt.mul z j))), δ, G) else none
  | _ => none
noncomputable def rRepS : R2 := fun x y H Q => ∃ z n, x = .str z ∧ y = .int n ∧ MulOk z n ∧ Q (.str (PySem.Txt.mul z n)) H
theorem mulOk_of {z : Str} {j : Int} (h : 0 ≤ j ∧ j ≤ 1000 ∧ z.length ≤ 1000) : MulOk z j := by
  obtain ⟨h0, h1, h2⟩ := h
  have hb : (z.length : Int) * j ≤ 1000 * 1000 := Int.mul_le_mul (by lia) h1 h0 (by lia)
  have hn : z.length * j.toNat ≤ 1000 * 1000 := Nat.mul_le_mul h2 (by lia)
  refine ⟨by simp only [Bool.or_eq_false_iff, decide_eq_false_iff_not]; lia, fun h3 _ h4 => ?_, fun _ _ => ?_⟩
  · have := (Int.le_ediv_iff_mul_le (c := j) (a := (z.length : Int)) (b := 2 ^ 63 - 1) (by lia)).mpr (by lia)
    lia
  · exact decide_eq_false (by have : (1000 * 1000 : Nat) ≤ sizeLine := by decide
                              lia)
theorem prim_repS : Prim K κ (r2 rRepS) repS := by
  intro ι H σ δ G es vs e δ' G' Q a h k
  unfold repS at h
  split at h
  · rename_i z j
    split at h
    · rename_i hl
      cases h
      obtain ⟨v, u, rfl⟩ := len2 a.len
      cases a.im (j := 0) rfl rfl
      cases a.im (j := 1) rfl rfl
      exact ⟨_, _, rfl, z, j, rfl, rfl, mulOk_of hl, k _ _ _ (fin_im a (.str _))⟩
    · cases h
  · cases h
noncomputable def mulP : List Ev → Mo Ev := orP mulI (orP repL repS)
theorem q_mul {k : Nat} {A : Around} (hr : Room k A) : OpR X (binaryOp .Mult) (fun x y H Q => rI CMul (fun i j => .int (i * j)) x y H Q ∨ (rRep x y H Q ∨ rRepS x y H Q)) := op_mul.or (op_rep.or op_mul_str)
theorem p_mul : Prim K κ (r2 fun x y H Q => rI CMul (fun i j => .int (i * j)) x y H Q ∨ (rRep x y H Q ∨ rRepS x y H Q)) mulP := Prim.or (prim_rI fun i j d h => by
  split at h
  · rename_i c; cases h; exact ⟨c, fun ι H => .int _⟩
  · cases h) (Prim.or prim_repL prim_repS)
noncomputable def fdivP : List Ev → Mo Ev := intP fun i j => if 0 < j ∧ j < 2 ^ 200 then some (.int (i / j)) else none
theorem q_fdiv {k : Nat} {A : Around} (hr : Room k A) : OpR X (binaryOp .FloorDiv) (rI (fun _ j => 0 < j ∧ j < 2 ^ 200) fun i j => .int (i / j)) := op_fdivB
theorem p_fdiv : Prim K κ (r2 (rI (fun _ j => 0 < j ∧ j < 2 ^ 200) fun i j => .int (i / j))) fdivP := prim_rI fun i j d h => by
  split at h
  · rename_i c; cases h; exact ⟨c, fun ι H => .int _⟩
  · cases h
noncomputable def modP : List Ev → Mo Ev := intP fun i j => if 0 < j then some (.int (i % j)) else none
theorem q_mod {k : Nat} {A : Around} (hr : Room k A) : OpR X (binaryOp .Mod) (rI (fun _ j => 0 < j) fun i j => .int (i % j)) := op_mod
theorem p_mod : Prim K κ (r2 (rI (fun _ j => 0 < j) fun i j => .int (i % j))) modP := prim_rI fun i j d h => by
  split at h
  · rename_i c; cases h; exact ⟨c, fun ι H => .int _⟩
  · cases h
noncomputable def powP : List Ev → Mo Ev := intP fun i j => if 0 ≤ j ∧ j ≤ 1000000 ∧ i.natAbs < 2 ^ 64 then some (.int (i ^ j.toNat)) else none
theorem q_pow {k : Nat} {A : Around} (hr : Room k A) : OpR X (binaryOp .Pow) (rI CPow fun i j => .int (i ^ j.toNat)) := op_pow
theorem p_pow : Prim K κ (r2 (rI CPow fun i j => .int (i ^ j.toNat))) powP := prim_rI fun i j d h => by
  split at h
  · rename_i c; cases h; exact ⟨c, fun ι H => .int _⟩
  · cases h
noncomputable def shlP : List Ev → Mo Ev := intP fun i j => if 0 ≤ j ∧ j ≤ 1000000 ∧ i.natAbs < 2 ^ 64 then some (.int (i * 2 ^ j.toNat)) else none
theorem q_shl {k : Nat} {A : Around} (hr : Room k A) : OpR X (binaryOp .LShift) (rI CPow fun i j => .int (i * 2 ^ j.toNat)) := op_shl
theorem p_shl : Prim K κ (r2 (rI CPow fun i j => .int (i * 2 ^ j.toNat))) shlP := prim_rI fun i j d h => by
  split at h
  · rename_i c; cases h; exact ⟨c, fun ι H => .int _⟩
  · cases h
noncomputable def shrP : List Ev → Mo Ev := intP fun i j => if 0 ≤ j then some (.int (i / 2 ^ j.toNat)) else none
noncomputable def negP : List Ev → Mo Ev := fun es δ G => match es with
  | [.v (.im (.int i))] => some (.v (.im (.int (-i))), δ, G)
  | _ => none
theorem prim_neg : Prim K κ (r1 (rU fun i => .int (-i))) negP := by
  intro ι H σ δ G es vs e δ' G' Q a h k
  unfold negP at h
  split at h
  · rename_i i
    cases h
    obtain ⟨v, rfl⟩ := len1 a.len
    cases a.im (j := 0) rfl rfl
    exact ⟨_, rfl, i, rfl, k _ _ _ (fin_im a (.int _))⟩
  · cases h
theorem e_neg {a : Expr} {fa : Mo Ev} {pos : Pos} (h : LE X κ a fa) : LE X κ (.UnaryOp .USub a pos) (unF negP fa) := e_un un_neg prim_neg h
noncomputable def ltP : List Ev → Mo Ev := intP fun i j => some (.bl (decide (i < j)))
noncomputable def leP : List Ev → Mo Ev := intP fun i j => some (.bl (decide (i ≤ j)))
noncomputable def gtP : List Ev → Mo Ev := intP fun i j => some (.bl (decide (j < i)))
noncomputable def geP : List Ev → Mo Ev := intP fun i j => some (.bl (decide (j ≤ i)))
end
end B
set_option maxHeartbeats 400000
namespace B
open PySem PySem.Spec PyProof.Rows L2
section
variable {X : Cx} {K : PySem.W.Frag} {κ : Str → Addr} {H : Hp}
noncomputable def isTp (K : PySem.W.Frag) (H : Hp) (x : V) : Prop := ∃ a xs, x = .ref a ∧ SqT K H a xs
noncomputable def EqF (K : PySem.W.Frag) (H : Hp) (x y : V) (b : Bool) : Prop := (flatV x = true ∧ flatV y = true ∧ b = eqV x y) ∨ (isTp K H x ∧ flatV y = true ∧ b = false) ∨ (flatV x = true ∧ isTp K H y ∧ b = false)
noncomputable def EqV (K : PySem.W.Frag) (H : Hp) : Nat → V → V → Bool → Prop
  | 0, x, y, b => EqF K H x y b
  | n + 1, x, y, b => EqF K H x y b ∨ ∃ a c xs ys e, x = .ref a ∧ y = .ref c ∧ SqT K H a xs ∧ SqT K H c ys ∧ (∀ (j : Nat) u w, xs[j]? = some u → ys[j]? = some w → EqV K H n u w (e j)) ∧ b = ((List.range (min xs.length ys.length)).all e && xs.length == ys.length)
theorem eqV_refl {x : V} (h : flatV x = true) : eqV x x = true := by
  cases x with
  | non => rfl
  | bl b => exact beq_self_eq_true b
  | int i => exact beq_self_eq_true i
  | str z => exact beq_self_eq_true z
  | _ => cases h
theorem EqF.refl {pins : List (Addr × Obj)} {σ : L2.St} {s : Shared} {x : V} {b : Bool} (I : Inv X pins σ H s) (h : EqF X.K H x x b) : b = true := by
  rcases h with ⟨h1, _, rfl⟩ | ⟨⟨a, xs, rfl, _⟩, h2, _⟩ | ⟨h2, ⟨a, xs, rfl, _⟩, _⟩
  · exact eqV_refl h1
  · cases h2
  · cases h2
theorem EqV.refl {pins : List (Addr × Obj)} {σ : L2.St} {s : Shared} (I : Inv X pins σ H s) : ∀ {n : Nat} {x : V} {b : Bool}, EqV X.K H n x x b → b = true
  | 0, _, _, h => EqF.refl I h
  | n + 1, x, b, h => by
    rcases h with h | ⟨a, c, xs, ys, e, e1, e2, h1, h2, he, rfl⟩
    · exact EqF.refl I h
    · subst e1; cases e2
      have := I.tuple_inj h1 h2
      subst this
      rw [Nat.min_self]
      have : (List.range xs.length).all e = true := by
        rw [List.all_eq_true]
        intro j hj
        have hj : j < xs.length := by simpa using hj
        exact EqV.refl I (he j _ _ (List.getElem?_eq_getElem hj) (List.getElem?_eq_getElem hj))
      rw [this]; simp
theorem seqEl {xs : List V} {us : List Value} {j : Nat} (r : Vals xs us) (h : j < us.toArray.size) : ∃ x, xs[j]? = some x ∧ RelV x us.toArray[j] := by
  have l := r.length
  have h' : j < xs.length := by rw [l]; simpa using h
  obtain ⟨u, eu, ru⟩ := r.get (List.getElem?_eq_getElem h')
  refine ⟨_, List.getElem?_eq_getElem h', ?_⟩
  have : us.toArray[j]? = some u := by simpa using eu
  rw [Array.getElem?_eq_getElem h] at this
  rw [Option.some.inj this]
  exact ru
theorem eqF_at {A : Around} {pins : List (Addr × Obj)} {σ : L2.St} {s : Shared} {x y : V} {u w : Value} {b : Bool} (I : Inv X pins σ H s) (h : EqF X.K H x y b) (ru : RelV x u) (rw' : RelV y w) (hu : A.units < cLine) : SeqAt.EqAt A s u w b := by
  rcases h with ⟨h1, h2, rfl⟩ | ⟨⟨a, xs, rfl, ht⟩, h2, rfl⟩ | ⟨h2, ⟨a, xs, rfl, ht⟩, rfl⟩
  · exact eqAt_V ru rw' h1 h2
  · cases ru
    obtain ⟨its, r1, p1, _⟩ := I.tuple ht
    have p1 : s.heap.IsTuple a its.toArray := p1
    cases y with
    | non => cases rw'; exact SeqAt.EqAt.tuple_none p1 hu
    | bl c => cases rw'; exact SeqAt.EqAt.tuple_bool _ p1 hu
    | int i => obtain ⟨t, rfl⟩ := rw'; exact SeqAt.EqAt.tuple_int _ _ p1 hu
    | str z => obtain ⟨t, rfl⟩ := rw'; exact SeqAt.EqAt.tuple_str _ _ p1 hu
    | _ => cases h2
  · cases rw'
    obtain ⟨its, r1, p1, _⟩ := I.tuple ht
    have p1 : s.heap.IsTuple a its.toArray := p1
    cases x with
    | non => cases ru; exact SeqAt.EqAt.none_tuple p1 hu
    | bl c => cases ru; exact SeqAt.EqAt.bool_tuple _ p1 hu
    | int i => obtain ⟨t, rfl⟩ := ru; exact SeqAt.EqAt.int_tuple _ _ p1 hu
    | str z => obtain ⟨t, rfl⟩ := ru; exact SeqAt.EqAt.str_tuple _ _ p1 hu
    | _ => cases h2
theorem eqV_at : ∀ {n : Nat} {A : Around} {pins : List (Addr × Obj)} {σ : L2.St} {s : Shared} {x y : V} {u w : Value} {b : Bool}, Inv X pins σ H s → EqV X.K H n x y b → RelV x u → RelV y w → A.units + n < cLine → SeqAt.EqAt A s u w b
  | 0, _, _, _, _, _, _, _, _, _, I, h, ru, rw', hu => eqF_at I h ru rw' hu
  | n + 1, A, _, _, s, _, _, _, _, _, I, h, ru, rw', hu => by
    rcases h with h | ⟨a, c, xs, ys, e, e1, e2, h1, h2, he, rfl⟩
    · exact eqF_at I h ru rw' (by lia)
    · subst e1; subst e2
      cases ru; cases rw'
      by_cases hac : a = c
      · subst hac
        have := EqV.refl (n := n + 1) I (.inr ⟨a, a, xs, ys, e, rfl, rfl, h1, h2, he, rfl⟩)
        rw [this]
        exact SeqAt.EqAt.same _
      · obtain ⟨its, r1, p1, _⟩ := I.tuple h1
        obtain ⟨its2, r2, p2, _⟩ := I.tuple h2
        have q := SeqAt.RcAt.tuples (A := A) (e := e) (show s.heap.IsTuple a its.toArray from p1) (show s.heap.IsTuple c its2.toArray from p2) (by lia) (fun j z1 z2 => by
          obtain ⟨x, ex, rx⟩ := seqEl r1 z1
          obtain ⟨y, ey, ry⟩ := seqEl r2 z2
          exact eqV_at I (he j x y ex ey) rx ry (by show A.units + 1 + n < cLine; lia))
        rw [List.size_toArray, List.size_toArray, ← r1.length, ← r2.length] at q
        exact SeqAt.EqAt.of_refs hac q
end
end B
namespace B
open PySem PySem.Spec PyProof.Rows L2
section
variable {X : Cx} {K : PySem.W.Frag} {κ : Str → Addr} {H : Hp}
/-- two lists -/
noncomputable def EqL (K : PySem.W.Frag) (H : Hp) (n : Nat) (x y : V) (b : Bool) : Prop := ∃ a c xs ys, x = .ref a ∧ y = .ref c ∧ SqL K H a xs ∧ SqL K H c ys ∧ ((xs.length ≠ ys.length ∧ b = false) ∨ (xs.length = ys.length ∧ ∃ e, (∀ (j : Nat) u w, xs[j]? = some u → ys[j]? = some w → EqV K H n u w (e j)) ∧ b = (List.range xs.length).all e))
noncomputable def EqTop (K : PySem.W.Frag) (H : Hp) (x y : V) (b : Bool) : Prop := (scal x y = true ∧ b = decide (x = y)) ∨ (isTp K H x ∧ flatV y = true ∧ b = false) ∨ (flatV x = true ∧ isTp K H y ∧ b = false) ∨
  (∃ a c xs ys e, x = .ref a ∧ y = .ref c ∧ SqT K H a xs ∧ SqT K H c ys ∧ (∀ (j : Nat) u w, xs[j]? = some u → ys[j]? = some w → EqV K H 40 u w (e j)) ∧ b = ((List.range (min xs.length ys.length)).all e && xs.length == ys.length)) ∨ EqL K H 40 x y b
theorem op_eqN (hu : X.A.units + 50 < cLine) : OpR X (compareOp .Eq) (fun x y H Q => ∃ b, EqTop X.K H x y b ∧ Q (.bl b) H) := by
  intro pins s σ H x y v u Q I rx ry h
  obtain ⟨b, h, q⟩ := h
  have hu0 : X.A.units < cLine := by lia
  have hel : ∀ {xs ys : List V} {us ws : List Value} {e : Nat → Bool}, Vals xs us → Vals ys ws → (∀ (j : Nat) u w, xs[j]? = some u → ys[j]? = some w → EqV X.K H 40 u w (e j)) → ∀ j (z1 : j < us.toArray.size) (z2 : j < ws.toArray.size), SeqAt.EqAt X.A.in1 s us.toArray[j] ws.toArray[j] (e j) := fun r1 r2 he j z1 z2 => by
    obtain ⟨x, ex, rx⟩ := seqEl r1 z1
    obtain ⟨y, ey, ry⟩ := seqEl r2 z2
    exact eqV_at I (he j x y ex ey) rx ry (by show X.A.units + 1 + 40 < cLine; lia)
  rcases h with ⟨hs, rfl⟩ | ⟨⟨a, xs, rfl, ht⟩, h2, rfl⟩ | ⟨h2, ⟨a, xs, rfl, ht⟩, rfl⟩ | ⟨a, c, xs, ys, e, rfl, rfl, h1, h2, he, rfl⟩ | ⟨a, c, xs, ys, rfl, rfl, h1, h2, h3⟩
  · exact op_eq pins s σ H x y v u Q I rx ry ⟨hs, q⟩
  · cases rx
    obtain ⟨its, r1, p1, _⟩ := I.tuple ht
    have p1 : s.heap.IsTuple a its.toArray := p1
    have fin : EP X pins σ Q (.bool false) s := ⟨.bl false, H, I, rfl, q⟩
    cases y with
    | non => cases ry; exact SeqAt.RcAt.tuple_none p1 hu0 _ _ _ _ fin
    | bl c => cases ry; exact SeqAt.RcAt.tuple_bool _ p1 hu0 _ _ _ _ fin
    | int i => obtain ⟨t, rfl⟩ := ry; exact SeqAt.RcAt.tuple_int _ _ p1 hu0 _ _ _ _ fin
    | str z => obtain ⟨t, rfl⟩ := ry; exact SeqAt.RcAt.tuple_str _ _ p1 hu0 _ _ _ _ fin
    | _ => cases h2
  · cases ry
    obtain ⟨its, r1, p1, _⟩ := I.tuple ht
    have p1 : s.heap.IsTuple a its.toArray := p1
    have fin : EP X pins σ Q (.bool false) s := ⟨.bl false, H, I, rfl, q⟩
    cases x with
    | non => cases rx; exact SeqAt.RcAt.none_tuple p1 hu0 _ _ _ _ fin
    | bl c => cases rx; exact SeqAt.RcAt.bool_tuple _ p1 hu0 _ _ _ _ fin
    | int i => obtain ⟨t, rfl⟩ := rx; exact SeqAt.RcAt.int_tuple _ _ p1 hu0 _ _ _ _ fin
    | str z => obtain ⟨t, rfl⟩ := rx; exact SeqAt.RcAt.str_tuple _ _ p1 hu0 _ _ _ _ fin
    | _ => cases h2
  · cases rx; cases ry
    obtain ⟨its, r1, p1, _⟩ := I.tuple h1
    obtain ⟨its2, r2, p2, _⟩ := I.tuple h2
    refine SeqAt.RcAt.tuples (e := e) (show s.heap.IsTuple a its.toArray from p1) (show s.heap.IsTuple c its2.toArray from p2) hu0 (hel r1 r2 he) _ _ _ _ ?_
    rw [List.size_toArray, List.size_toArray, ← r1.length, ← r2.length]
    exact ⟨.bl _, H, I, rfl, q⟩
  · cases rx; cases ry
    obtain ⟨its, r1, p1, _⟩ := I.list h1
    obtain ⟨its2, r2, p2, _⟩ := I.list h2
    have l1 := r1.length
    have l2 := r2.length
    rcases h3 with ⟨hn, rfl⟩ | ⟨hn, e, he, rfl⟩
    · exact SeqAt.RcAt.lists_lengths p1.isList p2.isList (by simp; lia) hu0 X.prog X.w X.xe _ ⟨.bl _, H, I, rfl, q⟩
    · refine SeqAt.eq_listAt p1.isList p2.isList (by simp; lia) hu0 (hel r1 r2 he) ?_
      rw [List.size_toArray, ← l1]
      exact ⟨.bl _, H, I, rfl, q⟩
end
end B
namespace B
open PySem PySem.Spec PyProof.Rows L2
section
variable {X : Cx} {K : PySem.W.Frag} {κ : Str → Addr} {H : Hp}
theorem op_neN (hu : X.A.units + 50 < cLine) : OpR X (compareOp .NotEq) (fun x y H Q => ∃ b, EqTop X.K H x y b ∧ Q (.bl (!b)) H) := by
  intro pins s σ H x y v u Q I rx ry h
  obtain ⟨b, h, q⟩ := h
  have hu0 : X.A.units < cLine := by lia
  have hel : ∀ {xs ys : List V} {us ws : List Value} {e : Nat → Bool}, Vals xs us → Vals ys ws → (∀ (j : Nat) u w, xs[j]? = some u → ys[j]? = some w → EqV X.K H 40 u w (e j)) → ∀ j (z1 : j < us.toArray.size) (z2 : j < ws.toArray.size), SeqAt.EqAt X.A.in1 s us.toArray[j] ws.toArray[j] (e j) := fun r1 r2 he j z1 z2 => by
    obtain ⟨x, ex, rx⟩ := seqEl r1 z1
    obtain ⟨y, ey, ry⟩ := seqEl r2 z2
    exact eqV_at I (he j x y ex ey) rx ry (by show X.A.units + 1 + 40 < cLine; lia)
  rcases h with ⟨hs, rfl⟩ | ⟨⟨a, xs, rfl, ht⟩, h2, rfl⟩ | ⟨h2, ⟨a, xs, rfl, ht⟩, rfl⟩ | ⟨a, c, xs, ys, e, rfl, rfl, h1, h2, he, rfl⟩ | ⟨a, c, xs, ys, rfl, rfl, h1, h2, h3⟩
  · exact op_ne pins s σ H x y v u Q I rx ry ⟨hs, q⟩
  · cases rx
    obtain ⟨its, r1, p1, _⟩ := I.tuple ht
    have p1 : s.heap.IsTuple a its.toArray := p1
    have fin : EP X pins σ Q (.bool true) s := ⟨.bl true, H, I, rfl, q⟩
    cases y with
    | non => cases ry; exact SeqAt.RcNeAt.tuple_none p1 hu0 _ _ _ _ fin
    | bl c => cases ry; exact SeqAt.RcNeAt.tuple_bool _ p1 hu0 _ _ _ _ fin
    | int i => obtain ⟨t, rfl⟩ := ry; exact SeqAt.RcNeAt.tuple_int _ _ p1 hu0 _ _ _ _ fin
    | str z => obtain ⟨t, rfl⟩ := ry; exact SeqAt.RcNeAt.tuple_str _ _ p1 hu0 _ _ _ _ fin
    | _ => cases h2
  · cases ry
    obtain ⟨its, r1, p1, _⟩ := I.tuple ht
    have p1 : s.heap.IsTuple a its.toArray := p1
    have fin : EP X pins σ Q (.bool true) s := ⟨.bl true, H, I, rfl, q⟩
    cases x with
    | non => cases rx; exact SeqAt.RcNeAt.none_tuple p1 hu0 _ _ _ _ fin
    | bl c => cases rx; exact SeqAt.RcNeAt.bool_tuple _ p1 hu0 _ _ _ _ fin
    | int i => obtain ⟨t, rfl⟩ := rx; exact SeqAt.RcNeAt.int_tuple _ _ p1 hu0 _ _ _ _ fin
    | str z => obtain ⟨t, rfl⟩ := rx; exact SeqAt.RcNeAt.str_tuple _ _ p1 hu0 _ _ _ _ fin
    | _ => cases h2
  · cases rx; cases ry
    obtain ⟨its, r1, p1, _⟩ := I.tuple h1
    obtain ⟨its2, r2, p2, _⟩ := I.tuple h2
    refine SeqAt.RcNeAt.tuples (e := e) (show s.heap.IsTuple a its.toArray from p1) (show s.heap.IsTuple c its2.toArray from p2) hu0 (hel r1 r2 he) _ _ _ _ ?_
    rw [List.size_toArray, List.size_toArray, ← r1.length, ← r2.length]
    exact ⟨.bl _, H, I, rfl, q⟩
  · cases rx; cases ry
    obtain ⟨its, r1, p1, _⟩ := I.list h1
    obtain ⟨its2, r2, p2, _⟩ := I.list h2
    have l1 := r1.length
    have l2 := r2.length
    rcases h3 with ⟨hn, rfl⟩ | ⟨hn, e, he, rfl⟩
    · exact SeqAt.RcNeAt.lists_lengths p1.isList p2.isList (by simp; lia) hu0 X.prog X.w X.xe _ ⟨.bl _, H, I, rfl, q⟩
    · refine SeqAt.RcNeAt.lists p1.isList p2.isList (by simp; lia) hu0 (hel r1 r2 he) X.prog X.w X.xe _ ?_
      rw [List.size_toArray, ← l1]
      exact ⟨.bl _, H, I, rfl, q⟩
end
end B
namespace B
open PySem PySem.Spec PyProof.Rows L2
section
variable {X : Cx} {K : PySem.W.Frag} {κ : Str → Addr} {H : Hp}
noncomputable def eqZ (f : I → I → Option Bool) : List I → List I → Option Bool
  | [], [] => some true
  | x :: xs, y :: ys => match f x y, eqZ f xs ys with
    | some b, some c => some (b && c)
    | _, _ => none
  | [], _ :: _ => some false
  | _ :: _, [] => some false
noncomputable def tpl : I → Option (List I)
  | .tup xs => some xs
  | .con xs => some xs
  | _ => none
noncomputable def flI : I → Bool
  | .non => true
  | .bl _ => true
  | .int _ => true
  | .str _ => true
  | _ => false
noncomputable def eqFl : I → I → Bool
  | .non, .non => true
  | .bl a, .bl b => a == b
  | .bl a, .int b => (if a then 1 else 0) == b
  | .int a, .bl b => a == (if b then 1 else 0)
  | .int a, .int b => a == b
  | .str a, .str b => a == b
  | _, _ => false
noncomputable def eqD : Nat → I → I → Option Bool
  | 0, x, y => if flI x && flI y then some (eqFl x y) else if ((tpl x).isSome && flI y) || (flI x && (tpl y).isSome) then some false else none
  | n + 1, x, y => if flI x && flI y then some (eqFl x y) else if ((tpl x).isSome && flI y) || (flI x && (tpl y).isSome) then some false else match tpl x, tpl y with
    | some xs, some ys => eqZ (eqD n) xs ys
    | _, _ => none
variable {ι : List Addr}
theorem flat_of {v : V} {x : I} (r : RpI K ι H v x) (h : flI x = true) : flatV v = true := by cases r <;> first | rfl | cases h
theorem eqFl_of {v w : V} {x y : I} (r : RpI K ι H v x) (r' : RpI K ι H w y) (h : flI x = true) (h' : flI y = true) : eqFl x y = eqV v w := by
  cases r <;> cases r' <;> first | rfl | exact Bool.noConfusion h | exact Bool.noConfusion h'
theorem tp_of {v : V} {x : I} {xs : List I} (r : RpI K ι H v x) (h : tpl x = some xs) : ∃ a vs, v = .ref a ∧ SqT K H a vs ∧ RpIs K ι H vs xs := by
  cases r with
  | tup h1 h2 => cases h; exact ⟨_, _, rfl, SqT.of h1, h2⟩
  | con h1 h2 => cases h; exact ⟨_, _, rfl, SqT.kon h1, h2⟩
  | _ => cases h
theorem eqZ_at {f : I → I → Option Bool} {E : V → V → Bool → Prop} (hf : ∀ {v w x y b}, RpI K ι H v x → RpI K ι H w y → f x y = some b → E v w b) : ∀ {vs ws : List V} {xs ys : List I} {b : Bool}, RpIs K ι H vs xs → RpIs K ι H ws ys → eqZ f xs ys = some b →
    ∃ e : Nat → Bool, (∀ (j : Nat) u w, vs[j]? = some u → ws[j]? = some w → E u w (e j)) ∧ b = ((List.range (min vs.length ws.length)).all e && vs.length == ws.length)
  | [], [], _, _, b, .nil, .nil, h => by cases h; exact ⟨fun _ => true, fun j u w e => by simp at e, rfl⟩
  | [], _ :: _, _, _, b, .nil, .cons _ _, h => by cases h; exact ⟨fun _ => true, fun j u w e => by simp at e, by simp⟩
  | _ :: _, [], _, _, b, .cons _ _, .nil, h => by cases h; exact ⟨fun _ => true, fun j u w _ e => by simp at e, by simp⟩
  | v :: vs, w :: ws, _, _, b, .cons r rs, .cons r' rs', h => by
    unfold eqZ at h
    split at h
    · rename_i b0 c h0 h1
      cases h
      obtain ⟨e', he, rfl⟩ := eqZ_at hf rs rs' h1
      refine ⟨fun j => match j with | 0 => b0 | j + 1 => e' j, fun j u w' e1 e2 => ?_, ?_⟩
      · cases j with
        | zero => simp at e1 e2; subst e1; subst e2; exact hf r r' h0
        | succ j => exact he j u w' (by simpa using e1) (by simpa using e2)
      · have e3 : min (v :: vs).length (w :: ws).length = min vs.length ws.length + 1 := by simp only [List.length_cons]; lia
        rw [e3, range_succ_all]
        have e4 : ((v :: vs).length == (w :: ws).length) = (vs.length == ws.length) := by simp
        rw [e4, Bool.and_assoc]
    · cases h
theorem eqD_at : ∀ {n : Nat} {v w : V} {x y : I} {b : Bool}, RpI K ι H v x → RpI K ι H w y → eqD n x y = some b → EqV K H n v w b := by
  have base : ∀ {v w : V} {x y : I} {b : Bool} {o : Option Bool}, RpI K ι H v x → RpI K ι H w y → (if flI x && flI y then some (eqFl x y) else if ((tpl x).isSome && flI y) || (flI x && (tpl y).isSome) then some false else o) = some b → EqF K H v w b ∨ o = some b := fun {v w x y b o} r r' h => by
    split at h
    · rename_i hf
      rw [Bool.and_eq_true] at hf
      cases h
      exact .inl (.inl ⟨flat_of r hf.1, flat_of r' hf.2, eqFl_of r r' hf.1 hf.2⟩)
    · split at h
      · rename_i hf
        cases h
        rw [Bool.or_eq_true, Bool.and_eq_true, Bool.and_eq_true] at hf
        rcases hf with ⟨h1, h2⟩ | ⟨h1, h2⟩
        · obtain ⟨xs, hx⟩ := Option.isSome_iff_exists.mp h1
          obtain ⟨a, vs, e1, h3, _⟩ := tp_of r hx
          exact .inl (.inr (.inl ⟨⟨a, vs, e1, h3⟩, flat_of r' h2, rfl⟩))
        · obtain ⟨xs, hx⟩ := Option.isSome_iff_exists.mp h2
          obtain ⟨a, vs, e1, h3, _⟩ := tp_of r' hx
          exact .inl (.inr (.inr ⟨flat_of r h1, ⟨a, vs, e1, h3⟩, rfl⟩))
      · exact .inr h
  intro n
  induction n with
  | zero =>
    intro v w x y b r r' h
    unfold eqD at h
    rcases base r r' h with q | q
    · exact q
    · cases q
  | succ n ih =>
    intro v w x y b r r' h
    unfold eqD at h
    rcases base r r' h with q | q
    · exact .inl q
    · split at q
      · rename_i xs ys hx hy
        obtain ⟨a, vs, e1, h1, r1⟩ := tp_of r hx
        obtain ⟨c, ws, e2, h2, r2⟩ := tp_of r' hy
        obtain ⟨e, he, hb⟩ := eqZ_at (E := fun u w b => EqV K H n u w b) (fun r r' h => ih r r' h) r1 r2 q
        exact .inr ⟨a, c, vs, ws, e, e1, e2, h1, h2, he, hb⟩
      · cases q
theorem eqV_dec {x y : V} (h : scal x y = true) (hf : flatV x = true) : eqV x y = decide (x = y) := by
  cases x <;> cases y <;> first | rfl | exact Bool.noConfusion h | exact Bool.noConfusion hf | skip
  · rename_i a b
    show (a == b) = _
    by_cases e : a = b
    · subst e; simp
    · rw [beq_eq_false_iff_ne.mpr e, decide_eq_false (fun z => e (by injection z))]
  · rename_i a b
    show (a == b) = _
    by_cases e : a = b
    · subst e; simp
    · rw [beq_eq_false_iff_ne.mpr e, decide_eq_false (fun z => e (by injection z))]
  · rename_i a b
    show (a == b) = _
    by_cases e : a = b
    · subst e; simp
    · rw [beq_eq_false_iff_ne.mpr e, decide_eq_false (fun z => e (by injection z))]
noncomputable def mixI : I → I → Bool
  | .bl _, .int _ => true
  | .int _, .bl _ => true
  | _, _ => false
noncomputable def eqE (δ : De) (G : List M) (a b : Ev) : Option Bool :=
  match imE a, imE b with
  | some x, some y => if mixI x y then none else match eqD 41 x y with
    | some r => some r
    | none => match pk δ G a, pk δ G b with
      | some (.lst xs), some (.lst ys) => eqZ (eqD 40) xs ys
      | _, _ => none
  | _, _ => match pk δ G a, pk δ G b with
    | some (.lst xs), some (.lst ys) => eqZ (eqD 40) xs ys
    | _, _ => none
noncomputable def eqP : List Ev → Mo Ev := fun es δ G => match es with
  | [a, b] => match eqE δ G a b with
    | some r => some (.v (.im (.bl r)), δ, G)
    | none => none
  | _ => none
noncomputable def neP : List Ev → Mo Ev := fun es δ G => match es with
  | [a, b] => match eqE δ G a b with
    | some r => some (.v (.im (.bl (!r))), δ, G)
    | none => none
  | _ => none
theorem eqE_top {σ : L2.St} {δ : De} {G : List M} {a b : Ev} {v u : V} {r : Bool} (A : Args K κ ι H σ δ G [a, b] [v, u]) (h : eqE δ G a b = some r) : EqTop K H v u r := by
  have lists : (match pk δ G a, pk δ G b with | some (.lst xs), some (.lst ys) => eqZ (eqD 40) xs ys | _, _ => none) = some r → EqTop K H v u r := fun h => by
    split at h
    · rename_i xs ys hx hy
      obtain ⟨p, e1, vs, h1, r1⟩ := A.pk (j := 0) rfl rfl hx
      obtain ⟨q, e2, ws, h2, r2⟩ := A.pk (j := 1) rfl rfl hy
      obtain ⟨e, he, hb⟩ := eqZ_at (E := fun u w b => EqV K H 40 u w b) (fun r r' h => eqD_at r r' h) r1 r2 h
      refine .inr (.inr (.inr (.inr ⟨p, q, vs, ws, e1, e2, SqL.of h1, SqL.of h2, ?_⟩)))
      by_cases hl : vs.length = ws.length
      · refine .inr ⟨hl, e, he, ?_⟩
        rw [hb, ← hl, Nat.min_self]; simp
      · refine .inl ⟨hl, ?_⟩
        rw [hb]
        have : (vs.length == ws.length) = false := by simpa using hl
        rw [this, Bool.and_false]
    · cases h
  unfold eqE at h
  split at h
  · rename_i x y hx hy
    split at h
    · cases h
    · rename_i hm
      split at h
      · rename_i r' hr
        cases h
        have ra : RpI K ι H v x := by
          cases a with
          | s i => cases hx
          | v z => cases z with
            | ow m => cases hx
            | im d => cases hx; exact A.im (j := 0) rfl rfl
        have rb : RpI K ι H u y := by
          cases b with
          | s i => cases hy
          | v z => cases z with
            | ow m => cases hy
            | im d => cases hy; exact A.im (j := 1) rfl rfl
        rcases eqD_at ra rb hr with q | ⟨a', c, xs, ys, e, e1, e2, h1, h2, he, hb⟩
        · rcases q with ⟨h1, h2, rfl⟩ | ⟨h1, h2, rfl⟩ | ⟨h1, h2, rfl⟩
          · refine .inl ⟨?_, ?_⟩
            · cases ra <;> cases rb <;> first | rfl | exact Bool.noConfusion h1 | exact Bool.noConfusion h2 | exact absurd rfl hm
            · refine eqV_dec ?_ h1
              cases ra <;> cases rb <;> first | rfl | exact Bool.noConfusion h1 | exact Bool.noConfusion h2 | exact absurd rfl hm
          · exact .inr (.inl ⟨h1, h2, rfl⟩)
          · exact .inr (.inr (.inl ⟨h1, h2, rfl⟩))
        · exact .inr (.inr (.inr (.inl ⟨a', c, xs, ys, e, e1, e2, h1, h2, he, hb⟩)))
      · exact lists h
  · exact lists h
theorem prim_eq : Prim K κ (r2 fun x y H Q => ∃ b, EqTop K H x y b ∧ Q (.bl b) H) eqP := by
  intro ι H σ δ G es vs e δ' G' Q a h k
  unfold eqP at h
  split at h
  · split at h
    · rename_i r hr
      cases h
      obtain ⟨v, u, rfl⟩ := len2 a.len
      exact ⟨_, _, rfl, r, eqE_top a hr, k _ _ _ (fin_im a (.bl _))⟩
    · cases h
  · cases h
theorem prim_ne : Prim K κ (r2 fun x y H Q => ∃ b, EqTop K H x y b ∧ Q (.bl (!b)) H) neP := by
  intro ι H σ δ G es vs e δ' G' Q a h k
  unfold neP at h
  split at h
  · split at h
    · rename_i r hr
      cases h
      obtain ⟨v, u, rfl⟩ := len2 a.len
      exact ⟨_, _, rfl, r, eqE_top a hr, k _ _ _ (fin_im a (.bl _))⟩
    · cases h
  · cases h
end
section
variable {X : Cx} {κ : Str → Addr} {a b : Expr} {fa fb : Mo Ev} {pos : Pos} {k : Nat}
theorem hu50 (hr : Room k X.A) : X.A.units + 50 < cLine := by have := hr.units; lia
theorem e_eq (hr : Room k X.A) (ha : LE X κ a fa) (hb : LE X κ b fb) : LE X κ (.Compare a [.Eq] [b] pos) (opF eqP fa fb) := e_cmpR (op_eqN (hu50 hr)) prim_eq ha hb (nomark _)
theorem t_eq (hr : Room k X.A) (ha : LE X κ a fa) (hb : LE X κ b fb) : LT X κ (.Compare a [.Eq] [b] pos) (tstF (opF eqP fa fb)) := t_cmpR (op_eqN (hu50 hr)) prim_eq ha hb (nomark _)
theorem t_ne (hr : Room k X.A) (ha : LE X κ a fa) (hb : LE X κ b fb) : LT X κ (.Compare a [.NotEq] [b] pos) (tstF (opF neP fa fb)) := t_cmpR (op_neN (hu50 hr)) prim_ne ha hb (nomark _)
theorem t_lt (hr : Room k X.A) (ha : LE X κ a fa) (hb : LE X κ b fb) : LT X κ (.Compare a [.Lt] [b] pos) (tstF (opF ltP fa fb)) := t_cmpR op_lt (prim_rI0 fun i j d h ι H => by cases h; exact .bl _) ha hb (nomark _)
theorem t_le (hr : Room k X.A) (ha : LE X κ a fa) (hb : LE X κ b fb) : LT X κ (.Compare a [.LtE] [b] pos) (tstF (opF leP fa fb)) := t_cmpR op_le (prim_rI0 fun i j d h ι H => by cases h; exact .bl _) ha hb (nomark _)
theorem t_gt (hr : Room k X.A) (ha : LE X κ a fa) (hb : LE X κ b fb) : LT X κ (.Compare a [.Gt] [b] pos) (tstF (opF gtP fa fb)) := t_cmpR op_gt (prim_rI0 fun i j d h ι H => by cases h; exact .bl _) ha hb (nomark _)
theorem t_ge (hr : Room k X.A) (ha : LE X κ a fa) (hb : LE X κ b fb) : LT X κ (.Compare a [.GtE] [b] pos) (tstF (opF geP fa fb)) := t_cmpR op_ge (prim_rI0 fun i j d h ι H => by cases h; exact .bl _) ha hb (nomark _)
end
end B
namespace B
open PySem PySem.Spec PyProof.Rows L2
section
variable {X : Cx} {K : PySem.W.Frag} {κ : Str → Addr} {ι : List Addr} {H : Hp}
theorem RpIs.at {vs : List V} {xs : List I} {i : Int} {d : I} (r : RpIs K ι H vs xs) (h : atI xs i = some d) : ∃ v, atI vs i = some v ∧ RpI K ι H v d := by
  unfold atI at h ⊢
  rw [r.len]
  cases q : ixN xs.length i with
  | none => rw [q] at h; cases h
  | some j =>
    rw [q] at h
    obtain ⟨v, hv, rv⟩ := r.get (i := j) h
    exact ⟨v, hv, rv⟩
noncomputable def ixS : List Ev → Mo Ev := fun es δ G => match es with
  | [a, .v (.im (.int i))] => match sq δ G a with
    | some xs => match atI xs i with
      | some d => some (.v (.im d), δ, G)
      | none => none
    | none => match a with
      | .v (.im (.str z)) => match atI z.cps.toList i with
        | some c => if z.length ≤ 1000000 then some (.v (.im (.str ⟨#[c]⟩)), δ, G) else none
        | none => none
      | _ => none
  | _ => none
theorem prim_ixS : Prim K κ (r2 (rIx K)) ixS := by
  intro ι H σ δ G es vs e δ' G' Q a h k
  unfold ixS at h
  split at h
  · rename_i x i
    split at h
    · rename_i xs hx
      split at h
      · rename_i d hd
        cases h
        obtain ⟨v, u, rfl⟩ := len2 a.len
        obtain ⟨p, ys, e1, h1, r⟩ := a.sq (j := 0) rfl rfl hx
        cases a.im (j := 1) rfl rfl
        subst e1
        obtain ⟨w, hw, rw'⟩ := r.at hd
        rcases h1 with h1 | h1
        · exact ⟨_, _, rfl, .inl ⟨p, ys, i, w, rfl, rfl, h1, hw, k _ _ _ (fin_im a rw')⟩⟩
        · exact ⟨_, _, rfl, .inr (.inl ⟨p, ys, i, w, rfl, rfl, h1, hw, k _ _ _ (fin_im a rw')⟩)⟩
      · cases h
    · split at h
      · rename_i z _
        split at h
        · rename_i c hc
          split at h
          · rename_i hz
            cases h
            obtain ⟨v, u, rfl⟩ := len2 a.len
            cases a.im (j := 0) rfl rfl
            cases a.im (j := 1) rfl rfl
            exact ⟨_, _, rfl, .inr (.inr ⟨z, i, c, rfl, rfl, Nat.le_trans hz (by decide), hc, k _ _ _ (fin_im a (.str _))⟩)⟩
          · cases h
        · cases h
      · cases h
  · cases h
noncomputable def keyI : I → Option Key
  | .int i => some (.inl i)
  | .str x => some (.inr x)
  | _ => none
noncomputable def keysI : List I → Option (List Key)
  | [] => some []
  | x :: xs => match keyI x, keysI xs with
    | some k, some ks => some (k :: ks)
    | _, _ => none
noncomputable def keyT : I → Option (List Key)
  | .tup xs => keysI xs
  | _ => none
theorem keyI_of {v : V} {x : I} {k : Key} (r : RpI K ι H v x) (h : keyI x = some k) : v = kV k := by
  cases r <;> first | (cases h; rfl) | cases h
theorem keysI_of : ∀ {vs : List V} {xs : List I} {ks : List Key}, RpIs K ι H vs xs → keysI xs = some ks → vs = ks.map kV
  | [], [], _, .nil, h => by cases h; rfl
  | v :: vs, x :: xs, ks, .cons r rs, h => by
    unfold keysI at h
    split at h
    · rename_i k ks' h1 h2
      cases h
      rw [List.map_cons, keyI_of r h1, keysI_of rs h2]
    · cases h
theorem keyT_of {v : V} {x : I} {ks : List Key} (r : RpI K ι H v x) (h : keyT x = some ks) : ∃ b, v = .ref b ∧ H b = some (.tup (ks.map kV)) := by
  cases r with
  | tup h1 h2 => exact ⟨_, rfl, by rw [h1, keysI_of h2 h]⟩
  | _ => cases h
noncomputable def valI {κ' : Type} [DecidableEq κ'] : List (κ' × I) → κ' → Option I
  | [], _ => none
  | (g, x) :: r, k => if g = k then some x else valI r k
noncomputable def hasI {κ' : Type} [DecidableEq κ'] (kvs : List (κ' × I)) (k : κ') : Bool := kvs.any fun kv => decide (kv.1 = k)
noncomputable def putD {κ' : Type} [DecidableEq κ'] (kvs : List (κ' × I)) (k : κ') (d : I) : List (κ' × I) := if hasI kvs k then kvs.map (fun kv => if kv.1 = k then (kv.1, d) else kv) else kvs ++ [(k, d)]
theorem valI_rel {κ' : Type} [DecidableEq κ'] {k : κ'} : ∀ {ws : List (κ' × V)} {kvs : List (κ' × I)}, ws.map (·.1) = kvs.map (·.1) → RpIs K ι H (ws.map (·.2)) (kvs.map (·.2)) →
    (∀ d, valI kvs k = some d → ∃ v, valV ws k = some v ∧ RpI K ι H v d) ∧ (valI kvs k = none → valV ws k = none)
  | [], [], _, _ => ⟨fun d h => (by cases h), fun _ => rfl⟩
  | [], _ :: _, e, _ => by cases e
  | _ :: _, [], e, _ => by cases e
  | (g, v) :: ws, (g', x) :: kvs, e, r => by
    simp only [List.map_cons, List.cons.injEq] at e
    obtain ⟨e1, e2⟩ := e
    subst e1
    cases r with
    | cons r rs =>
      obtain ⟨p, q⟩ := valI_rel (k := k) e2 rs
      by_cases hg : g = k
      · rw [valV_pos (p := (g, v)) hg]
        unfold valI
        rw [if_pos hg]
        exact ⟨fun d h => (by cases h; exact ⟨v, rfl, r⟩), fun h => (by cases h)⟩
      · rw [valV_neg (p := (g, v)) hg]
        unfold valI
        rw [if_neg hg]
        exact ⟨p, q⟩
theorem any_keys {κ' α β : Type} [DecidableEq κ'] {k : κ'} : ∀ {ws : List (κ' × α)} {kvs : List (κ' × β)}, ws.map (·.1) = kvs.map (·.1) → (ws.any fun kv => decide (kv.1 = k)) = (kvs.any fun kv => decide (kv.1 = k))
  | [], [], _ => rfl
  | [], _ :: _, e => by cases e
  | _ :: _, [], e => by cases e
  | (g, v) :: ws, (g', x) :: kvs, e => by
    simp only [List.map_cons, List.cons.injEq] at e
    obtain ⟨e1, e2⟩ := e
    subst e1
    rw [List.any_cons, List.any_cons, any_keys e2]
theorem map_keys {κ' : Type} [DecidableEq κ'] {k : κ'} {v : V} {d : I} (rv : RpI K ι H v d) : ∀ {ws : List (κ' × V)} {kvs : List (κ' × I)}, ws.map (·.1) = kvs.map (·.1) → RpIs K ι H (ws.map (·.2)) (kvs.map (·.2)) →
    (ws.map fun kv => if kv.1 = k then (kv.1, v) else kv).map (·.1) = (kvs.map fun kv => if kv.1 = k then (kv.1, d) else kv).map (·.1) ∧ RpIs K ι H ((ws.map fun kv => if kv.1 = k then (kv.1, v) else kv).map (·.2)) ((kvs.map fun kv => if kv.1 = k then (kv.1, d) else kv).map (·.2))
  | [], [], _, _ => ⟨rfl, .nil⟩
  | [], _ :: _, e, _ => by cases e
  | _ :: _, [], e, _ => by cases e
  | (g, w) :: ws, (g', x) :: kvs, e, r => by
    simp only [List.map_cons, List.cons.injEq] at e
    obtain ⟨e1, e2⟩ := e
    subst e1
    cases r with
    | cons r rs =>
      obtain ⟨p, q⟩ := map_keys (k := k) rv e2 rs
      by_cases hg : g = k
      · simp only [List.map_cons, if_pos hg]
        exact ⟨by rw [p], .cons rv q⟩
      · simp only [List.map_cons, if_neg hg]
        exact ⟨by rw [p], .cons r q⟩
theorem putD_rel {κ' : Type} [DecidableEq κ'] {k : κ'} {v : V} {d : I} {ws : List (κ' × V)} {kvs : List (κ' × I)} (rv : RpI K ι H v d) (e : ws.map (·.1) = kvs.map (·.1)) (r : RpIs K ι H (ws.map (·.2)) (kvs.map (·.2))) :
    (putK ws k v).map (·.1) = (putD kvs k d).map (·.1) ∧ RpIs K ι H ((putK ws k v).map (·.2)) ((putD kvs k d).map (·.2)) := by
  unfold putK putD hasI
  rw [any_keys e]
  split
  · exact map_keys rv e r
  · rw [List.map_append, List.map_append, List.map_append, List.map_append, e]
    exact ⟨rfl, r.app (.cons rv .nil)⟩
/-- what a dict holds at a key -/
noncomputable def getD' (δ : De) (G : List M) (a : Ev) (x : I) : Option (Option I) := match pk δ G a with
  | some (.dic kvs) => (keyI x).map fun k => valI kvs k
  | some (.dit kvs) => (keyT x).map fun k => valI kvs k
  | _ => none
theorem getD_of {σ : L2.St} {δ : De} {G : List M} {es : List Ev} {vs : List V} {j j' : Nat} {a : Ev} {x : I} {v u : V} {o : Option I} (A : Args K κ ι H σ δ G es vs) (h1 : es[j]? = some a) (h2 : vs[j]? = some v) (h3 : es[j']? = some (.v (.im x))) (h4 : vs[j']? = some u)
    (h : getD' δ G a x = some o) : ∃ b ov, v = .ref b ∧ DGet H b u ov ∧ (∀ d, o = some d → ∃ w, ov = some w ∧ RpI K ι H w d) ∧ (o = none → ov = none) := by
  have ru := A.im h3 h4
  unfold getD' at h
  split at h
  · rename_i kvs hp
    obtain ⟨b, e1, ws, hw, e2, r⟩ := A.pk h1 h2 hp
    cases hk : keyI x with
    | none => rw [hk] at h; cases h
    | some k =>
      rw [hk] at h
      cases h
      have eu := keyI_of ru hk
      subst eu
      obtain ⟨p, q⟩ := valI_rel (k := k) e2 r
      exact ⟨b, _, e1, DGet.k hw, p, q⟩
  · rename_i kvs hp
    obtain ⟨b, e1, ws, hw, e2, r⟩ := A.pk h1 h2 hp
    cases hk : keyT x with
    | none => rw [hk] at h; cases h
    | some k =>
      rw [hk] at h
      cases h
      obtain ⟨c, eu, hc⟩ := keyT_of ru hk
      subst eu
      obtain ⟨p, q⟩ := valI_rel (k := k) e2 r
      exact ⟨b, _, e1, DGet.t hw hc, p, q⟩
  · cases h
noncomputable def ixD : List Ev → Mo Ev := fun es δ G => match es with
  | [a, .v (.im x)] => match getD' δ G a x with
    | some (some d) => some (.v (.im d), δ, G)
    | _ => none
  | _ => none
theorem prim_ixD : Prim K κ (r2 fun x y H2 Q => ∃ a v, x = .ref a ∧ DGet H2 a y (some v) ∧ Q v H2) ixD := by
  intro ι H σ δ G es vs e δ' G' Q a h k
  unfold ixD at h
  split at h
  · split at h
    · rename_i d hd
      cases h
      obtain ⟨v, u, rfl⟩ := len2 a.len
      obtain ⟨b, ov, e1, g, p, _⟩ := getD_of a (j := 0) (j' := 1) rfl rfl rfl rfl hd
      obtain ⟨w, rfl, rw'⟩ := p d rfl
      exact ⟨_, _, rfl, b, w, e1, g, k _ _ _ (fin_im a rw')⟩
    · cases h
  · cases h
noncomputable def ixP : List Ev → Mo Ev := orP ixS ixD
theorem up_ix {fo fi : Mo Ev} {σ : L2.St} {Q : VK} (h : UpE K κ (opF ixP fo fi) σ H Q) : tOp (rIx K) (UpE K κ fo) (UpE K κ fi) σ H Q ∨ tDGet (UpE K κ fo) (UpE K κ fi) σ H Q := by
  obtain ⟨ι, δ, G, e, δ', G', s, eq, k⟩ := h
  obtain ⟨x, δ1, G1, e1, eq1⟩ := bd_inv eq
  obtain ⟨y, δ2, G2, e2, eq2⟩ := bd_inv eq1
  have eq2 : orP ixS ixD [x, y] δ2 G2 = some (e, δ', G') := eq2
  unfold orP at eq2
  split at eq2
  · rename_i z hz
    cases eq2
    refine .inl (up_op prim_ixS ⟨ι, δ, G, _, _, _, s, ?_, k⟩)
    unfold opF
    rw [bd_of e1, bd_of e2]; exact hz
  · refine .inr (up_op (r := fun x y H2 Q => ∃ a v, x = .ref a ∧ DGet H2 a y (some v) ∧ Q v H2) prim_ixD ⟨ι, δ, G, _, _, _, s, ?_, k⟩)
    unfold opF
    rw [bd_of e1, bd_of e2]; exact eq2
noncomputable def inL (neg : Bool) : List Ev → Mo Ev := fun es δ G => match es with
  | [.v (.im x), b] => match sq δ G b with
    | some xs => if flI x && xs.all flI then some (.v (.im (.bl (if neg then !(xs.any fun y => eqFl y x) else xs.any fun y => eqFl y x))), δ, G) else none
    | none => none
  | _ => none
noncomputable def inD' (neg : Bool) : List Ev → Mo Ev := fun es δ G => match es with
  | [.v (.im x), b] => match getD' δ G b x with
    | some o => some (.v (.im (.bl (if neg then !o.isSome else o.isSome))), δ, G)
    | none => none
  | _ => none
theorem prim_ninD : Prim K κ (r2 fun y x H2 Q => ∃ a o, x = .ref a ∧ DGet H2 a y o ∧ Q (.bl (!o.isSome)) H2) (inD' true) := by
  intro ι H σ δ G es vs e δ' G' Q a h k
  unfold inD' at h
  split at h
  · split at h
    · rename_i o ho
      cases h
      obtain ⟨v, u, rfl⟩ := len2 a.len
      obtain ⟨b, ov, e1, g, p, q⟩ := getD_of a (j := 1) (j' := 0) rfl rfl rfl rfl ho
      have : ov.isSome = o.isSome := by
        cases o with
        | none => rw [q rfl]; rfl
        | some d => obtain ⟨w, rfl, _⟩ := p d rfl; rfl
      refine ⟨_, _, rfl, b, ov, e1, g, ?_⟩
      rw [this]
      exact k _ _ _ (fin_im a (.bl _))
    · cases h
  · cases h
end
section
variable {X : Cx} {κ : Str → Addr} {a b : Expr} {fa fb : Mo Ev} {pos : Pos} {k : Nat}
theorem e_ix (hr : Room k X.A) (ha : LE X κ a fa) (hb : LE X κ b fb) (hs : PlainIx b := by exact (fun _ _ => rfl)) : LE X κ (.Subscript a b pos) (opF ixP fa fb) := .mk (pe_imp (pe_or (pe_ix ix_seq ha.pe hb.pe hs) (pe_dget (hu_of hr) ha.pe hb.pe hs)) fun _ _ _ => up_ix)
end
end B
namespace B
open PySem PySem.Spec PyProof.Rows L2
section
variable {X : Cx} {K : PySem.W.Frag} {κ : Str → Addr} {ι : List Addr} {H : Hp}
theorem eqFl_any {v : V} {x : I} (r : RpI K ι H v x) (hx : flI x = true) : ∀ {vs : List V} {xs : List I}, RpIs K ι H vs xs → xs.all flI = true → vs.all flatV = true ∧ (xs.any fun y => eqFl y x) = vs.any fun y => eqV y v
  | [], [], .nil, _ => ⟨rfl, rfl⟩
  | w :: vs, y :: xs, .cons r' rs, h => by
    rw [List.all_cons, Bool.and_eq_true] at h
    obtain ⟨p, q⟩ := eqFl_any r hx rs h.2
    rw [List.all_cons, List.any_cons, List.any_cons, p, q, eqFl_of r' r h.1 hx, flat_of r' h.1]
    exact ⟨rfl, rfl⟩
theorem prim_ninL : Prim K κ (r2 (rIn K true)) (inL true) := by
  intro ι H σ δ G es vs e δ' G' Q a h k
  unfold inL at h
  split at h
  · rename_i x b
    split at h
    · rename_i xs hx
      split at h
      · rename_i hf
        rw [Bool.and_eq_true] at hf
        cases h
        obtain ⟨v, u, rfl⟩ := len2 a.len
        obtain ⟨p, ys, e1, h1, r⟩ := a.sq (j := 1) rfl rfl hx
        have rx := a.im (j := 0) rfl rfl
        obtain ⟨p1, p2⟩ := eqFl_any rx hf.1 r hf.2
        refine ⟨_, _, rfl, p, ys, e1, h1, flat_of rx hf.1, p1, ?_⟩
        have : L2.inV v ys = xs.any fun y => eqFl y x := p2.symm
        rw [this]
        exact k _ _ _ (fin_im a (.bl _))
      · cases h
    · cases h
  · cases h
noncomputable def ninP : List Ev → Mo Ev := orP (inL true) (inD' true)
theorem up_or2 {p p' : List Ev → Mo Ev} {r r' : R2} {fo fi : Mo Ev} {σ : L2.St} {Q : VK} (h1 : Prim K κ (r2 r) p) (h2 : Prim K κ (r2 r') p') (h : UpE K κ (opF (orP p p') fo fi) σ H Q) : tOp r (UpE K κ fo) (UpE K κ fi) σ H Q ∨ tOp r' (UpE K κ fo) (UpE K κ fi) σ H Q := by
  obtain ⟨ι, δ, G, e, δ', G', s, eq, k⟩ := h
  obtain ⟨x, δ1, G1, e1, eq1⟩ := bd_inv eq
  obtain ⟨y, δ2, G2, e2, eq2⟩ := bd_inv eq1
  have eq2 : orP p p' [x, y] δ2 G2 = some (e, δ', G') := eq2
  unfold orP at eq2
  split at eq2
  · rename_i z hz
    cases eq2
    refine .inl (up_op h1 ⟨ι, δ, G, _, _, _, s, ?_, k⟩)
    unfold opF
    rw [bd_of e1, bd_of e2]; exact hz
  · refine .inr (up_op h2 ⟨ι, δ, G, _, _, _, s, ?_, k⟩)
    unfold opF
    rw [bd_of e1, bd_of e2]; exact eq2
end
section
variable {X : Cx} {κ : Str → Addr} {a b : Expr} {fa fb : Mo Ev} {pos : Pos} {k : Nat}
theorem t_nin (hr : Room k X.A) (ha : LE X κ a fa) (hb : LE X κ b fb) (hm : behindInMarks .NotIn b = false := by rfl) : LT X κ (.Compare a [.NotIn] [b] pos) (tstF (opF ninP fa fb)) := .mk (pt_imp (pt_or (pt_cmpR op_notIn_seq ha.pe hb.pe hm) (pt_cmp (pc_dnotin (hu_of hr) ha.pe hb.pe) hm)) fun _ _ _ h => up_or2 prim_ninL prim_ninD (up_test h))
end
section
variable {K : PySem.W.Frag} {κ : Str → Addr}
noncomputable def lenP : List Ev → Mo Ev := fun es δ G => match es with
  | [a] => match sq δ G a with
    | some xs => some (.v (.im (.int xs.length)), δ, G)
    | none => match a with
      | .v (.im (.str z)) => if z.length ≤ 1000000 then some (.v (.im (.int z.length)), δ, G) else none
      | a => match pk δ G a with
        | some (.dic kvs) => some (.v (.im (.int kvs.length)), δ, G)
        | _ => none
  | _ => none
theorem prim_len : Prim K κ (fun xs H Q => (∃ p ys, xs = [.ref p] ∧ (SqL K H p ys ∨ SqT K H p ys) ∧ Q (.int ys.length) H) ∨ ((∃ z, xs = [.str z] ∧ z.length ≤ sizeLine ∧ Q (.int z.length) H) ∨ (∃ a kvs, xs = [V.ref a] ∧ H a = some (.dK kvs) ∧ Q (.int kvs.length) H))) lenP := by
  intro ι H σ δ G es vs e δ' G' Q a h k
  unfold lenP at h
  split at h
  · rename_i x
    split at h
    · rename_i xs hx
      cases h
      obtain ⟨v, rfl⟩ := len1 a.len
      obtain ⟨p, ys, e1, h1, r⟩ := a.sq (j := 0) rfl rfl hx
      subst e1
      exact .inl ⟨p, ys, rfl, h1, by rw [r.len]; exact k _ _ _ (fin_im a (.int _))⟩
    · split at h
      · split at h
        · rename_i hz
          cases h
          obtain ⟨v, rfl⟩ := len1 a.len
          cases a.im (j := 0) rfl rfl
          exact .inr (.inl ⟨_, rfl, Nat.le_trans hz (by decide), k _ _ _ (fin_im a (.int _))⟩)
        · cases h
      · split at h
        · rename_i kvs hp
          cases h
          obtain ⟨v, rfl⟩ := len1 a.len
          obtain ⟨b, e1, ws, hw, e2, r⟩ := a.pk (j := 0) rfl rfl hp
          subst e1
          have e3 : kvs.length = ws.length := by have := congrArg List.length e2; simpa using this.symm
          exact .inr (.inr ⟨b, ws, rfl, hw, by rw [← e3]; exact k _ _ _ (fin_im a (.int _))⟩)
        · cases h
  · cases h
noncomputable def tupleP : List Ev → Mo Ev := fun es δ G => match es with
  | [.v (.im (.tup xs))] => some (.v (.im (.tup xs)), δ, G)
  | [.v (.im (.con xs))] => some (.v (.im (.con xs)), δ, G)
  | [a] => match sq δ G a with
    | some xs => some (.v (.im (.tup xs)), δ, G)
    | none => none
  | _ => none
theorem sqL_any {ι : List Addr} {H : Hp} {σ : L2.St} {δ : De} {G : List M} {e : Ev} {v : V} {xs : List I} (a : Args K κ ι H σ δ G [e] [v]) (h : sq δ G e = some xs) (n1 : ∀ ys, e ≠ .v (.im (.tup ys))) (n2 : ∀ ys, e ≠ .v (.im (.con ys))) : ∃ b ys, v = .ref b ∧ SqL K H b ys ∧ RpIs K ι H ys xs := by
  have fromPk : (match B.pk δ G e with | some (.lst xs) => some xs | _ => none) = some xs → ∃ b ys, v = .ref b ∧ SqL K H b ys ∧ RpIs K ι H ys xs := fun q => by
    split at q
    · rename_i xs' e'
      cases q
      obtain ⟨b, e1, ys, h3, r⟩ := a.pk (j := 0) rfl rfl e'
      exact ⟨b, ys, e1, SqL.of h3, r⟩
    · cases q
  cases e with
  | s i => exact fromPk h
  | v x =>
    cases x with
    | ow m => exact fromPk h
    | im d =>
      have r := a.im (j := 0) rfl rfl
      cases r with
      | tup q r => exact absurd rfl (n1 _)
      | con q r => exact absurd rfl (n2 _)
      | fro q r => cases h; exact ⟨_, _, rfl, q.sq, r⟩
      | ref q => exact fromPk h
      | non => exact fromPk h
      | bl => exact fromPk h
      | int => exact fromPk h
      | str => exact fromPk h
      | ty => exact fromPk h
theorem prim_tuple : Prim K κ (fun xs H Q => ∃ p ys, xs = [.ref p] ∧ ((SqL K H p ys ∧ ∀ l, H l = none → Q (.ref l) (upd H l (.tup ys))) ∨ (SqT K H p ys ∧ Q (.ref p) H))) tupleP := by
  intro ι H σ δ G es vs e δ' G' Q a h k
  unfold tupleP at h
  split at h
  · cases h
    obtain ⟨v, rfl⟩ := len1 a.len
    have r := a.im (j := 0) rfl rfl
    cases r with
    | tup h1 h2 => exact ⟨_, _, rfl, .inr ⟨SqT.of h1, k _ _ _ (fin_im a (.tup h1 h2))⟩⟩
  · cases h
    obtain ⟨v, rfl⟩ := len1 a.len
    have r := a.im (j := 0) rfl rfl
    cases r with
    | con h1 h2 => exact ⟨_, _, rfl, .inr ⟨SqT.kon h1, k _ _ _ (fin_im a (.con h1 h2))⟩⟩
  · rename_i x n1 n2
    split at h
    · rename_i xs hx
      cases h
      obtain ⟨v, rfl⟩ := len1 a.len
      obtain ⟨p, ys, e1, h1, r⟩ := sqL_any a hx (fun ys z => n1 ys (by rw [z])) (fun ys z => n2 ys (by rw [z]))
      subst e1
      exact ⟨p, ys, rfl, .inl ⟨h1, fun l hl => k _ _ _ (fin_tup a hl r)⟩⟩
    · cases h
  · cases h
noncomputable def max2P : List Ev → Mo Ev := intP fun i j => some (.int (if j > i then j else i))
theorem prim_int2 {g : Int → Int → Int} : Prim K κ (fun xs H Q => ∃ i j, xs = [.int i, .int j] ∧ Q (.int (g i j)) H) (intP fun i j => some (.int (g i j))) := by
  intro ι H σ δ G es vs e δ' G' Q a h k
  obtain ⟨x, y, e1, i, j, e2, e3, q⟩ := prim_rI0 (K := K) (κ := κ) (g := fun i j => .int (g i j)) (f := fun i j => some (.int (g i j))) (fun i j d h ι H => by cases h; exact .int _) ι H σ δ G es vs e δ' G' Q a h k
  exact ⟨i, j, by rw [e1, e2, e3], q⟩
noncomputable def notT : Ev → Bool
  | .v (.im (.tup _)) => false
  | .v (.im (.con _)) => false
  | _ => true
noncomputable def lrevP : List Ev → Mo Ev := fun es δ G => match es with
  | [a] => if notT a then match sq δ G a with
    | some xs => some (.v (.ow (.lst xs.reverse)), δ, G)
    | none => none
    else none
  | _ => none
theorem prim_lrev : Prim K κ (r1 fun x H1 Q => ∃ l ys, x = .ref l ∧ SqL K H1 l ys ∧ ∀ p, H1 p = none → Q (.ref p) (upd H1 p (.lst ys.reverse))) lrevP := by
  intro ι H σ δ G es vs e δ' G' Q a h k
  unfold lrevP at h
  split at h
  · rename_i x
    split at h
    · rename_i hl
      split at h
      · rename_i xs hx
        cases h
        obtain ⟨v, rfl⟩ := len1 a.len
        obtain ⟨p, ys, e1, h1, r⟩ := sqL_any a hx (fun ys z => by subst z; cases hl) (fun ys z => by subst z; cases hl)
        subst e1
        exact ⟨_, rfl, p, ys, rfl, h1, fun l hl => k _ _ _ (fin_lst a hl r.rev)⟩
      · cases h
    · cases h
  · cases h
end
section
variable {X : Cx} {κ : Str → Addr} {a b e : Expr} {es : List Expr} {fa fb : Mo Ev} {fs : Mo (List Ev)} {p pos : Pos} {k : Nat}
theorem e_len (hr : Room k X.A) (hm : X.mg "len" = none) (ha : LA X κ (e :: es) fs) (hg : Gl X "len" := by rfl) (he : starEach (e :: es) X.env = (false, eval e X.env) :: starEach es X.env := by rfl) (hpl : (backTo pos (starEach es X.env)).any (·.1) = false := by rfl) : LE X κ (.Call (.Name "len" p) (e :: es) [] pos) (bd fs lenP) := .mk (pe_imp (pe_callB (call_len_seq.or (call_len_str.or call_lenD)) hg hm PySem.boot_len ha.pe (by decide) (by decide) he hpl) fun _ _ _ q => up_args prim_len q)
theorem e_tuple (hr : Room k X.A) (hm : X.mg "tuple" = none) (ha : LA X κ (e :: es) fs) (hg : Gl X "tuple" := by rfl) (he : starEach (e :: es) X.env = (false, eval e X.env) :: starEach es X.env := by rfl) (hpl : (backTo pos (starEach es X.env)).any (·.1) = false := by rfl) : LE X κ (.Call (.Name "tuple" p) (e :: es) [] pos) (bd fs tupleP) := .mk (pe_imp (pe_callTy call_tuple_of hg hm PyProof.Rows.boot_tuple ha.pe (by decide) (by decide) he hpl) fun _ _ _ q => up_args prim_tuple q)
theorem e_max2 (hr : Room k X.A) (hm : X.mg "max" = none) (ha : LA X κ (e :: es) fs) (hg : Gl X "max" := by rfl) (hc : X.calm = true := by rfl) (he : starEach (e :: es) X.env = (false, eval e X.env) :: starEach es X.env := by rfl) (hpl : (backTo pos (starEach es X.env)).any (·.1) = false := by rfl) : LE X κ (.Call (.Name "max" p) (e :: es) [] pos) (bd fs max2P) := .mk (pe_imp (pe_callB (call_max2 hc) hg hm PyProof.Rows.boot_max ha.pe (by decide) (by decide) he hpl) fun _ _ _ q => up_args prim_int2 q)
theorem e_lrev {p1 p2 q1 q2 : Pos} (hl : X.mg "list" = none) (hv : X.mg "reversed" = none) (h : LE X κ e fa) (hc : X.calm = true := by rfl) (gl : Gl X "list" := by rfl) (gr : Gl X "reversed" := by rfl) (hs1 : starEach [e] X.env = [(false, eval e X.env)] := by rfl)
    (hs2 : starEach [.Call (.Name "reversed" p2) [e] [] q2] X.env = [(false, eval (.Call (.Name "reversed" p2) [e] [] q2) X.env)] := by rfl) : LE X κ (.Call (.Name "list" p1) [.Call (.Name "reversed" p2) [e] [] q2] [] q1) (unF lrevP fa) := .mk (pe_imp (pe_listrev hc gl hl gr hv h.pe hs1 hs2) fun _ _ _ q => up_un prim_lrev q)
end
end B
namespace B
open PySem PySem.Spec PyProof.Rows L2
section
variable {X : Cx} {K : PySem.W.Frag} {κ : Str → Addr} {ι : List Addr} {H : Hp} {σ : L2.St}
noncomputable def noPt : Mo (List Ev) := rt []
noncomputable def somePt (f : Mo Ev) : Mo (List Ev) := one f
noncomputable def ptE : List Ev → Option (Option Int)
  | [] => some none
  | [.v (.im (.int i))] => some (some i)
  | _ => none
noncomputable def UpO (K : PySem.W.Frag) (κ : Str → Addr) (f : Mo (List Ev)) : TO := fun σ H Q => ∃ ι δ G es o δ' G', SR K κ ι H σ δ G ∧ f δ G = some (es, δ', G') ∧ ptE es = some o ∧ ∀ vs ι' H', After K κ σ ι (own σ δ ++ ι) H es δ' G' vs ι' H' → Q o H'
theorem po_none' : PO X none (UpO X.K κ noPt) := fun pins s σ H Q I h => po_none pins s σ H Q I (by
  obtain ⟨ι, δ, G, es, o, δ', G', s, e, p, k⟩ := h
  cases e; cases p
  exact k _ _ _ (After.nil s))
theorem po_some' {e : Expr} {f : Mo Ev} (h : LE X κ e f) : PO X (some e) (UpO X.K κ (somePt f)) := fun pins s σ H Q I q => po_some h.pe pins s σ H Q I (by
  obtain ⟨ι, δ, G, es, o, δ', G', s, e, p, k⟩ := q
  obtain ⟨x, δ1, G1, e1, e2⟩ := bd_inv e
  cases e2
  refine ⟨ι, δ, G, x, _, _, s, e1, fun v ι1 H1 a => ?_⟩
  unfold ptE at p
  split at p
  · rename_i hq; cases hq
  · rename_i i hq
    cases p
    cases hq
    have r := a.ar.im (j := 0) rfl rfl
    cases r
    exact ⟨i, rfl, k _ _ _ a⟩
  · cases p)
noncomputable def cutI (xs : List I) (lo hi : Option Int) : List I := (xs.drop (HT.sIx xs.length 0 lo)).take (HT.sIx xs.length xs.length hi - HT.sIx xs.length 0 lo)
theorem RpIs.cut {vs : List V} {xs : List I} (r : RpIs K ι H vs xs) (lo hi : Option Int) : RpIs K ι H (cutV vs lo hi) (cutI xs lo hi) := by
  unfold cutV cutI
  rw [r.len]
  exact (r.drop _).take _
noncomputable def sliQ (lo hi : Option Int) : List Ev → Mo Ev := fun es δ G => match es with
  | .v (.im (.tup xs)) :: _ => some (.v (.im (.tup (cutI xs lo hi))), δ, G)
  | .v (.im (.str z)) :: _ => if z.length ≤ 1000000 then some (.v (.im (.str (Txt.slice z lo hi))), δ, G) else none
  | a :: _ => if notT a then match sq δ G a with
    | some xs => some (.v (.ow (.lst (cutI xs lo hi))), δ, G)
    | none => none
    else none
  | _ => none
noncomputable def sliF (fe : Mo Ev) (fl fh : Mo (List Ev)) : Mo Ev := bd fe fun x => bd fl fun ls => bd fh fun hs => fun δ G => match ptE ls, ptE hs with
  | some lo, some hi => sliQ lo hi (x :: (ls ++ hs)) δ G
  | _, _ => none
theorem sqL_head {δ : De} {G : List M} {e : Ev} {es : List Ev} {v : V} {vs : List V} {xs : List I} (a : Args K κ ι H σ δ G (e :: es) (v :: vs)) (h : sq δ G e = some xs) (n : notT e = true) : ∃ b ys, v = .ref b ∧ SqL K H b ys ∧ RpIs K ι H ys xs := by
  have fromPk : (match B.pk δ G e with | some (.lst xs) => some xs | _ => none) = some xs → ∃ b ys, v = .ref b ∧ SqL K H b ys ∧ RpIs K ι H ys xs := fun q => by
    split at q
    · rename_i xs' e'
      cases q
      obtain ⟨b, e1, ys, h3, r⟩ := a.pk (j := 0) rfl rfl e'
      exact ⟨b, ys, e1, SqL.of h3, r⟩
    · cases q
  cases e with
  | s i => exact fromPk h
  | v x =>
    cases x with
    | ow m => exact fromPk h
    | im d =>
      have r := a.im (j := 0) rfl rfl
      cases r with
      | tup q r => cases n
      | con q r => cases n
      | fro q r => cases h; exact ⟨_, _, rfl, q.sq, r⟩
      | ref q => exact fromPk h
      | non => exact fromPk h
      | bl => exact fromPk h
      | int => exact fromPk h
      | str => exact fromPk h
      | ty => exact fromPk h
noncomputable def rSlAll (K : PySem.W.Frag) : V → Option Int → Option Int → Hp → VK → Prop := fun x lo hi H Q => rSlL K x lo hi H Q ∨ (rSlTA x lo hi H Q ∨ rSlS x lo hi H Q)
theorem up_sli {fe : Mo Ev} {fl fh : Mo (List Ev)} {Q : VK} (h : UpE K κ (sliF fe fl fh) σ H Q) : tSl (rSlAll K) (UpE K κ fe) (UpO K κ fl) (UpO K κ fh) σ H Q := by
  obtain ⟨ι, δ, G, e, δ', G', s, eq, k⟩ := h
  obtain ⟨x, δ1, G1, e1, eq1⟩ := bd_inv eq
  obtain ⟨ls, δ2, G2, e2, eq2⟩ := bd_inv eq1
  obtain ⟨hs, δ3, G3, e3, eq3⟩ := bd_inv eq2
  split at eq3
  · rename_i lo hi hlo hhi
    refine ⟨ι, δ, G, x, δ1, G1, s, e1, fun v ι1 H1 a1 => ?_⟩
    refine ⟨ι1, δ1, G1, ls, lo, δ2, G2, a1.ar.base, e2, hlo, fun vs ι2 H2 a2 => ?_⟩
    refine ⟨ι2, δ2, G2, hs, hi, δ3, G3, a2.ar.base, e3, hhi, fun ws ι3 H3 a3 => ?_⟩
    have a23 := a2.app a3
    have a := a1.app a23
    have fin : ∀ {v' : V} {ι' : List Addr} {H' : Hp}, After K κ σ ι3 (own (σ ++ tS ([x] ++ (ls ++ hs)) ([v] ++ (vs ++ ws))) (δ3 ++ tD ([x] ++ (ls ++ hs))) ++ ι3) H3 [e] δ' G' [v'] ι' H' → Q v' H' := fun b => k _ _ _ (a.then b)
    have ar : Args K κ ι3 H3 σ δ3 G3 (x :: (ls ++ hs)) (v :: (vs ++ ws)) := a.ar
    unfold sliQ at eq3
    split at eq3
    · rename_i xs rest hq
      cases hq
      cases eq3
      have r := ar.im (j := 0) rfl rfl
      cases r with
      | tup h1 h2 =>
        refine .inr (.inl ⟨_, _, rfl, h1, fun b H' hb kp => ?_⟩)
        exact fin (fin_same a.ar kp (.tup hb ((h2.cut lo hi).mono (Pre.refl _) (Kp.same kp))))
    · rename_i z rest hq
      cases hq
      split at eq3
      · rename_i hz
        cases eq3
        cases ar.im (j := 0) rfl rfl
        exact .inr (.inr ⟨z, rfl, Nat.le_trans hz (by decide), fin (fin_im a.ar (.str _))⟩)
      · cases eq3
    · rename_i a0 rest _ _ hq
      cases hq
      split at eq3
      · rename_i hn
        split at eq3
        · rename_i xs hx
          cases eq3
          obtain ⟨b, ys, e4, h1, r⟩ := sqL_head ar hx hn
          exact .inl ⟨b, ys, e4, h1, fun p hp => fin (fin_lst a.ar hp (r.cut lo hi))⟩
        · cases eq3
      · cases eq3
    · cases eq3
  · cases eq3
noncomputable def pickI (xs : List I) (lo hi st : Option Int) : List I := (sliceRange (sliceBounds lo hi st xs.length).1 (sliceBounds lo hi st xs.length).2.1 (sliceBounds lo hi st xs.length).2.2).filterMap (xs[·]?)
theorem RpIs.filt {vs : List V} {xs : List I} (r : RpIs K ι H vs xs) : ∀ js : List Nat, RpIs K ι H (js.filterMap (vs[·]?)) (js.filterMap (xs[·]?))
  | [] => .nil
  | j :: js => by
    cases e : xs[j]? with
    | none => simp only [List.filterMap_cons, e, r.none_of e]; exact RpIs.filt r js
    | some x =>
      obtain ⟨v, hv, rv⟩ := r.get e
      simp only [List.filterMap_cons, e, hv]
      exact .cons rv (RpIs.filt r js)
theorem RpIs.pick {vs : List V} {xs : List I} (r : RpIs K ι H vs xs) (lo hi st : Option Int) : RpIs K ι H (pickV vs lo hi st) (pickI xs lo hi st) := by
  unfold pickV pickI
  rw [r.len]
  exact r.filt _
noncomputable def stpF (fe : Mo Ev) (fl fh : Mo (List Ev)) (fk : Mo Ev) : Mo Ev := bd fe fun x => bd fl fun ls => bd fh fun hs => bd (one fk) fun ks => fun δ G => match ptE ls, ptE hs, ptE ks with
  | some lo, some hi, some (some c) => if c ≠ 0 ∧ notT x then match sq δ G x with
    | some xs => some (.v (.ow (.lst (pickI xs lo hi (some c)))), δ, G)
    | none => none
    else none
  | _, _, _ => none
theorem up_stp {fe fk : Mo Ev} {fl fh : Mo (List Ev)} {Q : VK} (h : UpE K κ (stpF fe fl fh fk) σ H Q) : tSlS K (UpE K κ fe) (UpO K κ fl) (UpO K κ fh) (tPart (UpE K κ fk)) σ H Q := by
  obtain ⟨ι, δ, G, e, δ', G', s, eq, k⟩ := h
  obtain ⟨x, δ1, G1, e1, eq1⟩ := bd_inv eq
  obtain ⟨ls, δ2, G2, e2, eq2⟩ := bd_inv eq1
  obtain ⟨hs, δ3, G3, e3, eq3⟩ := bd_inv eq2
  obtain ⟨ks, δ4, G4, e4, eq4⟩ := bd_inv eq3
  obtain ⟨y, δ5, G5, e5, eq5⟩ := bd_inv e4
  cases eq5
  split at eq4
  · rename_i lo hi c hlo hhi hk
    split at eq4
    · rename_i hc
      split at eq4
      · rename_i xs hx
        simp only [Option.some.injEq, Prod.mk.injEq] at eq4
        obtain ⟨rfl, rfl, rfl⟩ := eq4
        refine ⟨ι, δ, G, x, δ1, G1, s, e1, fun v ι1 H1 a1 => ?_⟩
        refine ⟨ι1, δ1, G1, ls, lo, δ2, G2, a1.ar.base, e2, hlo, fun vs ι2 H2 a2 => ?_⟩
        refine ⟨ι2, δ2, G2, hs, hi, δ3, G3, a2.ar.base, e3, hhi, fun ws ι3 H3 a3 => ?_⟩
        refine ⟨ι3, δ3, G3, y, _, _, a3.ar.base, e5, fun u ι4 H4 a4 => ?_⟩
        have a := a1.app (a2.app (a3.app a4))
        have ar : Args K κ ι4 H4 σ _ _ (x :: (ls ++ (hs ++ [y]))) (v :: (vs ++ (ws ++ [u]))) := a.ar
        unfold ptE at hk
        split at hk
        · rename_i hq; cases hq
        · rename_i i hq
          cases hk
          cases hq
          have r := a4.ar.im (j := 0) rfl rfl
          cases r
          obtain ⟨b, ys, e6, h1, r⟩ := sqL_head ar hx hc.2
          exact ⟨c, rfl, b, ys, e6, h1, fun z => hc.1 (by cases z; rfl), fun p hp => k _ _ _ (a.then (fin_lst a.ar hp (r.pick lo hi (some c))))⟩
        · cases hk
      · cases eq4
    · cases eq4
  · cases eq4
end
section
variable {X : Cx} {κ : Str → Addr} {a b e st : Expr} {fa fb : Mo Ev} {fl fh : Mo (List Ev)} {lo hi : Option Expr} {pos p2 : Pos} {k : Nat}
theorem e_sli (h : LE X κ e fa) (hl : PO X lo (UpO X.K κ fl)) (hh : PO X hi (UpO X.K κ fh)) : LE X κ (.Subscript e (.Slice lo hi none p2) pos) (sliF fa fl fh) := .mk (pe_imp (pe_slice (sl_list.or (sl_tupA.or sl_str)) h.pe hl hh) fun _ _ _ => up_sli)
theorem e_stp (h : LE X κ e fa) (hl : PO X lo (UpO X.K κ fl)) (hh : PO X hi (UpO X.K κ fh)) (hs : LE X κ st fb) : LE X κ (.Subscript e (.Slice lo hi (some st) p2) pos) (stpF fa fl fh fb) := .mk (pe_imp (pe_sliceS h.pe hl hh hs.pe) fun _ _ _ => up_stp)
end
end B
namespace B
open PySem PySem.Spec PyProof.Rows L2
section
variable {X : Cx} {K : PySem.W.Frag} {κ : Str → Addr} {ι : List Addr} {H : Hp} {σ : L2.St}
noncomputable def isLst (δ : De) (G : List M) (e : Ev) : Bool := match pk δ G e with
  | some (.lst _) => true
  | _ => false
noncomputable def bmF (p : List Ev → Mo Ev) (fo : Mo Ev) (fa : Mo (List Ev)) : Mo Ev := bd fo fun e => fun δ G => if isLst δ G e then bd fa (fun es => p (e :: es)) δ G else none
noncomputable def rM (r : V → List V → Hp → VK → Prop) : List V → Hp → VK → Prop := fun vs H Q => ∃ x xs, vs = x :: xs ∧ r x xs H Q
theorem lst_ty {δ : De} {G : List M} {e : Ev} {v : V} {fp : List Addr} {H0 : Hp} {ι0 : List Addr} (a : After K κ σ ι0 fp H0 [e] δ G [v] ι H) (h : isLst δ G e = true) : tyV K "list" v H := by
  unfold isLst at h
  split at h
  · rename_i xs hp
    obtain ⟨b, e1, ys, h1, r⟩ := a.ar.pk (j := 0) rfl rfl hp
    subst e1
    exact .inl ⟨rfl, ys, SqL.of h1⟩
  · cases h
theorem up_bm {p : List Ev → Mo Ev} {fo : Mo Ev} {fa : Mo (List Ev)} {r : V → List V → Hp → VK → Prop} {Q : VK} (hp : Prim K κ (rM r) p) (h : UpE K κ (bmF p fo fa) σ H Q) : tBM K "list" r (UpE K κ fo) (UpA K κ fa) σ H Q := by
  obtain ⟨ι, δ, G, e, δ', G', s, eq, k⟩ := h
  obtain ⟨x, δ1, G1, e1, eq1⟩ := bd_inv eq
  split at eq1
  · rename_i hl
    obtain ⟨es, δ2, G2, e2, eq2⟩ := bd_inv (m := fa) eq1
    refine ⟨ι, δ, G, x, δ1, G1, s, e1, fun v ι1 H1 a1 => ⟨lst_ty a1 hl, ?_⟩⟩
    refine ⟨ι1, δ1, G1, es, δ2, G2, a1.ar.base, e2, fun vs ι2 H2 a2 => ?_⟩
    have a := a1.app a2
    obtain ⟨y, ys, ey, q⟩ := hp _ _ _ _ _ _ _ _ _ _ Q a.ar eq2 fun v ι3 H3 d => k _ _ _ (a.then d)
    cases ey
    exact q
  · cases eq1
theorem up_bm0 {p : List Ev → Mo Ev} {fo : Mo Ev} {r : V → List V → Hp → VK → Prop} {Q : VK} (hp : Prim K κ (rM r) p) (hl : ∀ e δ G z, p [e] δ G = some z → isLst δ G e = true) (h : UpE K κ (unF p fo) σ H Q) : tBM0 K "list" r (UpE K κ fo) σ H Q := by
  obtain ⟨ι, δ, G, e, δ', G', s, eq, k⟩ := h
  obtain ⟨x, δ1, G1, e1, eq1⟩ := bd_inv eq
  refine ⟨ι, δ, G, x, δ1, G1, s, e1, fun v ι1 H1 a1 => ⟨lst_ty a1 (hl _ _ _ _ eq1), ?_⟩⟩
  obtain ⟨y, ys, ey, q⟩ := hp _ _ _ _ _ _ _ _ _ _ Q a1.ar eq1 fun v ι3 H3 d => k _ _ _ (a1.then d)
  cases ey
  exact q
noncomputable def append1P : List Ev → Mo Ev := fun es δ G => match es with
  | [a, .v (.im d)] => match pk δ G a with
    | some (.lst xs) => if xs.length < 1000000 then some (.v (.im .non), (pkS δ G (.lst (xs ++ [d])) a).1, (pkS δ G (.lst (xs ++ [d])) a).2) else none
    | _ => none
  | _ => none
theorem prim_append : Prim K κ (rM rAppend) append1P := by
  intro ι H σ δ G es vs e δ' G' Q a h k
  unfold append1P at h
  split at h
  · rename_i x d
    split at h
    · rename_i xs hx
      split at h
      · rename_i hl
        cases h
        obtain ⟨v, u, rfl⟩ := len2 a.len
        obtain ⟨b, e1, ys, h1, r⟩ := a.pk (j := 0) rfl rfl hx
        subst e1
        have ru := a.im (j := 1) rfl rfl
        have l1 := r.len
        refine ⟨_, _, rfl, b, ys, u, rfl, rfl, h1, Nat.lt_of_lt_of_le (by lia) (show 1000000 ≤ sizeLine by decide), k _ _ _ (fin_mut a (j := 0) rfl rfl hx (fun _ kp => ⟨_, upd_same, (r.app (.cons ru .nil)).mono (Pre.refl _) kp⟩) .non)⟩
      · cases h
    · cases h
  · cases h
noncomputable def extend1P : List Ev → Mo Ev := fun es δ G => match es with
  | [a, b] => match pk δ G a, sq δ G b with
    | some (.lst xs), some ys => if xs.length + ys.length ≤ 1000000 ∧ notC b then some (.v (.im .non), (pkS δ G (.lst (xs ++ ys)) a).1, (pkS δ G (.lst (xs ++ ys)) a).2) else none
    | _, _ => none
  | _ => none
where notC : Ev → Bool
  | .v (.im (.fro _)) => false
  | _ => true
theorem prim_extend : Prim K κ (rM fun x xs H Q => rExtend x xs H Q ∨ rExtendT K x xs H Q) extend1P := by
  intro ι H σ δ G es vs e δ' G' Q a h k
  unfold extend1P at h
  split at h
  · rename_i x y
    split at h
    · rename_i xs ys hx hy
      split at h
      · rename_i hl
        cases h
        obtain ⟨v, u, rfl⟩ := len2 a.len
        obtain ⟨b, e1, zs, h1, r⟩ := a.pk (j := 0) rfl rfl hx
        subst e1
        have l1 := r.len
        have ty : (∃ c ws, u = .ref c ∧ H c = some (.lst ws) ∧ RpIs K ι H ws ys) ∨ (∃ c ws, u = .ref c ∧ SqT K H c ws ∧ RpIs K ι H ws ys) := by
          have fromPk : (match B.pk δ G y with | some (.lst xs) => some xs | _ => none) = some ys → ∃ c ws, u = .ref c ∧ H c = some (.lst ws) ∧ RpIs K ι H ws ys := fun q => by
            split at q
            · rename_i xs' e'
              cases q
              obtain ⟨b, e1, ws, h3, r⟩ := a.pk (j := 1) rfl rfl e'
              exact ⟨b, ws, e1, h3, r⟩
            · cases q
          cases y with
          | s i => exact .inl (fromPk hy)
          | v z =>
            cases z with
            | ow m => exact .inl (fromPk hy)
            | im d =>
              have r := a.im (j := 1) rfl rfl
              cases r with
              | tup q r => cases hy; exact .inr ⟨_, _, rfl, SqT.of q, r⟩
              | con q r => cases hy; exact .inr ⟨_, _, rfl, SqT.kon q, r⟩
              | fro q r => cases hl.2
              | ref q => exact .inl (fromPk hy)
              | non => exact .inl (fromPk hy)
              | bl => exact .inl (fromPk hy)
              | int => exact .inl (fromPk hy)
              | str => exact .inl (fromPk hy)
              | ty => exact .inl (fromPk hy)
        have fin : ∀ {ws : List V}, RpIs K ι H ws ys → Q .non (upd H b (.lst (zs ++ ws))) := fun rw' => k _ _ _ (fin_mut a (j := 0) rfl rfl hx (fun _ kp => ⟨_, upd_same, (r.app rw').mono (Pre.refl _) kp⟩) .non)
        rcases ty with ⟨c, ws, rfl, hc, r2⟩ | ⟨c, ws, rfl, hc, r2⟩
        · have l2 := r2.len
          exact ⟨_, _, rfl, .inl ⟨b, c, zs, ws, rfl, rfl, h1, hc, Nat.le_trans (by lia) (show 1000000 ≤ sizeLine by decide), fin r2⟩⟩
        · have l2 := r2.len
          exact ⟨_, _, rfl, .inr ⟨b, c, zs, ws, rfl, rfl, h1, hc, Nat.le_trans (by lia) (show 1000000 ≤ sizeLine by decide), fin r2⟩⟩
      · cases h
    · cases h
  · cases h
noncomputable def pop0P : List Ev → Mo Ev := fun es δ G => match es with
  | [a] => match pk δ G a with
    | some (.lst xs) => match xs[xs.length - 1]? with
      | some d => some (.v (.im d), (pkS δ G (.lst xs.dropLast) a).1, (pkS δ G (.lst xs.dropLast) a).2)
      | none => none
    | _ => none
  | _ => none
theorem RpIs.dropLast {vs : List V} {xs : List I} (r : RpIs K ι H vs xs) : RpIs K ι H vs.dropLast xs.dropLast := by
  rw [List.dropLast_eq_take, List.dropLast_eq_take, r.len]
  exact r.take _
theorem prim_pop : Prim K κ (rM rPop) pop0P := by
  intro ι H σ δ G es vs e δ' G' Q a h k
  unfold pop0P at h
  split at h
  · rename_i x
    split at h
    · rename_i xs hx
      split at h
      · rename_i d hd
        cases h
        obtain ⟨v, rfl⟩ := len1 a.len
        obtain ⟨b, e1, ys, h1, r⟩ := a.pk (j := 0) rfl rfl hx
        subst e1
        obtain ⟨w, hw, rw'⟩ := r.get hd
        refine ⟨_, _, rfl, b, ys, w, rfl, rfl, h1, by rw [r.len]; exact hw, k _ _ _ (fin_mut a (j := 0) rfl rfl hx (fun _ kp => ⟨_, upd_same, r.dropLast.mono (Pre.refl _) kp⟩) rw')⟩
      · cases h
    · cases h
  · cases h
theorem pop_lst (e : Ev) (δ : De) (G : List M) (z : Ev × De × List M) (h : pop0P [e] δ G = some z) : isLst δ G e = true := by
  unfold pop0P at h
  dsimp only at h
  unfold isLst
  split at h
  · rfl
  · cases h
noncomputable def putQ : List Ev → De → List M → Option (De × List M) := fun es δ G => match es with
  | [.v (.im d), a, .v (.im x)] => match pk δ G a with
    | some (.lst xs) => match x with
      | .int i => match ixN xs.length i with
        | some j => some (pkS δ G (.lst (xs.set j d)) a)
        | none => none
      | _ => none
    | some (.dic kvs) => match keyI x with
      | some k => if kvs.length < 1000000 then some (pkS δ G (.dic (putD kvs k d)) a) else none
      | none => none
    | some (.dit kvs) => match keyT x with
      | some k => if kvs.length < 1000000 then some (pkS δ G (.dit (putD kvs k d)) a) else none
      | none => none
    | _ => none
  | _ => none
noncomputable def putF' (fo fi fv : Mo Ev) : SF := fun δ G => match bd fv (fun v => bd fo fun o => bd fi fun i => rt [v, o, i]) δ G with
  | some (es, δ1, G1) => match putQ es δ1 G1 with
    | some (δ2, G2) => some (.nx δ2 G2)
    | none => none
  | none => none
theorem up_put {fo fi fv : Mo Ev} {D : Ends} (h : UpS K κ (putF' fo fi fv) D σ H) : tAsg (UpE K κ fv) (gSub (UpE K κ fo) (UpE K κ fi) rSetL) D σ H ∨ sDPut (UpE K κ fo) (UpE K κ fi) (UpE K κ fv) D σ H := by
  obtain ⟨ι, δ, G, fl, s, eq, k⟩ := h
  unfold putF' at eq
  split at eq
  · rename_i es δe Ge ee
    obtain ⟨v, δ1, G1, e1, ee⟩ := bd_inv ee
    obtain ⟨o, δ2, G2, e2, ee⟩ := bd_inv ee
    obtain ⟨i, δ3, G3, e3, ee⟩ := bd_inv ee
    cases ee
    split at eq
    · rename_i δ4 G4 e4
      cases eq
      -- what comes behind the three
      have go : ∀ {vv ov iv : V} {ι3 : List Addr} {H3 : Hp}, After K κ σ ι (own σ δ ++ ι) H [v, o, i] δe Ge [vv, ov, iv] ι3 H3 →
          (∃ p xs kk j, ov = .ref p ∧ iv = .int kk ∧ H3 p = some (.lst xs) ∧ ixN xs.length kk = some j ∧ D.nx σ (upd H3 p (.lst (xs.set j vv)))) ∨ (∃ a H4, ov = .ref a ∧ DPut H3 a iv vv H4 ∧ D.nx σ H4) := fun {vv ov iv ι3 H3} a => by
        unfold putQ at e4
        split at e4
        · rename_i d a0 x hq
          cases hq
          have rv := a.ar.im (j := 0) rfl rfl
          have rx := a.ar.im (j := 2) rfl rfl
          have nxt : ∀ {m m' : M} {b : Addr} {ob : HO}, pk δe Ge o = some m → ov = .ref b → (RpM K κ ι3 H3 b m → Kp H3 (upd H3 b ob) → RpM K κ ι3 (upd H3 b ob) b m') → (pkS δe Ge m' o = (δ4, G4)) → D.nx σ (upd H3 b ob) := fun hp eo hr he => by
            subst eo
            have f := fin_mut a.ar (j := 1) rfl rfl hp hr (RpI.non)
            obtain ⟨p, q⟩ := (a.then f).drop
            rw [he] at p q
            exact k _ _ _ p q
          split at e4
          · rename_i xs hp
            cases rx with
            | int kk =>
              dsimp only at e4
              split at e4
              · rename_i j hj
                obtain ⟨b, eb, ys, h1, r⟩ := a.ar.pk (j := 1) rfl rfl hp
                have l := r.len
                exact .inl ⟨b, ys, kk, j, eb, rfl, h1, by rw [l]; exact hj, nxt (m' := .lst (xs.set j d)) hp eb (fun _ kp => ⟨_, upd_same, (r.set j rv).mono (Pre.refl _) kp⟩) (Option.some.inj e4)⟩
              · cases e4
            | _ => cases e4
          · rename_i kvs hp
            split at e4
            · rename_i kk hk
              split at e4
              · rename_i hl
                obtain ⟨b, eb, ws, h1, h2, r⟩ := a.ar.pk (j := 1) rfl rfl hp
                have ek := keyI_of rx hk
                subst ek
                have l : ws.length = kvs.length := by have := congrArg List.length h2; simpa using this
                refine .inr ⟨b, _, eb, DPut.k h1 (Nat.lt_of_lt_of_le (by lia) (show 1000000 ≤ sizeLine by decide)), nxt (m' := .dic (putD kvs kk d)) hp eb (fun _ kp => ?_) (Option.some.inj e4)⟩
                obtain ⟨p, q⟩ := putD_rel (k := kk) rv h2 r
                exact ⟨_, upd_same, p, q.mono (Pre.refl _) kp⟩
              · cases e4
            · cases e4
          · rename_i kvs hp
            split at e4
            · rename_i kk hk
              split at e4
              · rename_i hl
                obtain ⟨b, eb, ws, h1, h2, r⟩ := a.ar.pk (j := 1) rfl rfl hp
                obtain ⟨c, ek, hc⟩ := keyT_of rx hk
                subst ek
                have l : ws.length = kvs.length := by have := congrArg List.length h2; simpa using this
                refine .inr ⟨b, _, eb, DPut.t h1 hc (Nat.lt_of_lt_of_le (by lia) (show 1000000 ≤ sizeLine by decide)), nxt (m' := .dit (putD kvs kk d)) hp eb (fun _ kp => ?_) (Option.some.inj e4)⟩
                obtain ⟨p, q⟩ := putD_rel (k := kk) rv h2 r
                exact ⟨_, upd_same, p, q.mono (Pre.refl _) kp⟩
              · cases e4
            · cases e4
          · cases e4
        · cases e4
      -- is it a list
      by_cases hl : ∃ xs, pk δe Ge o = some (.lst xs)
      · left
        refine ⟨ι, δ, G, v, δ1, G1, s, e1, fun vv ι1 H1 a1 => ?_⟩
        refine ⟨ι1, δ1, G1, o, δ2, G2, a1.ar.base, e2, fun ov ι2 H2 a2 => ?_⟩
        refine ⟨ι2, δ2, G2, i, _, _, a2.ar.base, e3, fun iv ι3 H3 a3 => ?_⟩
        have a := a1.app (a2.app a3)
        rcases go a with q | ⟨a', H4, ea, dp, q⟩
        · exact q
        · exfalso
          obtain ⟨xs, hx⟩ := hl
          obtain ⟨b, eb, ys, h1, r⟩ := a.ar.pk (j := 1) rfl rfl hx
          rw [ea] at eb; cases eb
          rcases dp with ⟨_, _, h2, _⟩ | ⟨_, _, _, h2, _⟩ <;> (rw [h1] at h2; cases h2)
      · right
        refine ⟨ι, δ, G, v, δ1, G1, s, e1, fun vv ι1 H1 a1 => ?_⟩
        refine ⟨ι1, δ1, G1, o, δ2, G2, a1.ar.base, e2, fun ov ι2 H2 a2 => ?_⟩
        refine ⟨ι2, δ2, G2, i, _, _, a2.ar.base, e3, fun iv ι3 H3 a3 => ?_⟩
        have a := a1.app (a2.app a3)
        rcases go a with ⟨p, xs, kk, j, eo, _, h1, _, _⟩ | q
        · exfalso
          unfold putQ at e4
          split at e4
          · rename_i d a0 x hq
            cases hq
            split at e4
            · rename_i ys hp; exact hl ⟨ys, hp⟩
            · rename_i kvs hp
              obtain ⟨b, eb, ws, h2, _⟩ := a.ar.pk (j := 1) rfl rfl hp
              rw [eo] at eb; cases eb
              rw [h1] at h2; cases h2
            · rename_i kvs hp
              obtain ⟨b, eb, ws, h2, _⟩ := a.ar.pk (j := 1) rfl rfl hp
              rw [eo] at eb; cases eb
              rw [h1] at h2; cases h2
            · cases e4
          · cases e4
        · exact q
    · cases eq
  · cases eq
end
section
variable {X : Cx} {κ : Str → Addr} {a b e o : Expr} {es : List Expr} {fa fb fv : Mo Ev} {fs : Mo (List Ev)} {pos apos cpos pos' : Pos} {k : Nat}
theorem e_append1 (hr : Room k X.A) (ho : LE X κ o fa) (ha : LA X κ (e :: es) fs) (hbase : attributeBase o "append" X.env (eval o X.env) = eval o X.env := by rfl)
    (hfew : ((backTo cpos (starEach (e :: es) X.env)).all (fun x => !x.1) && (backToKw cpos (keywordEach [] X.env)).all (fun x => x.1.isSome) && decide ((e :: es).length + ([] : List Keyword).length + (if ([] : List Keyword).isEmpty then 0 else 1) < 30)) = true := by rfl)
    (hline : (apos.endLine == cpos.line) = true := by rfl) (hs : starEach (e :: es) X.env = (false, eval e X.env) :: starEach es X.env := by rfl) (hplain : (backTo cpos (starEach es X.env)).any (·.1) = false := by rfl) : LE X κ (.Call (.Attribute o "append" apos) (e :: es) [] cpos) (bmF append1P fa fs) := .mk (pe_imp (pe_bm PySem.F.plainAttrs_list PySem.F.slot_list_append PySem.F.type_list_append mt_append ho.pe ha.pe hbase hfew hline hs hplain) fun _ _ _ => up_bm prim_append)
theorem e_extend1 (hr : Room k X.A) (ho : LE X κ o fa) (ha : LA X κ (e :: es) fs) (hbase : attributeBase o "extend" X.env (eval o X.env) = eval o X.env := by rfl)
    (hfew : ((backTo cpos (starEach (e :: es) X.env)).all (fun x => !x.1) && (backToKw cpos (keywordEach [] X.env)).all (fun x => x.1.isSome) && decide ((e :: es).length + ([] : List Keyword).length + (if ([] : List Keyword).isEmpty then 0 else 1) < 30)) = true := by rfl)
    (hline : (apos.endLine == cpos.line) = true := by rfl) (hs : starEach (e :: es) X.env = (false, eval e X.env) :: starEach es X.env := by rfl) (hplain : (backTo cpos (starEach es X.env)).any (·.1) = false := by rfl) : LE X κ (.Call (.Attribute o "extend" apos) (e :: es) [] cpos) (bmF extend1P fa fs) := .mk (pe_imp (pe_bm PySem.F.plainAttrs_list PySem.F.slot_list_extend PySem.F.type_list_extend (MtR.or mt_extend mt_extendT) ho.pe ha.pe hbase hfew hline hs hplain) fun _ _ _ => up_bm prim_extend)
theorem e_pop0 (ho : LE X κ o fa) (hbase : attributeBase o "pop" X.env (eval o X.env) = eval o X.env := by rfl) (hline : (apos.endLine == cpos.line) = true := by rfl) : LE X κ (.Call (.Attribute o "pop" apos) [] [] cpos) (unF pop0P fa) := .mk (pe_imp (pe_bm0 PySem.F.plainAttrs_list PySem.F.slot_list_pop PySem.F.type_list_pop mt_pop ho.pe hbase hline) fun _ _ _ => up_bm0 prim_pop pop_lst)
theorem s_put (hr : Room k X.A) (ho : LE X κ o fa) (hi : LE X κ e fb) (hv : LE X κ a fv) (hs : swapsWith a (some (.Subscript o e pos')) pos.line X.env = pure false := by rfl) (hs1 : swapsWithSole [.Subscript o e pos'] a pos.line X.env = pure false := by rfl)
    (hw : swappedStores [.Subscript o e pos'] a X.env = pure none := by rfl) (h1 : (assignEach [.Subscript o e pos'] X.env).map (·.2) = [assign (.Subscript o e pos') X.env] := by rfl)
    (ha : ∀ v, assign (.Subscript o e pos') X.env v = (do
      let ov ← holding [v] (eval o X.env)
      let iv ← holding [v, ov] (eval e X.env)
      standAt pos'
      holding [v, ov, iv] (setItem ov iv v)
      release [v, ov, iv] []) := by intro _; rfl) : LS X κ (.Assign [.Subscript o e pos'] a pos) (putF' fa fb fv) := .mk (ps_imp (ps_or (ps_asg hv.pe (pg_sub ho.pe hi.pe set_list ha) hs1 hw h1) (ps_dput (hu_of hr) ho.pe hi.pe hv.pe hs)) fun _ _ _ => up_put)
end
end B
namespace B
open PySem PySem.Spec PyProof.Rows L2
section
variable {X : Cx} {K : PySem.W.Frag} {κ : Str → Addr} {ι : List Addr} {H : Hp} {σ : L2.St}
noncomputable def newK : Mo Ev := rt (.v (.ow (.dic [])))
noncomputable def newT : Mo Ev := rt (.v (.ow (.dit [])))
theorem up_newT {Q : VK} (h : UpE K κ newT σ H Q) : tDNewT σ H Q := by
  obtain ⟨ι, δ, G, e, δ', G', s, eq, k⟩ := h
  cases eq
  intro p hp
  have a := fin_ow (After.nil s).ar hp (m := .dit []) (o := .dT []) ⟨[], upd_same, rfl, .nil⟩
  exact k _ _ _ ⟨a.ar, (After.nil s).st.trans a.st⟩
/-- the pairs of a display: keys and values by turns -/
noncomputable def UpPs (K : PySem.W.Frag) (κ : Str → Addr) (trs : List (TE × TE)) (f : Mo (List Ev)) : Prop := ∀ σ H Q, UpA K κ f σ H (fun vs H1 => ∀ ps : List (V × V), vs = ps.flatMap (fun p => [p.1, p.2]) → Q ps H1) → tPairs trs σ H Q
noncomputable def pnil : Mo (List Ev) := rt []
noncomputable def pcons (fk fv : Mo Ev) (r : Mo (List Ev)) : Mo (List Ev) := bd fk fun a => bd fv fun b => bd r fun es => rt (a :: b :: es)
theorem ups_nil : UpPs K κ [] pnil := fun σ H Q h => by
  obtain ⟨ι, δ, G, es, δ', G', s, e, k⟩ := h
  cases e
  exact k _ _ _ (After.nil s) [] rfl
theorem ups_cons {fk fv : Mo Ev} {r : Mo (List Ev)} {trs : List (TE × TE)} (hr : UpPs K κ trs r) : UpPs K κ ((UpE K κ fk, UpE K κ fv) :: trs) (pcons fk fv r) := fun σ H Q h => by
  obtain ⟨ι, δ, G, es, δ', G', s, e, k⟩ := h
  obtain ⟨x, δ1, G1, e1, e⟩ := bd_inv e
  obtain ⟨y, δ2, G2, e2, e⟩ := bd_inv e
  obtain ⟨zs, δ3, G3, e3, e⟩ := bd_inv e
  cases e
  refine ⟨ι, δ, G, x, δ1, G1, s, e1, fun v ι1 H1 a1 => ?_⟩
  refine ⟨ι1, δ1, G1, y, δ2, G2, a1.ar.base, e2, fun w ι2 H2 a2 => ?_⟩
  refine hr _ _ _ ⟨ι2, δ2, G2, zs, _, _, a2.ar.base, e3, fun vs ι3 H3 a3 ps hps => ?_⟩
  exact k _ _ _ (a1.app (a2.app a3)) ((v, w) :: ps) (by rw [hps]; rfl)
noncomputable def pairsE : List Ev → Option (List (Key × I))
  | [] => some []
  | .v (.im x) :: .v (.im d) :: r => match keyI x, pairsE r with
    | some k, some ps => some ((k, d) :: ps)
    | _, _ => none
  | _ => none
noncomputable def mergeI (ps : List (Key × I)) : List (Key × I) := ps.foldl (fun acc kv => putD acc kv.1 kv.2) []
noncomputable def dicF (f : Mo (List Ev)) : Mo Ev := bd f fun es δ G => match pairsE es with
  | some ps => if ps.length ≤ 15 then some (.v (.ow (.dic (mergeI ps))), δ, G) else none
  | none => none
theorem pairs_rel : ∀ {es : List Ev} {vs : List V} {ps : List (Key × I)}, Paired (RpE K κ ι H) (tS es vs) (tD es) → es.length = vs.length → pairsE es = some ps →
    ∃ kvs : List (Key × V), vs = (kvs.map fun kv => (kV kv.1, kv.2)).flatMap (fun p => [p.1, p.2]) ∧ kvs.map (·.1) = ps.map (·.1) ∧ RpIs K ι H (kvs.map (·.2)) (ps.map (·.2))
  | [], [], _, _, _, h => by cases h; exact ⟨[], rfl, rfl, .nil⟩
  | [], _ :: _, _, _, l, _ => by cases l
  | _ :: _, [], _, _, l, _ => by cases l
  | [_], [_], _, _, _, h => by
    unfold pairsE at h
    split at h
    · rename_i hq; cases hq
    · rename_i hq; cases hq
    · cases h
  | [_], _ :: _ :: _, _, _, l, _ => by cases l
  | _ :: _ :: _, [_], _, _, l, _ => by cases l
  | a :: b :: es, v :: w :: vs, ps, p, l, h => by
    unfold pairsE at h
    split at h
    · rename_i hq; cases hq
    · rename_i x d r hq
      cases hq
      split at h
      · rename_i kk ps' hk hps
        cases h
        cases p with
        | cons p1 p =>
          cases p with
          | cons p2 p =>
            cases p1 with
            | im r1 =>
              cases p2 with
              | im r2 =>
                obtain ⟨kvs, e1, e2, e3⟩ := pairs_rel p (by simpa using l) hps
                refine ⟨(kk, w) :: kvs, ?_, ?_, .cons r2 e3⟩
                · rw [keyI_of r1 hk, e1]; rfl
                · rw [List.map_cons, List.map_cons, e2]
      · cases h
    · cases h
theorem merge_rel : ∀ {kvs : List (Key × V)} {ps : List (Key × I)} {acc : List (Key × V)} {ac : List (Key × I)}, kvs.map (·.1) = ps.map (·.1) → RpIs K ι H (kvs.map (·.2)) (ps.map (·.2)) → acc.map (·.1) = ac.map (·.1) → RpIs K ι H (acc.map (·.2)) (ac.map (·.2)) →
    (mergeK acc kvs).map (·.1) = (ps.foldl (fun acc kv => putD acc kv.1 kv.2) ac).map (·.1) ∧ RpIs K ι H ((mergeK acc kvs).map (·.2)) ((ps.foldl (fun acc kv => putD acc kv.1 kv.2) ac).map (·.2))
  | [], [], _, _, _, _, e, r => ⟨e, r⟩
  | [], _ :: _, _, _, e, _, _, _ => by cases e
  | _ :: _, [], _, _, e, _, _, _ => by cases e
  | (k, v) :: kvs, (k', d) :: ps, acc, ac, e, r, e', r' => by
    simp only [List.map_cons, List.cons.injEq] at e
    obtain ⟨e1, e2⟩ := e
    subst e1
    cases r with
    | cons r rs =>
      obtain ⟨p, q⟩ := putD_rel (k := k) r e' r'
      have := merge_rel (kvs := kvs) (ps := ps) e2 rs p q
      exact this
theorem up_dic {trs : List (TE × TE)} {f : Mo (List Ev)} {Q : VK} (hf : UpPs K κ trs f) (h : UpE K κ (dicF f) σ H Q) : tDisp trs σ H Q := by
  obtain ⟨ι, δ, G, e, δ', G', s, eq, k⟩ := h
  obtain ⟨es, δ1, G1, e1, eq1⟩ := bd_inv eq
  intro p hp
  split at eq1
  · rename_i ps hps
    split at eq1
    · rename_i hl
      cases eq1
      have sp := s.push_ow (o := .dK []) (m := .dic []) hp ⟨[], upd_same, rfl, .nil⟩
      have st0 := Step.lay_ow (ι := ι) (σ := σ) (δ := δ) (o := .dK []) (m := .dic []) s.len hp
      refine hf _ _ _ ⟨ι, δ, G, es, _, _, sp.pop s.len, e1, fun vs ι1 H1 a qs hqs => ?_⟩
      -- the new dict lies beside it
      obtain ⟨j1, j2⟩ := SR.join (σ0 := σ) (δ1 := δ) (τ := [some (.ref p)]) (θ := [some (.ow (.dic []))]) sp s.len a.ar.sr a.ar.l a.st
      have hp1 : H1 p = some (.dK []) := by
        refine a.st.keep p _ upd_same fun hm => ?_
        obtain ⟨o, ho, _⟩ := s.mu hm
        rw [hp] at ho; cases ho
      obtain ⟨kvs, ev, ek, rk⟩ := pairs_rel (paired_split a.ar.l a.ar.sr.sl).2 a.ar.len hps
      have hq : qs = kvs.map fun kv => (kV kv.1, kv.2) := by
        rw [ev] at hqs
        have inj : ∀ {l1 l2 : List (V × V)}, l1.flatMap (fun p => [p.1, p.2]) = l2.flatMap (fun p => [p.1, p.2]) → l1 = l2 := by
          intro l1
          induction l1 with
          | nil => intro l2 h; cases l2 with
            | nil => rfl
            | cons x l2 => simp at h
          | cons x l1 ih => intro l2 h; cases l2 with
            | nil => simp at h
            | cons y l2 =>
              simp only [List.flatMap_cons, List.cons_append, List.nil_append, List.cons.injEq] at h
              obtain ⟨h1, h2, h3⟩ := h
              rw [ih h3, Prod.ext h1 h2]
        exact (inj hqs).symm
      have hkl : kvs.length ≤ 15 := by have := congrArg List.length ek; simp at this; lia
      refine ⟨hp1, kvs, hq, hkl, ?_⟩
      have l1 := a.ar.l
      have i1 : (σ ++ ([some (V.ref p)] ++ tS es vs))[σ.length]? = some (some (.ref p)) := by rw [List.getElem?_append_right (Nat.le_refl _), Nat.sub_self]; rfl
      have i2 : (δ' ++ ([some (Vl.ow (.dic []))] ++ tD es))[σ.length]? = some (some (.ow (.dic []))) := by rw [l1, List.getElem?_append_right (Nat.le_refl _), Nat.sub_self]; rfl
      obtain ⟨q1, q2⟩ := j1.poke i1 i2 (m' := .dic (mergeI ps)) (o := .dK (mergeK [] kvs)) (fun _ kp => by
        obtain ⟨z1, z2⟩ := merge_rel (acc := []) (ac := []) ek rk rfl .nil
        exact ⟨_, upd_same, z1, z2.mono (Pre.refl _) kp⟩)
      have e5 : ∀ (δx : De), σ.length = δx.length → (δx ++ ([some (Vl.ow (.dic []))] ++ tD es)).set σ.length (some (.ow (.dic (mergeI ps)))) = (δx ++ [some (.ow (.dic (mergeI ps)))]) ++ tD es := fun δx l => by
        rw [l, List.set_append_right _ _ (Nat.le_refl _), Nat.sub_self]; simp
      rw [e5 _ l1, ← List.append_assoc σ] at q1
      rw [e5 _ l1, ← List.append_assoc σ] at q2
      rw [← List.append_assoc σ] at j2
      have l2 : (σ ++ [some (V.ref p)]).length = (δ' ++ [some (Vl.ow (.dic (mergeI ps)))]).length := by rw [List.length_append, List.length_append, l1]; rfl
      refine k _ _ _ ⟨⟨l1, q1.pop l2, .cons (fun _ h => by cases h) .nil⟩, ?_⟩
      exact ((st0.trans j2).trans q2).sub fun x hx => own_sub l2 hx
    · cases eq1
  · cases eq1
noncomputable def orV (fa fb : Mo Ev) : Mo Ev := bd fa fun e => fun δ G => match truE e δ G with
  | some (true, _, _) => some (e, δ, G)
  | some (false, _, _) => fb δ G
  | none => none
theorem tru_of {e : Ev} {δ : De} {G : List M} {v : V} {c : Bool} {δ' : De} {G' : List M} (a : Args K κ ι H σ δ G [e] [v]) (h : truE e δ G = some (c, δ', G')) : TruV K v H c ∧ δ' = δ ∧ G' = G := by
  have seqs : ∀ {xs : List I}, sq δ G e = some xs → TruV K v H (!xs.isEmpty) := fun hx => by
    obtain ⟨b, ys, e2, h2, r⟩ := a.sq (j := 0) rfl rfl hx
    subst e2
    rw [isE r]
    rcases h2 with h2 | h2
    · exact .inl ⟨ys, h2, rfl⟩
    · exact .inr (.inl ⟨ys, h2, rfl⟩)
  unfold truE at h
  split at h
  · cases h; cases a.im (j := 0) rfl rfl; exact ⟨rfl, rfl, rfl⟩
  · cases h; cases a.im (j := 0) rfl rfl; exact ⟨rfl, rfl, rfl⟩
  · cases h; cases a.im (j := 0) rfl rfl; exact ⟨rfl, rfl, rfl⟩
  · split at h
    · rename_i y hy
      cases h; cases a.im (j := 0) rfl rfl
      exact ⟨⟨Nat.le_trans hy (by decide), rfl⟩, rfl, rfl⟩
    · cases h
  · split at h
    · rename_i kvs hp
      cases h
      obtain ⟨b, e2, ws, h1, h2, h3⟩ := a.pk (j := 0) rfl rfl hp
      subst e2
      refine ⟨.inr (.inr ⟨ws, h1, ?_⟩), rfl, rfl⟩
      have := congrArg List.length h2
      simp at this
      cases kvs <;> cases ws <;> simp_all
    · split at h
      · rename_i xs hx
        cases h
        exact ⟨seqs hx, rfl, rfl⟩
      · cases h
end
section
variable {X : Cx} {κ : Str → Addr} {a b e o : Expr} {es : List Expr} {fa fb fv : Mo Ev} {fs : Mo (List Ev)} {p pos apos : Pos} {k n : Nat}
theorem e_dnewT : LE X κ (.Dict [] [] pos) newT := .mk (pe_imp pe_dnewT fun _ _ _ => up_newT)
noncomputable def LP (X : Cx) (κ : Str → Addr) (pos : Pos) (keys : List (Option Expr)) (vals : List Expr) (f : Mo (List Ev)) : Prop := ∃ trs, PPs X pos keys vals trs ∧ UpPs X.K κ trs f
theorem d_nil : LP X κ pos [] [] pnil := ⟨[], pps_nil, ups_nil⟩
theorem d_cons {ks : List (Option Expr)} {vs : List Expr} (hk : LE X κ a fa) (hv : LE X κ b fb) (hr : LP X κ pos ks vs fs) : LP X κ pos (some a :: ks) (b :: vs) (pcons fa fb fs) := let ⟨trs, h1, h2⟩ := hr; ⟨_, pps_cons hk.pe hv.pe h1, ups_cons h2⟩
theorem e_dic {ks : List (Option Expr)} {vs : List Expr} (hr : Room k X.A) (h : LP X κ pos ks vs fs) (hall : ks.all (·.isSome) = true := by rfl) (hl : ks.length = vs.length := by rfl) (h0 : ks ≠ [] := by exact (fun z => nomatch z)) (h15 : ks.length ≤ 15 := by decide) : LE X κ (.Dict ks vs pos) (dicF fs) := .mk (by
  obtain ⟨trs, h1, h2⟩ := h
  exact pe_imp (pe_disp h1 hall hl h0 h15) fun _ _ _ => up_dic h2)
theorem e_one {op} (h : LE X κ a fa) : LE X κ (.BoolOp op [a] pos) fa := .mk (L2.pe_one h.pe)
theorem up_call {K : PySem.W.Frag} {σ : L2.St} {H : Hp} {fn : FF} {Q : VK} (h : UpE K κ (bd fs (callP n fn)) σ H Q) : tCall (UpF K κ n fn) [] E0 (UpA K κ fs) σ H Q := by
  have := up_args (prim_call (E := E0)) h
  unfold tCall
  simpa only [List.append_nil] using this
theorem e_call {x : Str} {ps : List Str} {fn : FF} (h : Has X.prog X.w X.K X.mg X.base x k ps (UpF X.K κ n fn)) (hr : Room k X.A) (ha : LA X κ (e :: es) fs) (hg : Gl X x := by rfl)
    (hdb : (x == ("__debug__" : Str)) = false := by decide) (he : starEach (e :: es) X.env = (false, eval e X.env) :: starEach es X.env := by rfl) (hpl : (backTo pos (starEach es X.env)).any (·.1) = false := by rfl) : LE X κ (.Call (.Name x p) (e :: es) [] pos) (bd fs (callP n fn)) := .mk (pe_imp (pe_has h hr hg ha.pe hdb he hpl) fun _ _ _ => up_call)
/-- a method, whatever it is proved to do -/
noncomputable def HasM (P : Program) (w : World) (K : PySem.W.Frag) (mg : Str → Option Value) (base : Heap) (C : Addr) (m : Str) (k : Nat) (ps : List Str) (sp : Sp) : Prop :=
  ∃ (f : Addr) (fd : FuncData), Meth K C m f ∧ Binds K fd ps [] ∧ FnOk P w K mg base CX0 k f fd ps sp
theorem e_meth {c m : Str} {ps : List Str} {fn : FF} {pl : Sem Bool} (h : HasM X.prog X.w X.K X.mg X.base (κ c) m k ps (UpF X.K κ n fn)) (hc : Cls X.K (κ c)) (hr : Room k X.A) (ho : LE X κ o fa) (ha : LA X κ (e :: es) fs)
    (hst : starEach (e :: es) X.env = (false, eval e X.env) :: starEach es X.env := by rfl) (hpl : (backTo pos (starEach es X.env)).any (·.1) = false := by rfl)
    (ht : eval (.Call (.Attribute o m apos) (e :: es) [] pos) X.env = (do
      let ov ← eval o X.env
      standAt apos.atName
      let (f, first) ← holding [ov] (getMethod ov m pl)
      callWith pos f first (backTo pos (starEach (e :: es) X.env)) (backToKw pos (keywordEach [] X.env))) := by rfl) : LE X κ (.Call (.Attribute o m apos) (e :: es) [] pos) (methF c m n fn fa fs) := .mk (by
  obtain ⟨f, fd, hm, hb, F⟩ := h
  exact pe_imp (pe_meth ho.pe hc hm F hr hb .nil pass0 ha.pe hst hpl ht) fun _ _ _ => up_meth)
theorem e_meth0 {c m : Str} {ps : List Str} {fn : FF} {pl : Sem Bool} (h : HasM X.prog X.w X.K X.mg X.base (κ c) m k ps (UpF X.K κ n fn)) (hc : Cls X.K (κ c)) (hr : Room k X.A) (ho : LE X κ o fa)
    (ht : eval (.Call (.Attribute o m apos) [] [] pos) X.env = (do
      let ov ← eval o X.env
      standAt apos.atName
      let (f, first) ← holding [ov] (getMethod ov m pl)
      callWith pos f first (backTo pos (starEach [] X.env)) (backToKw pos (keywordEach [] X.env))) := by rfl) : LE X κ (.Call (.Attribute o m apos) [] [] pos) (methF c m n fn fa nilF) := .mk (by
  obtain ⟨f, fd, hm, hb, F⟩ := h
  refine pe_imp (pe_meth0 ho.pe hc hm F hr hb .nil pass0 ht) fun σ H Q q => ?_
  obtain ⟨ι, δ, G, e, δ', G', s, eq, kk⟩ := up_meth (E := E0) q
  refine ⟨ι, δ, G, e, δ', G', s, eq, fun v ι' H' a => ?_⟩
  obtain ⟨a', dx, fs', e1, e2, e3, e4⟩ := kk v ι' H' a
  exact ⟨a', dx, fs', e1, e2, e3, upA_nil e4⟩)
/-- a class with its __init__ -/
noncomputable def HasI (P : Program) (w : World) (K : PySem.W.Frag) (mg : Str → Option Value) (base : Heap) (C : Addr) (k : Nat) (ps : List Str) (sp : Sp) : Prop :=
  ∃ (f : Addr) (fd : FuncData), Mk K C f ∧ Binds K fd ps [] ∧ FnOk P w K mg base CX0 k f fd ps sp
theorem e_make0 {c x : Str} {ps : List Str} {fn : FF} (h : HasI X.prog X.w X.K X.mg X.base (κ c) k ps (UpF X.K κ n fn)) (hr : Room (k + 1) X.A) (hm : X.mg x = some (.ref (κ c))) (hg : Gl X x := by rfl) (hdb : (x == ("__debug__" : Str)) = false := by decide) : LE X κ (.Call (.Name x p) [] [] pos) (bd nilF (makeP c n fn)) := .mk (by
  obtain ⟨f, fd, hM, hb, F⟩ := h
  refine pe_imp (pe_make0 hM F hr hg hm hb .nil pass0 hdb) fun _ _ _ q => ?_
  exact upA_nil (up_args (prim_make (E := E0)) q))
theorem e_fld {c f : Str} (hc : Cls X.K (κ c)) (hn : NoAttr X.K (κ c) f) (h : LE X κ o fa) (hb : attributeBase o f X.env (eval o X.env) = eval o X.env := by rfl) : LE X κ (.Attribute o f pos) (unF (fldP c f) fa) := .mk (pe_imp (pe_fld h.pe hb) fun _ _ _ => up_fld hc hn)
theorem s_fld {c f : Str} {pos' : Pos} (hc : Cls X.K (κ c)) (hn : NoAttr X.K (κ c) f) (h : LE X κ o fa) (hv : LE X κ a fv) (hs : swapsWith a (some (.Attribute o f pos')) pos.line X.env = pure false := by rfl) : LS X κ (.Assign [.Attribute o f pos'] a pos) (fldS c f fa fv) := .mk (ps_imp (ps_fld h.pe hv.pe hs) fun _ _ _ => up_fldS hc hn)
theorem s_set {i : Nat} {x : Str} {pos' : Pos} (hN : X.N.Nodup) (h : LE X κ a fa) (hi : X.N[i]? = some x := by rfl) (hx : Loc X.env.scope x := by first | exact Or.inl rfl | exact Or.inr rfl) (hs : swapsWith a (some (.Name x pos')) pos.line X.env = pure false := by rfl) (hf : X.fn x = true ∨ X.env.scope.names.lookup x = some .local := by first | exact .inl rfl | exact .inr rfl | assumption) : LS X κ (.Assign [.Name x pos'] a pos) (asgF fa (gNm i)) := .mk (ps_imp (ps_set hN hi hx h.pe hs hf) fun D σ H q => by
  obtain ⟨ι, δ, G, e, δ', G', s, eq, kk⟩ := up_asg q
  exact ⟨ι, δ, G, e, δ', G', s, eq, fun v ι' H' a => up_gnm (kk v ι' H' a)⟩)
end
end B
namespace B
open PySem PySem.Spec PyProof.Rows L2
section
variable {X : Cx} {K : PySem.W.Frag} {κ : Str → Addr} {ι : List Addr} {H : Hp} {σ : L2.St}
noncomputable def seqP : List Ev → De → List M → Option Wk := fun es δ G => match lsP es δ G with
  | some w => some w
  | none => tpP es δ G
theorem itF_of {fa : Mo (List Ev)} {p q : List Ev → De → List M → Option Wk} {δ : De} {G : List M} {w : Wk} {es : List Ev} {δ1 : De} {G1 : List M} (h : itF fa p δ G = some (w, es, δ1, G1)) (hpq : p es δ1 G1 = some w → q es δ1 G1 = some w) : itF fa q δ G = some (w, es, δ1, G1) := by
  unfold itF at h ⊢
  split at h
  · rename_i es' δ' G' e
    cases hp : p es' δ' G' with
    | none => rw [hp] at h; cases h
    | some w' =>
      rw [hp] at h
      cases h
      rw [hpq hp]; rfl
  · cases h
theorem up_seqI {f : Mo Ev} {R : It → Hp → Prop} (h : UpI K κ (itF (one f) seqP) σ H R) : iList K (UpE K κ f) σ H R ∨ iTup K (UpE K κ f) σ H R := by
  obtain ⟨ι, δ, G, w, es, δ', G', s, eq, k⟩ := h
  by_cases hq : lsP es δ' G' = some w
  · left
    refine up_one (up_it prim_ls ⟨ι, δ, G, w, es, δ', G', s, itF_of eq fun _ => hq, k⟩)
  · right
    refine up_one (up_it prim_tp ⟨ι, δ, G, w, es, δ', G', s, itF_of eq fun hs => ?_, k⟩)
    unfold seqP at hs
    split at hs
    · rename_i w' hw
      exact absurd (hw.trans hs) hq
    · exact hs
noncomputable def rng3P : List Ev → De → List M → Option Wk := fun es _ _ => match es with
  | [.v (.im (.int i)), .v (.im (.int j)), .v (.im (.int c))] => if c = -1 ∧ j < 2 ^ 62 ∧ -(2 ^ 62) ≤ j ∧ i < 2 ^ 62 ∧ -(2 ^ 62) ≤ i then some ⟨(i - j).toNat, fun k _ _ => some (.int (i - k)), fun _ _ => true⟩ else none
  | _ => none
/-- zip of two lists -/
noncomputable def zipW (a b : Ev) (n : Nat) : Wk := ⟨n, fun i δ G => match (sq δ G a).bind (·[i]?), (sq δ G b).bind (·[i]?) with | some x, some y => some (.tup [x, y]) | _, _ => none, fun δ G => match sq δ G a, sq δ G b with | some xs, some ys => decide (min xs.length ys.length = n) | _, _ => false⟩
noncomputable def zipP : List Ev → De → List M → Option Wk := fun es δ G => match es with
  | [a, b] => if isL δ G a && isL δ G b then match sq δ G a, sq δ G b with
    | some xs, some ys => some (zipW a b (min xs.length ys.length))
    | _, _ => none
    else none
  | _ => none
theorem args_two {a b : Ev} {v u : V} {x y : Vl} {δ : De} {G : List M} (ha : a = .v x) (hb : b = .v y) (l : σ.length = δ.length) (h : SR K κ ι H (σ ++ tS [a, b] [v, u]) (δ ++ tD [a, b]) G) : Args K κ ι H σ δ G [a, b] [v, u] := ⟨l, h, .cons (fun i q => by rw [ha] at q; cases q) (.cons (fun i q => by rw [hb] at q; cases q) .nil)⟩
theorem sqL_at {es : List Ev} {vs : List V} {δ : De} {G : List M} {e : Ev} {v : V} {xs : List I} {j : Nat} (a : Args K κ ι H σ δ G es vs) (h1 : es[j]? = some e) (h2 : vs[j]? = some v) (hl : isL δ G e = true) (h : sq δ G e = some xs) : ∃ b ys, v = .ref b ∧ SqL K H b ys ∧ RpIs K ι H ys xs := by
  cases e with
  | s i => cases hl
  | v x =>
    cases x with
    | ow m =>
      cases m with
      | lst ys =>
        cases h
        obtain ⟨b, e1, zs, h3, r⟩ := a.pk h1 h2 (m := .lst xs) rfl
        exact ⟨b, zs, e1, SqL.of h3, r⟩
      | _ => cases hl
    | im d =>
      cases d with
      | fro ys =>
        cases h
        have r := a.im h1 h2
        cases r with
        | fro q r => exact ⟨_, _, rfl, q.sq, r⟩
      | ref k =>
        have h : (match pk δ G (.v (.im (.ref k))) with | some (.lst xs) => some xs | _ => none) = some xs := h
        split at h
        · rename_i ys e1
          cases h
          obtain ⟨b, e1, zs, h3, r⟩ := a.pk h1 h2 e1
          exact ⟨b, zs, e1, SqL.of h3, r⟩
        · cases h
      | _ => cases hl
theorem walks_zip {a b : Ev} {n : Nat} {p q : Addr} {δ : De} {G : List M} (ha : isL δ G a = true) (hb : isL δ G b = true) : Walks K κ (Itz K p q) (tS [a, b] [.ref p, .ref q]) (tD [a, b]) (zipW a b n) where
  go := fun {i d ι H σ δ' G'} hi hd l s => by
    obtain ⟨x, hx⟩ := isL_v ha
    obtain ⟨y, hy⟩ := isL_v hb
    have hd : (match (sq δ' G' a).bind (·[i]?), (sq δ' G' b).bind (·[i]?) with | some x, some y => some (I.tup [x, y]) | _, _ => none) = some d := hd
    split at hd
    · rename_i u w hu hw
      cases hd
      cases q1 : sq δ' G' a with
      | none => rw [q1] at hu; cases hu
      | some xs =>
        cases q2 : sq δ' G' b with
        | none => rw [q2] at hw; cases hw
        | some ys =>
          rw [q1] at hu; rw [q2] at hw
          have A := args_two hx hy l s
          obtain ⟨b1, vs, e1, h1, r1⟩ := sqL_at A (j := 0) rfl rfl (isL_any ha) q1
          obtain ⟨b2, ws, e2, h2, r2⟩ := sqL_at A (j := 1) rfl rfl (isL_any hb) q2
          cases e1; cases e2
          obtain ⟨v1, hv1, rv1⟩ := r1.get hu
          obtain ⟨v2, hv2, rv2⟩ := r2.get hw
          refine ⟨⟨vs, ws, v1, v2, h1, h2, hv1, hv2⟩, fun x H' y => ?_⟩
          obtain ⟨T, rfl, hT, hy⟩ := y
          have := hy vs ws v1 v2 h1 h2 hv1 hv2
          subst this
          have sm := Same.lay (o := .tup [v1, v2]) hT
          exact ⟨sm, .tup upd_same (.cons (rv1.mono (Pre.refl _) (Kp.same sm)) (.cons (rv2.mono (Pre.refl _) (Kp.same sm)) .nil))⟩
    · cases hd
  stop := fun {ι H σ δ' G'} hf l s => by
    obtain ⟨x, hx⟩ := isL_v ha
    obtain ⟨y, hy⟩ := isL_v hb
    have hf : (match sq δ' G' a, sq δ' G' b with | some xs, some ys => decide (min xs.length ys.length = n) | _, _ => false) = true := hf
    split at hf
    · rename_i xs ys q1 q2
      have A := args_two hx hy l s
      obtain ⟨b1, vs, e1, h1, r1⟩ := sqL_at A (j := 0) rfl rfl (isL_any ha) q1
      obtain ⟨b2, ws, e2, h2, r2⟩ := sqL_at A (j := 1) rfl rfl (isL_any hb) q2
      cases e1; cases e2
      exact ⟨vs, ws, h1, h2, by rw [r1.len, r2.len]; exact of_decide_eq_true hf⟩
    · cases hf
theorem prim_zip : PrimI K κ (fun vs H R => ∃ l1 l2 xs ys, vs = [.ref l1, .ref l2] ∧ SqL K H l1 xs ∧ SqL K H l2 ys ∧ R (Itz K l1 l2) H) zipP := by
  intro ι H σ δ G es vs w R a h k
  unfold zipP at h
  split at h
  · rename_i x y
    split at h
    · rename_i hl
      rw [Bool.and_eq_true] at hl
      split at h
      · rename_i xs ys q1 q2
        cases h
        obtain ⟨v, u, rfl⟩ := len2 a.len
        obtain ⟨b1, vs, e1, h1, r1⟩ := sqL_at a (j := 0) rfl rfl hl.1 q1
        obtain ⟨b2, ws, e2, h2, r2⟩ := sqL_at a (j := 1) rfl rfl hl.2 q2
        subst e1; subst e2
        exact ⟨b1, b2, vs, ws, rfl, h1, h2, k _ (walks_zip hl.1 hl.2)⟩
      · cases h
    · cases h
  · cases h
noncomputable def yesF : Mo Bool := rt true
theorem up_yes {Q : Bool → Hp → Prop} (h : UpT K κ yesF σ H Q) : tNoIf σ H Q := by
  obtain ⟨ι, δ, G, b, δ', G', s, eq, k⟩ := h
  cases eq
  exact k _ _ s (Step.refl _ _ _)
end
section
variable {X : Cx} {κ : Str → Addr} {a b c e tg : Expr} {es : List Expr} {fa fb : Mo Ev} {fs : Mo (List Ev)} {fc : Mo Bool} {p pos p0 : Pos} {k k0 : Nat} {elts : List Expr}
theorem i_seq (h : LE X κ a fa) : LI X κ tg a (itF (one fa) seqP) := .mk (pi_imp (pi_or (pi_list h.pe) (pi_tup h.pe)) fun _ _ _ => up_seqI)
theorem i_rng1 (hm : X.mg "range" = none) (ha : LA X κ [a] fs) (hg : Gl X "range" := by rfl) (hs : starEach [a] X.env = [(false, eval a X.env)] := by rfl) : LI X κ tg (.Call (.Name "range" p) [a] [] pos) (itF fs rng1P) := .mk (pi_imp (pi_range1 hg hm ha.pe hs) fun _ _ _ q => up_it prim_rng1 q)
theorem i_zip (hm : X.mg "zip" = none) (ha : LA X κ [a, b] fs) (hg : Gl X "zip" := by rfl) (hs : starEach [a, b] X.env = [(false, eval a X.env), (false, eval b X.env)] := by rfl) (hs2 : starEach [b] X.env = [(false, eval b X.env)] := by rfl) : LI X κ (.Tuple elts k0 p0) (.Call (.Name "zip" p) [a, b] [] pos) (itF fs zipP) := .mk (pi_imp (pi_zip hg hm ha.pe hs hs2) fun _ _ _ q => up_it prim_zip q)
@[irreducible] noncomputable def LIf (X : Cx) (κ : Str → Addr) (ifs : List Expr) (f : Mo Bool) : Prop := PIfs X ifs (UpT X.K κ f)
theorem LIf.mk {X : Cx} {κ : Str → Addr} {ifs : List Expr} {f : Mo Bool} (h : PIfs X ifs (UpT X.K κ f)) : LIf X κ ifs f := by unfold LIf; exact h
theorem LIf.pe {X : Cx} {κ : Str → Addr} {ifs : List Expr} {f : Mo Bool} (h : LIf X κ ifs f) : PIfs X ifs (UpT X.K κ f) := by unfold LIf at h; exact h
theorem i_nil : LIf X κ [] yesF := .mk (fun pins s σ H Q I h => pifs_nil pins s σ H Q I (up_yes h))
theorem i_one (h : LT X κ c fc) : LIf X κ [c] fc := .mk (pifs_one h.pe)
variable {scope : Scope} {x y : Str} {ys : List Str} {ix : List Nat} {ifs : List Expr} {fi : IF} {px py : Pos}
theorem e_comp1 (O : CompOkN X scope [x] ys ix) (hi : LI X κ (.Name x px) a fi) (hf : ∀ z, LIf (compCx X scope ([x] ++ ys) z) κ ifs fc) (he : ∀ z, LE (compCx X scope ([x] ++ ys) z) κ e fb) (hc : X.calm = true := by rfl) (hs : ∀ v, foldedSetIterable a X.env v = pure v := by intro _; rfl) : LE X κ (.ListComp e [⟨.Name x px, a, ifs, 0⟩] scope pos) (compF fi ix c1 fc fb) := .mk (pe_imp (pe_compG O hc hi.pe (fun z => pg_own O (i := 0) rfl) (fun z => (hf z).pe) (fun z => (he z).pe) hs) fun _ _ _ => up_comp (fun _ => tgt_1))
theorem s_comp1 {i : Nat} {spos : Pos} (O : CompOkN X scope [x] ys ix) (hi : LI X κ (.Name x px) a fi) (hf : ∀ z, LIf (compCx X scope ([x] ++ ys) z) κ ifs fc) (he : ∀ z, LE (compCx X scope ([x] ++ ys) z) κ e fb) (hN : X.N.Nodup) (hy : X.N[i]? = some y := by rfl) (hl : X.env.scope.names.lookup y = some .local := by rfl) (hc : X.calm = true := by rfl)
    (hsw : swapsWith (.ListComp e [⟨.Name x px, a, ifs, 0⟩] scope pos) (some (.Name y py)) spos.line X.env = pure true := by rfl) (hs : ∀ v, foldedSetIterable a X.env v = pure v := by intro _; rfl) : LS X κ (.Assign [.Name y py] (.ListComp e [⟨.Name x px, a, ifs, 0⟩] scope pos) spos) (asgF (compF fi ix c1 fc fb) (gNm i)) := .mk (ps_imp (ps_compG O hc hN hy hl hi.pe (fun z => pg_own O (i := 0) rfl) (fun z => (hf z).pe) (fun z => (he z).pe) hsw hs) fun D σ H q => by
    obtain ⟨ι, δ, G, e, δ', G', s, eq, kk⟩ := up_asg q
    exact up_comp (fun _ => tgt_1) ⟨ι, δ, G, e, δ', G', s, eq, fun v ι' H' a => up_gnm (kk v ι' H' a)⟩)
theorem pgc2 {x1 x2 : Str} {q1 q2 q0 : Pos} {kk : Nat} (O : CompOkN X scope [x1, x2] ys ix) (hc : X.calm = true) (z : CompAt) : PG (compCx X scope ([x1, x2] ++ ys) z) (.Tuple [.Name x1 q1, .Name x2 q2] kk q0) (gTup X.K 2 (gRow (List.range 2))) :=
  pg_tup (X := compCx X scope ([x1, x2] ++ ys) z) (n := 2) hc (pgs_cons (pg_own O (i := 0) rfl) (pgs_cons (pg_own O (i := 1) rfl) pgs_nil))
theorem s_comp2 {x1 x2 : Str} {q1 q2 q0 : Pos} {kk : Nat} {i : Nat} {spos : Pos} (O : CompOkN X scope [x1, x2] ys ix) (hi : LI X κ (.Tuple [.Name x1 q1, .Name x2 q2] kk q0) a fi) (hf : ∀ z, LIf (compCx X scope ([x1, x2] ++ ys) z) κ ifs fc) (he : ∀ z, LE (compCx X scope ([x1, x2] ++ ys) z) κ e fb) (hN : X.N.Nodup) (hy : X.N[i]? = some y := by rfl) (hl : X.env.scope.names.lookup y = some .local := by rfl) (hc : X.calm = true := by rfl)
    (hsw : swapsWith (.ListComp e [⟨.Tuple [.Name x1 q1, .Name x2 q2] kk q0, a, ifs, 0⟩] scope pos) (some (.Name y py)) spos.line X.env = pure true := by rfl) (hs : ∀ v, foldedSetIterable a X.env v = pure v := by intro _; rfl) : LS X κ (.Assign [.Name y py] (.ListComp e [⟨.Tuple [.Name x1 q1, .Name x2 q2] kk q0, a, ifs, 0⟩] scope pos) spos) (asgF (compF fi ix (cN 2) fc fb) (gNm i)) := .mk (ps_imp (ps_compG O hc hN hy hl hi.pe (pgc2 O hc) (fun z => (hf z).pe) (fun z => (he z).pe) hsw hs) fun D σ H q => by
    obtain ⟨ι, δ, G, e, δ', G', s, eq, kk⟩ := up_asg q
    exact up_comp (fun _ => tgt_n 2) ⟨ι, δ, G, e, δ', G', s, eq, fun v ι' H' a => up_gnm (kk v ι' H' a)⟩)
end
section
variable {P : Program} {w : World} {K : PySem.W.Frag} {mg : Str → Option Value} {base : Heap} {κ : Str → Addr}
theorem lift {x qual : Str} {st : Stmt} {f : Addr} {fd : FuncData} {N ps : List Str} {k n r : Nat} {body : SF} (F : Fun K x qual st f fd) (S : FnScope N ps (defScope st)) (hn : ps.length = n) (hN : N.length = n + r)
    (hb : ∀ (cdv : Value) (A : Around) (outer : List Env) (s : Shared) (H : Hp) (E : XK), Room k (A.deeper (envOfC qual (defScope st) s.heap.objs.size f cdv)) → LSs (cxOf CX0 P w K mg base N qual (defScope st) f cdv A outer s H E).nox κ (defBody st) body) :
    FnOk P w K mg base CX0 (k + 1) f fd ps (UpF K κ n (runF n r body)) := by
  refine F.ok S (fun vs H Q E h => by rw [(up_run h).1, hn]) (fun cdv A outer s H vs Q E hr h => ⟨_, (hb cdv A outer s H E hr).pe, ?_⟩)
  obtain ⟨l, q⟩ := up_run h
  unfold L2.start
  have e : N.length - vs.length = r := by lia
  rw [e]
  exact q
/-- a function that never ends well -/
theorem none_ok {f : Addr} {fd : FuncData} {ps : List Str} {k n : Nat} : FnOk P w K mg base CX0 k f fd ps (UpF K κ n fun _ _ => none) :=
  ⟨fun vs H Q E h => (by obtain ⟨_, _, _, _, _, _, _, e, _⟩ := h; cases e), fun _ _ _ _ _ _ _ _ _ _ _ _ _ h => (by obtain ⟨_, _, _, _, _, _, _, e, _⟩ := h; cases e)⟩
end
end B
set_option maxHeartbeats 4000000
namespace PySem
open PySem.Spec PyProof.Rows
section
variable {prog : Program} {w : World} {K : Type} [DecidableEq K] {knd : KeyKind prog w K} {A : Around} {E : Value → Shared → Prop} {R : Result → Shared → Prop}
end
end PySem
set_option maxHeartbeats 400000
namespace B
open PySem PySem.Spec PyProof.Rows L2
section
variable {K : PySem.W.Frag} {κ : Str → Addr} {ι : List Addr} {H : Hp}
noncomputable def intsI : List I → Option (List Int)
  | [] => some []
  | .int i :: r => (intsI r).map (i :: ·)
  | _ => none
theorem intsI_map : ∀ ns : List Int, intsI (ns.map I.int) = some ns
  | [] => rfl
  | n :: ns => by rw [List.map_cons, intsI, intsI_map ns]; rfl
theorem intsI_of : ∀ {xs : List I} {vs : List V} {ns : List Int}, RpIs K ι H vs xs → intsI xs = some ns → vs = ns.map V.int
  | [], _, _, r, h => by cases r; cases h; rfl
  | x :: xs, _, _, r, h => by
    cases r with
    | cons r1 r2 =>
      cases r1 with
      | int i =>
        rw [intsI] at h
        cases e : intsI xs with
        | none => rw [e] at h; cases h
        | some ms => rw [e] at h; cases h; rw [List.map_cons, ← intsI_of r2 e]
      | _ => cases h
noncomputable def sumP : List Ev → Mo Ev := fun es δ G => match es with
  | [a] => if notT a then match sq δ G a with
    | some xs => match intsI xs with
      | some ns => some (.v (.im (.int ns.sum)), δ, G)
      | none => none
    | none => none
    else none
  | _ => none
noncomputable def blsI : List I → Option (List Bool)
  | [] => some []
  | .bl i :: r => (blsI r).map (i :: ·)
  | _ => none
theorem blsI_map : ∀ ns : List Bool, blsI (ns.map I.bl) = some ns
  | [] => rfl
  | n :: ns => by rw [List.map_cons, blsI, blsI_map ns]; rfl
theorem blsI_of : ∀ {xs : List I} {vs : List V} {ns : List Bool}, RpIs K ι H vs xs → blsI xs = some ns → vs = ns.map V.bl
  | [], _, _, r, h => by cases r; cases h; rfl
  | x :: xs, _, _, r, h => by
    cases r with
    | cons r1 r2 =>
      cases r1 with
      | bl i =>
        rw [blsI] at h
        cases e : blsI xs with
        | none => rw [e] at h; cases h
        | some ms => rw [e] at h; cases h; rw [List.map_cons, ← blsI_of r2 e]
      | _ => cases h
noncomputable def allP : List Ev → Mo Ev := fun es δ G => match es with
  | [a] => match pk δ G a with
    | some (.lst xs) => match blsI xs with
      | some bs => some (.v (.im (.bl (bs.all id))), δ, G)
      | none => none
    | _ => none
  | _ => none
theorem prim_all : Prim K κ (fun xs H Q => ∃ (p : Addr) (bs : List Bool), xs = [.ref p] ∧ SqL K H p (bs.map V.bl) ∧ Q (.bl (bs.all id)) H) allP := by
  intro ι H σ δ G es vs e δ' G' Q a h k
  unfold allP at h
  split at h
  · rename_i x
    split at h
    · rename_i xs hx
      split at h
      · rename_i ns hn
        cases h
        obtain ⟨v, rfl⟩ := len1 a.len
        obtain ⟨p, e1, ys, h1, r⟩ := a.pk (j := 0) rfl rfl hx
        subst e1
        exact ⟨p, ns, rfl, by rw [← blsI_of r hn]; exact SqL.of h1, k _ _ _ (fin_im a (.bl _))⟩
      · cases h
    · cases h
  · cases h
mutual
noncomputable def pyD : I → Option PyData
  | .non => some .none
  | .bl b => some (.bool b)
  | .int i => some (.int i)
  | .str x => some (.str x)
  | .tup xs => (pyDs xs).map PyData.tuple
  | .con xs => (pyDs xs).map PyData.tuple
  | _ => none
noncomputable def pyDs : List I → Option (List PyData)
  | [] => some []
  | x :: xs => match pyD x, pyDs xs with
    | some d, some ds => some (d :: ds)
    | _, _ => none
end
end
mutual
inductive RdD (K : PySem.W.Frag) (H : Hp) : V → PyData → Prop
  | non : RdD K H .non .none
  | bl (b : Bool) : RdD K H (.bl b) (.bool b)
  | int (i : Int) : RdD K H (.int i) (.int i)
  | str (x : Str) : RdD K H (.str x) (.str x)
  | tup {a : Addr} {vs : List V} {xs : List PyData} : SqT K H a vs → RdDs K H vs xs → RdD K H (.ref a) (.tuple xs)
inductive RdDs (K : PySem.W.Frag) (H : Hp) : List V → List PyData → Prop
  | nil : RdDs K H [] []
  | cons {v : V} {d : PyData} {vs : List V} {ds : List PyData} : RdD K H v d → RdDs K H vs ds → RdDs K H (v :: vs) (d :: ds)
end
section
variable {X : Cx} {K : PySem.W.Frag} {κ : Str → Addr} {ι : List Addr} {H : Hp} {pins : List (Addr × Obj)} {σ : L2.St} {s : Shared}
mutual
theorem RdD.reads (I : Inv X pins σ H s) : ∀ {v : V} {d : PyData} {u : Value}, RdD X.K H v d → RelV v u → ∃ as, Reads s.heap u d as ∧ d.hasDict = false
  | _, _, _, .non, r => by cases (show _ = Value.none from r); exact ⟨_, .none, rfl⟩
  | _, _, _, .bl b, r => by cases (show _ = Value.bool b from r); exact ⟨_, .bool b, rfl⟩
  | _, _, _, .int i, r => by obtain ⟨t, rfl⟩ := r; exact ⟨_, .int i t, rfl⟩
  | _, _, _, .str x, r => by obtain ⟨t, rfl⟩ := r; exact ⟨_, .str x t, rfl⟩
  | _, _, _, .tup h hs, r => by
    cases (show _ = Value.ref _ from r)
    obtain ⟨its, rv, ⟨o, h1, h2, n, h3⟩, _⟩ := I.tuple h
    obtain ⟨as, hr, hd⟩ := RdDs.reads I hs rv
    exact ⟨as, .tuple h1 h2 h3 (by simpa using hr), by simpa only [PyData.hasDict] using hd⟩
theorem RdDs.reads (I : Inv X pins σ H s) : ∀ {vs : List V} {ds : List PyData} {us : List Value}, RdDs X.K H vs ds → Vals vs us → ∃ as, ReadsAll s.heap us ds as ∧ PyData.hasDictAll ds = false
  | _, _, _, .nil, r => by cases r; exact ⟨_, .nil, rfl⟩
  | _, _, _, .cons h hs, r => by
    cases r with
    | cons r1 r2 =>
      obtain ⟨as, p1, p2⟩ := RdD.reads I h r1
      obtain ⟨bs, q1, q2⟩ := RdDs.reads I hs r2
      exact ⟨_, .cons p1 q1, by simp only [PyData.hasDictAll, p2, q2, Bool.or_self]⟩
end
mutual
theorem RpI.rdD : ∀ {x : I} {v : V} {d : PyData}, RpI K ι H v x → pyD x = some d → RdD K H v d
  | .non, _, _, r, h => by cases r; rw [pyD] at h; cases h; exact .non
  | .bl b, _, _, r, h => by cases r; rw [pyD] at h; cases h; exact .bl b
  | .int i, _, _, r, h => by cases r; rw [pyD] at h; cases h; exact .int i
  | .str i, _, _, r, h => by cases r; rw [pyD] at h; cases h; exact .str i
  | .tup xs, _, _, r, h => by
    rw [pyD] at h
    cases r with
    | tup h1 h2 =>
      cases e : pyDs xs with
      | none => rw [e] at h; cases h
      | some ds => rw [e] at h; cases h; exact .tup (SqT.of h1) (RpIs.rdD h2 e)
  | .con xs, _, _, r, h => by
    rw [pyD] at h
    cases r with
    | con h1 h2 =>
      cases e : pyDs xs with
      | none => rw [e] at h; cases h
      | some ds => rw [e] at h; cases h; exact .tup (SqT.kon h1) (RpIs.rdD h2 e)
  | .ty _, _, _, r, h => by rw [pyD] at h <;> first | cases h | (intros; contradiction)
  | .ref _, _, _, r, h => by rw [pyD] at h <;> first | cases h | (intros; contradiction)
  | .fro _, _, _, r, h => by rw [pyD] at h <;> first | cases h | (intros; contradiction)
theorem RpIs.rdD : ∀ {xs : List I} {vs : List V} {ds : List PyData}, RpIs K ι H vs xs → pyDs xs = some ds → RdDs K H vs ds
  | [], _, _, r, h => by cases r; rw [pyDs] at h; cases h; exact .nil
  | x :: xs, _, _, r, h => by
    cases r with
    | cons r1 r2 =>
      rw [pyDs] at h
      split at h
      · rename_i d ds e1 e2
        cases h
        exact .cons (RpI.rdD r1 e1) (RpIs.rdD r2 e2)
      · cases h
end
end
section
variable {X : Cx} {κ : Str → Addr} {a b e o : Expr} {es : List Expr} {fa fb : Mo Ev} {fs : Mo (List Ev)} {p pos apos cpos : Pos} {k : Nat}
theorem e_all (hr : Room k X.A) (hm : X.mg "all" = none) (ha : LA X κ (e :: es) fs) (hg : Gl X "all" := by rfl) (hc : X.calm = true := by rfl) (he : starEach (e :: es) X.env = (false, eval e X.env) :: starEach es X.env := by rfl) (hpl : (backTo pos (starEach es X.env)).any (·.1) = false := by rfl) : LE X κ (.Call (.Name "all" p) (e :: es) [] pos) (bd fs allP) := .mk (pe_imp (pe_callB (call_all hc) hg hm PyProof.Rows.boot_all ha.pe (by decide) (by decide) he hpl) fun _ _ _ q => up_args prim_all q)
end
end B
namespace L2
open PySem PySem.Spec PyProof.Rows
section
variable {X : Cx} {pins : List (Addr × Obj)} {σ : L2.St} {H : Hp} {s : Shared}
end
end L2
namespace B
open PySem PySem.Spec PyProof.Rows L2
section
variable {K : PySem.W.Frag} {κ : Str → Addr} {ι : List Addr} {H : Hp}
end
section
variable {X : Cx} {κ : Str → Addr} {e : Expr} {es : List Expr} {fs : Mo (List Ev)} {p pos : Pos} {k : Nat}
end
theorem rm {j k : Nat} {A : Around} (r : Room k A) (h : j ≤ k := by first | decide | lia) : Room j A := r.mono h
end B
set_option maxHeartbeats 4000000
namespace PySem
open PySem.Spec PyProof.Rows
section
variable {prog : Program} {w : World} {K : Type} [DecidableEq K] {knd : KeyKind prog w K} {A : Around} {E : Value → Shared → Prop} {R : Result → Shared → Prop}
end
end PySem
set_option maxHeartbeats 400000
namespace L2
open PySem PySem.Spec PyProof.Rows
section
variable {X : Cx} {pins : List (Addr × Obj)} {σ : L2.St} {H : Hp} {s : Shared}
end
end L2
namespace B
open PySem PySem.Spec PyProof.Rows L2
section
variable {K : PySem.W.Frag} {κ : Str → Addr} {ι : List Addr} {H : Hp}
end
section
variable {X : Cx} {κ : Str → Addr} {a b e o : Expr} {es : List Expr} {fa fb : Mo Ev} {fs : Mo (List Ev)} {p pos apos cpos : Pos} {k : Nat}
theorem e_ty {x : Str} {n : String} (hg : Gl X x) (hm : X.mg x = none) (hv : bootBuiltins x = some (.type n)) (hn : x ≠ "__name__" := by decide) (hd : (x == ("__debug__" : Str)) = false := by decide) : LE X κ (.Name x pos) (conF (.ty n)) := .mk (pe_imp (pe_bltn (v := .ty n) hg hm hv rfl hn hd) fun _ _ _ => up_con fun _ _ => .ty _)
end
theorem mkFS {N P : List Str} {sc : Scope} (h1 : sc.kind = .function := by rfl) (h2 : sc.isCoroutine = false := by rfl) (h3 : sc.isGenerator = false := by rfl) (h4 : N.Nodup := by decide +kernel) (h5 : N.take P.length = P := by rfl) (h6 : ∀ x ∈ P, sc.names.lookup x = some .local ∨ sc.names.lookup x = some .cell := by decide +kernel) (h7 : ∀ y ∈ sc.names, y.2 ≠ .free := by decide +kernel) : FnScope N P sc := ⟨h1, h2, h3, h4, h5, h6, h7⟩
section
variable {P : Program} {w : World} {K : PySem.W.Frag} {mg : Str → Option Value} {base : Heap} {k : Nat} {ps : List Str} {sp : Sp} {f : Addr} {fd : FuncData} {C : Addr} {x q m : Str} {st : Stmt}
end
end B
namespace B
open PySem PySem.Spec PyProof.Rows L2
section
variable {X : Cx} {κ : Str → Addr} {a b : Expr} {fa fb : Mo Ev} {pos : Pos} {k : Nat}
end
end B
namespace L2
open PySem PySem.Spec PyProof.Rows
section
variable {P : Program} {w : World} {H : Hp} {h : Heap}
theorem tk_is (ok : HOk P w H h) : ∀ {t : Tr} {a : Addr}, TK H t a → IsTr P w h t a
  | .lf i, a, e => key_of (ks := [.inr "leaf", .inl i]) ok e
  | .pr l r, a, ⟨b, c, e, h1, h2⟩ => by
    obtain ⟨_, its, rv, o, g1, g2, _, n, g3⟩ := (show ObjOk P w H h a (.tup _) from ok a _ e)
    cases rv with
    | cons r1 rv => cases rv with
      | cons r2 rv => cases rv with
        | cons r3 rv => cases rv with
          | nil =>
            obtain ⟨t, rfl⟩ := r1
            cases (show _ = Value.ref b from r2)
            cases (show _ = Value.ref c from r3)
            exact ⟨o, n, t, b, c, g1, g2, g3, tk_is ok h1, tk_is ok h2⟩
theorem dn_of {a : Addr} {ts : List Tr} (ok : HOk P w H h) (e : H a = some (.dN ts)) : ts.length ≤ sizeLine ∧ (a == sysModules) = false ∧ ∃ xs, xs.map (·.1) = ts ∧ (∀ x ∈ xs, x.1.dep ≤ 6 ∧ TK H x.1 x.2.1) ∧ h.DictOfH (trKind P w) a xs := by
  obtain ⟨z, y, xs, r, q, o, es, ep, h1, h2, h3, h4, h5⟩ := (show ObjOk P w H h a (.dN ts) from ok a _ e)
  exact ⟨z, y, xs, r, q, o, es, ep, h1, h2, h3, h4, fun x hx => ⟨(q x hx).1, tk_is ok (q x hx).2⟩, h5⟩
theorem atKey_mem {xs : List (Tr × Addr × Value)} {t : Tr} : (atKey xs t).isSome = decide (t ∈ xs.map (·.1)) := by
  induction xs with
  | nil => rfl
  | cons x xs ih =>
    by_cases e : x.1 = t
    · simp [atKey, List.find?_cons, e]
    · have e' : ¬ t = x.1 := fun z => e z.symm
      have : atKey (x :: xs) t = atKey xs t := by simp [atKey, List.find?_cons, e]
      rw [this, ih]
      simp [e']
noncomputable def putT (ts : List Tr) (t : Tr) : List Tr := if t ∈ ts then ts else ts ++ [t]
theorem stored_keys {xs : List (Tr × Addr × Value)} {t : Tr} {a : Addr} {v : Value} : (storedH xs t a v).map (·.1) = putT (xs.map (·.1)) t := by
  unfold storedH putT
  rw [atKey_mem]
  by_cases e : t ∈ xs.map (·.1)
  · rw [decide_eq_true e, if_pos rfl, if_pos e]; exact keys_map_putAt xs t v
  · rw [decide_eq_false e, if_neg (by decide), if_neg e]; simp
theorem stored_all {F : Tr → Addr → Prop} {xs : List (Tr × Addr × Value)} {t : Tr} {a : Addr} {v : Value} (h : ∀ x ∈ xs, F x.1 x.2.1) (ha : F t a) : ∀ x ∈ storedH xs t a v, F x.1 x.2.1 := by
  intro x hx
  unfold storedH at hx
  split at hx
  · obtain ⟨y, hy, rfl⟩ := List.mem_map.mp hx
    have := h y hy
    unfold putAt; split <;> exact this
  · rcases List.mem_append.mp hx with hx | hx
    · exact h x hx
    · rw [List.mem_singleton.mp hx]; exact ha
theorem putT_len (ts : List Tr) (t : Tr) : (putT ts t).length ≤ ts.length + 1 := by
  unfold putT; split <;> simp
end
noncomputable def tNNotIn (ty td : TE) : TE := fun σ H Q => ty σ H fun y H1 => td σ H1 fun x H2 => ∃ a ts t b, x = .ref a ∧ y = .ref b ∧ H2 a = some (.dN ts) ∧ TK H2 t b ∧ t.dep ≤ 6 ∧ Q (.bl (!decide (t ∈ ts))) H2
noncomputable def sNPut (td ty tv : TE) : TS := fun D σ H => tv σ H fun _ H1 => td σ H1 fun x H2 => ty σ H2 fun y H3 => ∃ a ts t b, x = .ref a ∧ y = .ref b ∧ H3 a = some (.dN ts) ∧ TK H3 t b ∧ t.dep ≤ 6 ∧ ts.length < sizeLine ∧ D.nx σ (upd H3 a (.dN (putT ts t)))
noncomputable def tDNewN : TE := fun _ H Q => ∀ p, H p = none → Q (.ref p) (upd H p (.dN []))
section
variable {X : Cx} {o i e value : Expr} {pos pos' tpos : Pos} {td ty tv : TE}
theorem pc_nnotin (hu : X.A.units + 50 < cLine) (hi : PE X i ty) (ho : PE X o td) : PC X .NotIn i o (tNNotIn ty td) := by
  intro pins s σ H Q I h
  refine thn (hi pins s σ H _ I h) fun iv s1 ⟨y, H1, I1, ry, q1⟩ => thn (ho pins s1 σ H1 _ I1 q1) fun u s2 ⟨x, H2, I2, rx, a, ts, t, b, ex, ey, e, et, hd, q2⟩ => ?_
  subst ex ey
  obtain rfl : u = Value.ref a := rx
  obtain rfl : iv = Value.ref b := ry
  obtain ⟨z, hs, xs, r, _, dd⟩ := dn_of I2.hok e
  refine wpAny_notIn_heap (knd := trKind X.prog X.w) (k := t) (by show X.A.units + 1 + 6 < cLine; lia) ⟨hd, tk_is I2.hok et⟩ hs dd ?_
  rw [atKey_mem, r]
  exact ⟨.bl _, H2, I2.tok _, rfl, q2⟩
theorem ps_nput (hu : X.A.units + 50 < cLine) (ho : PE X o td) (hi : PE X i ty) (hv : PE X value tv) (hs : swapsWith value (some (.Subscript o i pos')) pos.line X.env = pure false) :
    PS X (.Assign [.Subscript o i pos'] value pos) (sNPut td ty tv) := by
  intro pins s σ H D I h
  refine wpAny_Assign_Subscript (thn (hv pins s σ H _ I h) fun r s1 ⟨v, H1, I1, rv, q1⟩ => thn (ho pins s1 σ H1 _ I1 q1) fun u s2 ⟨x, H2, I2, rx, q2⟩ => thn (hi pins s2 σ H2 _ I2 q2) fun iv s3 ⟨y, H3, I3, ry, a, ts, t, b, ex, ey, e, et, hd, hl, q3⟩ => ?_) hs
  subst ex ey
  obtain rfl : u = Value.ref a := rx
  obtain rfl : iv = Value.ref b := ry
  obtain ⟨z, hs, xs, r', all, dd⟩ := dn_of I3.hok e
  have hz : xs.length ≤ sizeLine := by rw [← r', List.length_map] at z; exact z
  refine wpAny_setItem_heap (knd := trKind X.prog X.w) (k := t) (hsz := hz) (by show X.A.units + 1 + 6 < cLine; lia) ⟨hd, tk_is I3.hok et⟩ dd fun h' dd' hs' => ?_
  obtain ⟨q, es, ep, hq, h2, h3, h4, _, h5⟩ := dd'
  have hl' : (putT ts t).length ≤ sizeLine := by have := putT_len ts t; lia
  refine ⟨σ, _, d_write (ob := .dN (putT ts t)) I3 (by rw [e]; exact True.intro) hs' ⟨q, hq⟩ ⟨hl', hs, _, by rw [stored_keys, r'], stored_all (F := fun t c => t.dep ≤ 6 ∧ TK _ t c) (fun x hx => ⟨(all x hx).1, (all x hx).2.mono fun c ys ec => ?_⟩) ⟨hd, et.mono fun c ys ec => ?_⟩, q, es, ep, hq, h2, h3, h4, h5⟩, q3⟩
  all_goals (rw [upd_ne (ne_of ec e (fun z => nomatch z))]; exact ec)
theorem dn_empty {P : Program} {w : World} {H : Hp} (h : Heap) (hb : sysModules < h.objs.size) : ObjOk P w H (h.push { cls := .type "dict", data := .dict #[] }) h.objs.size (.dN []) :=
  ⟨Nat.zero_le _, beq_eq_false_iff_ne.mpr (Ne.symm (Nat.ne_of_lt hb)), [], rfl, (fun x hx => by cases hx), _, #[], 0, Heap.get?_push_size _ rfl, ⟨rfl, rfl, rfl⟩, rfl, rfl, List.nodup_nil⟩
theorem pe_dnewN : PE X (.Dict [] [] pos) tDNewN := fun pins s σ H Q I h =>
  wpAny_Dict_empty ⟨.ref s.heap.objs.size, _, I.laid (a := s.heap.objs.size) (o := .dN []) (t' := s.toks) (fun _ _ q => Heap.get?_push_of_some _ q) (Nat.le_refl _) (dn_empty s.heap I.big), rfl, h _ (I.hok.fresh (Nat.le_refl _))⟩
theorem meets_lenN {prog : Program} {w : World} {K : Type} [DecidableEq K] (knd : HeapKind prog w K) {d : Addr} (hd : (d == sysModules) = false) :
    MeetsIn prog w (Builtin.«dict.__len__» ⟨[.ref d], []⟩) (fun _ R s => ∃ xs, s.heap.DictOfH knd d xs ∧ R (.ok (.ret (.int xs.length s.toks))) { s with toks := s.toks + 1 }) :=
  .of_wp fun A R s ⟨xs, hm, h⟩ => by
    obtain ⟨o, es, ep, ho, _, hdat, hk, _⟩ := hm
    have e : (es.size : Int) + ((0 : Nat) : Int) = xs.length := by rw [size_of_entries hk]; omega
    unfold Builtin.«dict.__len__»
    refine wpAny_bind (m := dictSize d) (wpAny_bind (wpAny_dictEntries ho hdat (wpAny_pure (wpAny_bind (m := Builtin.Dict.pendingCount d) (wpAny_pendingCount_other hd (wpAny_ret_mkInt ?_))))))
    rw [e]; exact h
theorem len_bodyN {prog : Program} {w : World} {K : Type} [DecidableEq K] {knd : HeapKind prog w K} {A : Around} {E : Value → Shared → Prop} {s : Shared} {d : Addr} {xs : List (K × Addr × Value)} {Q : Value → Shared → Prop} (hd : (d == sysModules) = false) (hm : s.heap.DictOfH knd d xs) (hfit : (xs.length : Int) < 2 ^ 63)
    (h : Q (.int xs.length (s.toks + 1)) { s with toks := s.toks + 1 + 1 }) : wpAny (model prog w) A (Builtin.«len» ⟨[.ref d], []⟩) (fun fin s' => ∃ r, fin = .done (.ret r) ∧ Q r s') E s := by
  have n0 : ¬ ((xs.length : Nat) : Int) < 0 := by omega
  have n1 : ¬ ((xs.length : Nat) : Int) ≥ 2 ^ 63 := by omega
  unfold Builtin.«len»
  refine wpAny_bind (m := oneArg "len" _) (wpAny_pure (wpAny_bind (m := callSpecial? (.ref d) (Str.ofString "__len__")) (wpAny_callSpecial?_slot (name := Str.ofString "__len__") hm.typeIs PySem.F.slot_dict_len (call_meetsIn PySem.F.slot_dict_len hm.typeIs PySem.F.entry_dict_len (PySem.F.args_dict_len_1 _) (meets_lenN knd hd) ⟨xs, hm, ?_⟩))))
  refine wpAny_bind (wpAny_holding (wpAny_pure (wpAny_bind (wpAny_letGo ?_))))
  dsimp only
  rw [if_neg n0, if_neg n1]
  exact wpAny_bind (wpAny_mkInt (wpAny_pure ⟨_, rfl, h⟩))
theorem call_lenN : CallR X (.builtin "len") (fun xs H Q => ∃ a ts, xs = [.ref a] ∧ H a = some (.dN ts) ∧ Q (.int ts.length) H) := by
  intro pins s σ H xs us Q I r h
  obtain ⟨p, ts, rfl, hq, q⟩ := h
  obtain ⟨u, rfl, ru⟩ := vals1 r
  cases ru
  obtain ⟨z, hs, xs, r', _, dd⟩ := dn_of I.hok hq
  have hz : xs.length ≤ sizeLine := by rw [← r', List.length_map] at z; exact z
  refine PySem.Calls.call_function_entry kind_len plain_len entry_len (args_len1 _) (len_bodyN hs dd (by rw [sizeLine_eq] at hz; lia) ?_)
  have : xs.length = ts.length := by rw [← r', List.length_map]
  rw [this]
  exact ⟨.int _, H, I.tok _, ⟨_, rfl⟩, q⟩
/-- a list of numbers, as the model holds it -/
theorem nums_in {pins : List (Addr × Obj)} {s : Shared} {σ : L2.St} {H : Hp} {p : Addr} {ns : List Int} (I : Inv X pins σ H s) (hq : SqL X.K H p (ns.map V.int)) (ne : 0 < ns.length) : ∃ xs, s.heap.IsList p (intItems xs) ∧ 0 < xs.size ∧ ns = xs.toList.map (·.1) := by
  obtain ⟨its, rv, pl, _⟩ := I.list hq
  have are : IntsAre its ns := intsAre_of rv
  obtain ⟨xs, e0⟩ := are.allInts.items
  have e : ns = xs.toList.map (·.1) := by rw [← are.numsOf, ← nums_intItems, ← e0]
  exact ⟨xs, by rw [← e0]; exact pl.isList, by rw [e, List.length_map, Array.length_toList] at ne; exact ne, e⟩
theorem call_max1 (hc : X.calm = true) : CallR X (.builtin "max") (fun xs H Q => ∃ (p : Addr) (ns : List Int), xs = [.ref p] ∧ SqL X.K H p (ns.map V.int) ∧ 0 < ns.length ∧ ∀ M, M ∈ ns → (∀ a ∈ ns, a ≤ M) → Q (.int M) H) := by
  intro pins s σ H xs us Q I r h
  obtain ⟨p, ns, rfl, hq, hne, q⟩ := h
  obtain ⟨u, rfl, ru⟩ := vals1 r
  cases ru
  obtain ⟨xs, hl, hsz, hns⟩ := nums_in I hq hne
  refine max_intList (I.ok.hd hc) hl hsz fun v h' tk hv hk => ?_
  obtain ⟨t, rfl⟩ := intItems_at hv
  obtain ⟨h1, h2⟩ := argBest_gt (numAt xs) (xs.size - 1)
  refine ⟨.int _, H, I.kept hk, ⟨_, rfl⟩, q _ ?_ fun a ha => ?_⟩
  · rw [hns, numAt_eq]; exact getD_mem (by rw [List.length_map, Array.length_toList]; lia)
  · rw [hns] at ha
    obtain ⟨j, hj, rfl⟩ := mem_getD ha
    rw [List.length_map, Array.length_toList] at hj
    rw [← numAt_eq]; exact h2 j (by lia)
theorem call_min1 (hc : X.calm = true) : CallR X (.builtin "min") (fun xs H Q => ∃ (p : Addr) (ns : List Int), xs = [.ref p] ∧ SqL X.K H p (ns.map V.int) ∧ 0 < ns.length ∧ ∀ M, M ∈ ns → (∀ a ∈ ns, M ≤ a) → Q (.int M) H) := by
  intro pins s σ H xs us Q I r h
  obtain ⟨p, ns, rfl, hq, hne, q⟩ := h
  obtain ⟨u, rfl, ru⟩ := vals1 r
  cases ru
  obtain ⟨xs, hl, hsz, hns⟩ := nums_in I hq hne
  refine min_intList (I.ok.hd hc) hl hsz fun v h' tk hv hk => ?_
  obtain ⟨t, rfl⟩ := intItems_at hv
  obtain ⟨h1, h2⟩ := argBest_lt (numAt xs) (xs.size - 1)
  refine ⟨.int _, H, I.kept hk, ⟨_, rfl⟩, q _ ?_ fun a ha => ?_⟩
  · rw [hns, numAt_eq]; exact getD_mem (by rw [List.length_map, Array.length_toList]; lia)
  · rw [hns] at ha
    obtain ⟨j, hj, rfl⟩ := mem_getD ha
    rw [List.length_map, Array.length_toList] at hj
    rw [← numAt_eq]; exact h2 j (by lia)
end
end L2
namespace B
open PySem PySem.Spec PyProof.Rows L2
section
variable {X : Cx} {K : PySem.W.Frag} {κ : Str → Addr} {ι : List Addr} {H : Hp} {σ : L2.St}
/-- a tree of tuples read as a key -/
noncomputable def iTr : Nat → I → Option Tr
  | 0, _ => none
  | n + 1, .tup [.str x, .int w] => if x = "leaf" then some (.lf w) else none
  | n + 1, .tup [.str x, a, b] => if x = "pair" then match iTr n a, iTr n b with
    | some l, some r => some (.pr l r)
    | _, _ => none
    else none
  | _, _ => none
theorem iTr_of : ∀ {n : Nat} {d : I} {t : Tr} {v : V}, iTr n d = some t → RpI K ι H v d → t.dep < n ∧ ∃ a, v = .ref a ∧ TK H t a := by
  intro n
  induction n with
  | zero => intro d t v h r; simp [iTr] at h
  | succ n ih =>
    intro d t v h r
    unfold iTr at h
    split at h
    · rename_i h0; cases h0
    · rename_i m x w h0
      cases h0
      split at h
      · rename_i hx
        subst hx; cases h
        cases r with
        | tup e rs =>
          cases rs with
          | cons r1 rs => cases rs with
            | cons r2 rs => cases rs with
              | nil => cases r1; cases r2; exact ⟨Nat.zero_lt_succ _, _, rfl, e⟩
      · cases h
    · rename_i m x a b _ h0
      cases h0
      split at h
      · rename_i hx
        subst hx
        split at h
        · rename_i l' r' hl hr
          cases h
          cases r with
          | tup e rs =>
            cases rs with
            | cons r1 rs => cases rs with
              | cons r2 rs => cases rs with
                | cons r3 rs => cases rs with
                  | nil =>
                    cases r1
                    obtain ⟨d1, b1, rfl, t1⟩ := ih hl r2
                    obtain ⟨d2, b2, rfl, t2⟩ := ih hr r3
                    refine ⟨?_, _, rfl, b1, b2, e, t1, t2⟩
                    simp only [Tr.dep]; lia
        · cases h
      · cases h
    · cases h
noncomputable def newN : Mo Ev := rt (.v (.ow (.dnt [])))
theorem up_newN {Q : VK} (h : UpE K κ newN σ H Q) : tDNewN σ H Q := by
  obtain ⟨ι, δ, G, e, δ', G', s, eq, k⟩ := h
  cases eq
  intro p hp
  have a := fin_ow (After.nil s).ar hp (m := .dnt []) (o := .dN []) upd_same
  exact k _ _ _ ⟨a.ar, (After.nil s).st.trans a.st⟩
noncomputable def ninN : List Ev → Mo Ev := fun es δ G => match es with
  | [.v (.im x), b] => match pk δ G b, iTr 7 x with
    | some (.dnt ts), some t => some (.v (.im (.bl (!decide (t ∈ ts)))), δ, G)
    | _, _ => none
  | _ => none
theorem prim_ninN : Prim K κ (r2 fun y x H2 Q => ∃ a ts t b, x = .ref a ∧ y = .ref b ∧ H2 a = some (.dN ts) ∧ TK H2 t b ∧ t.dep ≤ 6 ∧ Q (.bl (!decide (t ∈ ts))) H2) ninN := by
  intro ι H σ δ G es vs e δ' G' Q a h k
  unfold ninN at h
  split at h
  · rename_i x b
    split at h
    · rename_i ts t hp ht
      cases h
      obtain ⟨v, u, rfl⟩ := len2 a.len
      obtain ⟨p, e1, h1⟩ := a.pk (j := 1) rfl rfl hp
      obtain ⟨hd, c, e2, h2⟩ := iTr_of ht (a.im (j := 0) rfl rfl)
      exact ⟨_, _, rfl, p, ts, t, c, e1, e2, h1, h2, by lia, k _ _ _ (fin_im a (.bl _))⟩
    · cases h
  · cases h
noncomputable def putNQ : List Ev → De → List M → Option (De × List M) := fun es δ G => match es with
  | [.v (.im _), a, .v (.im x)] => match pk δ G a, iTr 7 x with
    | some (.dnt ts), some t => if ts.length < 1000000 then some (pkS δ G (.dnt (putT ts t)) a) else none
    | _, _ => none
  | _ => none
noncomputable def putN (fo fi fv : Mo Ev) : SF := fun δ G => match bd fv (fun v => bd fo fun o => bd fi fun i => rt [v, o, i]) δ G with
  | some (es, δ1, G1) => match putNQ es δ1 G1 with
    | some (δ2, G2) => some (.nx δ2 G2)
    | none => none
  | none => none
theorem up_putN {fo fi fv : Mo Ev} {D : Ends} (h : UpS K κ (putN fo fi fv) D σ H) : sNPut (UpE K κ fo) (UpE K κ fi) (UpE K κ fv) D σ H := by
  obtain ⟨ι, δ, G, fl, s, eq, k⟩ := h
  unfold putN at eq
  split at eq
  · rename_i es δe Ge ee
    obtain ⟨v, δ1, G1, e1, ee⟩ := bd_inv ee
    obtain ⟨o, δ2, G2, e2, ee⟩ := bd_inv ee
    obtain ⟨i, δ3, G3, e3, ee⟩ := bd_inv ee
    cases ee
    split at eq
    · rename_i δ4 G4 e4
      cases eq
      refine ⟨ι, δ, G, v, δ1, G1, s, e1, fun vv ι1 H1 a1 => ?_⟩
      refine ⟨ι1, δ1, G1, o, δ2, G2, a1.ar.base, e2, fun ov ι2 H2 a2 => ?_⟩
      refine ⟨ι2, δ2, G2, i, δe, Ge, a2.ar.base, e3, fun iv ι3 H3 a3 => ?_⟩
      have a := a1.app (a2.app a3)
      unfold putNQ at e4
      split at e4
      · rename_i d a0 x hq
        cases hq
        have rx := a.ar.im (j := 2) rfl rfl
        split at e4
        · rename_i ts t hp ht
          split at e4
          · rename_i hl
            obtain ⟨b, eb, h1⟩ := a.ar.pk (j := 1) rfl rfl hp
            obtain ⟨hd, c, e2', h2⟩ := iTr_of ht rx
            refine ⟨b, ts, t, c, eb, e2', h1, h2, by lia, Nat.lt_of_lt_of_le hl (by decide), ?_⟩
            subst eb
            have f := fin_mut a.ar (j := 1) (m' := .dnt (putT ts t)) rfl rfl hp (o := .dN (putT ts t)) (fun _ _ => upd_same) (RpI.non)
            obtain ⟨p, q⟩ := (a.then f).drop
            rw [Option.some.inj e4] at p q
            exact k _ _ _ p q
          · cases e4
        · cases e4
      · cases e4
    · cases eq
  · cases eq
noncomputable def lenN : List Ev → Mo Ev := fun es δ G => match es with
  | [a] => match pk δ G a with
    | some (.dnt ts) => some (.v (.im (.int ts.length)), δ, G)
    | _ => none
  | _ => none
theorem prim_lenN : Prim K κ (fun xs H Q => ∃ a ts, xs = [V.ref a] ∧ H a = some (.dN ts) ∧ Q (.int ts.length) H) lenN := by
  intro ι H σ δ G es vs e δ' G' Q a h k
  unfold lenN at h
  split at h
  · split at h
    · rename_i ts hp
      cases h
      obtain ⟨v, rfl⟩ := len1 a.len
      obtain ⟨b, e1, h1⟩ := a.pk (j := 0) rfl rfl hp
      subst e1
      exact ⟨b, ts, rfl, h1, k _ _ _ (fin_im a (.int _))⟩
    · cases h
  · cases h
noncomputable def maxL : List Int → Int
  | [] => 0
  | [i] => i
  | i :: r => max i (maxL r)
noncomputable def minL : List Int → Int
  | [] => 0
  | [i] => i
  | i :: r => min i (minL r)
theorem maxL_is : ∀ {ns : List Int} {m : Int}, m ∈ ns → (∀ a ∈ ns, a ≤ m) → maxL ns = m := by
  have up : ∀ {ns : List Int}, ns ≠ [] → maxL ns ∈ ns ∧ ∀ a ∈ ns, a ≤ maxL ns := by
    intro ns
    induction ns with
    | nil => intro h; exact absurd rfl h
    | cons i r ih =>
      intro _
      cases r with
      | nil => simp [maxL]
      | cons j r =>
        obtain ⟨h1, h2⟩ := ih (by simp)
        have e : maxL (i :: j :: r) = max i (maxL (j :: r)) := rfl
        rw [e]
        constructor
        · rcases Int.le_total i (maxL (j :: r)) with g | g
          · rw [Int.max_eq_right g]; exact List.mem_cons_of_mem _ h1
          · rw [Int.max_eq_left g]; exact List.mem_cons_self
        · intro a ha
          rcases List.mem_cons.mp ha with rfl | ha
          · lia
          · have := h2 a ha; lia
  intro ns m hm h
  obtain ⟨h1, h2⟩ := up (ns := ns) (by intro e; rw [e] at hm; cases hm)
  have := h _ h1; have := h2 m hm; lia
theorem minL_is : ∀ {ns : List Int} {m : Int}, m ∈ ns → (∀ a ∈ ns, m ≤ a) → minL ns = m := by
  have up : ∀ {ns : List Int}, ns ≠ [] → minL ns ∈ ns ∧ ∀ a ∈ ns, minL ns ≤ a := by
    intro ns
    induction ns with
    | nil => intro h; exact absurd rfl h
    | cons i r ih =>
      intro _
      cases r with
      | nil => simp [minL]
      | cons j r =>
        obtain ⟨h1, h2⟩ := ih (by simp)
        have e : minL (i :: j :: r) = min i (minL (j :: r)) := rfl
        rw [e]
        constructor
        · rcases Int.le_total i (minL (j :: r)) with g | g
          · rw [Int.min_eq_left g]; exact List.mem_cons_self
          · rw [Int.min_eq_right g]; exact List.mem_cons_of_mem _ h1
        · intro a ha
          rcases List.mem_cons.mp ha with rfl | ha
          · lia
          · have := h2 a ha; lia
  intro ns m hm h
  obtain ⟨h1, h2⟩ := up (ns := ns) (by intro e; rw [e] at hm; cases hm)
  have := h _ h1; have := h2 m hm; lia
noncomputable def max1P : List Ev → Mo Ev := fun es δ G => match es with
  | [a] => match pk δ G a with
    | some (.lst xs) => match intsI xs with
      | some (i :: r) => some (.v (.im (.int (maxL (i :: r)))), δ, G)
      | _ => none
    | _ => none
  | _ => none
noncomputable def min1P : List Ev → Mo Ev := fun es δ G => match es with
  | [a] => match pk δ G a with
    | some (.lst xs) => match intsI xs with
      | some (i :: r) => some (.v (.im (.int (minL (i :: r)))), δ, G)
      | _ => none
    | _ => none
  | _ => none
theorem prim_max1 : Prim K κ (fun xs H Q => ∃ (p : Addr) (ns : List Int), xs = [.ref p] ∧ SqL K H p (ns.map V.int) ∧ 0 < ns.length ∧ ∀ M, M ∈ ns → (∀ a ∈ ns, a ≤ M) → Q (.int M) H) max1P := by
  intro ι H σ δ G es vs e δ' G' Q a h k
  unfold max1P at h
  split at h
  · rename_i x
    split at h
    · rename_i xs hx
      split at h
      · rename_i i r' hn
        cases h
        obtain ⟨v, rfl⟩ := len1 a.len
        obtain ⟨p, e1, ys, h1, r⟩ := a.pk (j := 0) rfl rfl hx
        subst e1
        refine ⟨p, i :: r', rfl, by rw [← intsI_of r hn]; exact SqL.of h1, by simp, fun m hm ha => ?_⟩
        rw [← maxL_is hm ha]
        exact k _ _ _ (fin_im a (.int _))
      · cases h
    · cases h
  · cases h
theorem prim_min1 : Prim K κ (fun xs H Q => ∃ (p : Addr) (ns : List Int), xs = [.ref p] ∧ SqL K H p (ns.map V.int) ∧ 0 < ns.length ∧ ∀ M, M ∈ ns → (∀ a ∈ ns, M ≤ a) → Q (.int M) H) min1P := by
  intro ι H σ δ G es vs e δ' G' Q a h k
  unfold min1P at h
  split at h
  · rename_i x
    split at h
    · rename_i xs hx
      split at h
      · rename_i i r' hn
        cases h
        obtain ⟨v, rfl⟩ := len1 a.len
        obtain ⟨p, e1, ys, h1, r⟩ := a.pk (j := 0) rfl rfl hx
        subst e1
        refine ⟨p, i :: r', rfl, by rw [← intsI_of r hn]; exact SqL.of h1, by simp, fun m hm ha => ?_⟩
        rw [← minL_is hm ha]
        exact k _ _ _ (fin_im a (.int _))
      · cases h
    · cases h
  · cases h
noncomputable def andV (fa fb : Mo Ev) : Mo Ev := bd fa fun e => fun δ G => match truE e δ G with
  | some (false, _, _) => some (e, δ, G)
  | some (true, _, _) => fb δ G
  | none => none
noncomputable def tAndG (K : PySem.W.Frag) (ta tb : TE) : TE := fun σ H Q => ta σ H fun x H1 => ∃ c, TruV K x H1 c ∧ if c = true then tb σ H1 Q else Q x H1
theorem pe_andG {a b : Expr} {rest : List Expr} {pos : Pos} {ta tb : TE} (ha : PE X a ta) (hb : PE X (.BoolOp .And (b :: rest) pos) tb) : PE X (.BoolOp .And (a :: b :: rest) pos) (tAndG X.K ta tb) := by
  intro pins s σ H Q I h
  refine BoolOp_and (thn (ha pins s σ H _ I h) fun v s1 ⟨x, H1, I1, r1, c, hc, q1⟩ => ?_)
  refine thn (tru_ok pins s1 σ H1 x v (fun b H' => H' = H1 ∧ b = c) I1 r1 ⟨c, hc, rfl, rfl⟩) fun b s2 ⟨H2, I2, e1, e2⟩ => ?_
  subst e1; subst e2
  cases b with
  | false => rw [if_neg Bool.false_ne_true] at q1; exact ⟨x, _, I2, r1, q1⟩
  | true => rw [if_pos rfl] at q1; exact hb pins s2 σ _ Q I2 q1
theorem up_andV {fa fb : Mo Ev} {Q : VK} (h : UpE K κ (andV fa fb) σ H Q) : tAndG K (UpE K κ fa) (UpE K κ fb) σ H Q := by
  obtain ⟨ι, δ, G, e, δ', G', s, eq, k⟩ := h
  obtain ⟨x, δ1, G1, e1, eq1⟩ := bd_inv eq
  refine ⟨ι, δ, G, x, δ1, G1, s, e1, fun v ι1 H1 a => ?_⟩
  split at eq1
  · rename_i d1 d2 ht
    cases eq1
    obtain ⟨t, _, _⟩ := tru_of a.ar ht
    exact ⟨false, t, by rw [if_neg Bool.false_ne_true]; exact k _ _ _ a⟩
  · rename_i d1 d2 ht
    obtain ⟨t, _, _⟩ := tru_of a.ar ht
    obtain ⟨p, q⟩ := a.drop
    exact ⟨true, t, by rw [if_pos rfl]; exact UpE.go p q eq1 k⟩
  · cases eq1
noncomputable def notP : List Ev → Mo Ev := fun es δ G => match es with
  | [.v (.im (.bl c))] => some (.v (.im (.bl (!c))), δ, G)
  | _ => none
theorem prim_not : Prim K κ (r1 fun x H1 Q => ∃ c, x = .bl c ∧ Q (.bl (!c)) H1) notP := by
  intro ι H σ δ G es vs e δ' G' Q a h k
  unfold notP at h
  split at h
  · rename_i c
    cases h
    obtain ⟨v, rfl⟩ := len1 a.len
    cases a.im (j := 0) rfl rfl
    exact ⟨_, rfl, c, rfl, k _ _ _ (fin_im a (.bl _))⟩
  · cases h
noncomputable def tyQ : Ev → Option String
  | .v (.im (.bl _)) => some "bool"
  | .v (.im (.int _)) => some "int"
  | .v (.im (.str _)) => some "str"
  | .v (.im (.tup _)) => some "tuple"
  | _ => none
noncomputable def tyIs : String → String → Option Bool
  | "int", "int" => some true
  | "int", "bool" => some false
  | "int", "tuple" => some false
  | "tuple", "tuple" => some true
  | _, _ => none
theorem tyIs_of {t n : String} {b : Bool} (h : tyIs t n = some b) : PySem.W.kitOne K (.type t) (.type n) = some b := by
  unfold tyIs at h
  split at h
  · cases h; unfold PySem.W.kitOne; rw [if_pos (by simp)]
  · cases h; with_unfolding_all rfl
  · cases h; with_unfolding_all rfl
  · cases h; unfold PySem.W.kitOne; rw [if_pos (by simp)]
  · cases h
noncomputable def isinst2P : List Ev → Mo Ev := fun es δ G => match es with
  | [a, .v (.im (.ty n))] => match tyQ a with
    | some t => match tyIs t n with
      | some b => some (.v (.im (.bl b)), δ, G)
      | none => none
    | none => none
  | _ => none
theorem prim_isinst2 : Prim K κ (fun xs H Q => ∃ x t n b, xs = [x, .ty n] ∧ TyOf K H x t ∧ PySem.W.kitOne K t (.type n) = some b ∧ Q (.bl b) H) isinst2P := by
  intro ι H σ δ G es vs e δ' G' Q a h k
  unfold isinst2P at h
  split at h
  · rename_i x n
    split at h
    · rename_i t ht
      split at h
      · rename_i b hb
        cases h
        obtain ⟨v, u, rfl⟩ := len2 a.len
        cases a.im (j := 1) rfl rfl
        have ty : TyOf K H v (.type t) := by
          unfold tyQ at ht
          split at ht
          · cases ht; cases a.im (j := 0) rfl rfl; exact .bl _
          · cases ht; cases a.im (j := 0) rfl rfl; exact .int _
          · cases ht; cases a.im (j := 0) rfl rfl; exact .str _
          · cases ht
            cases a.im (j := 0) rfl rfl with
            | tup e _ => exact .tup e
          · cases ht
        exact ⟨_, _, n, b, rfl, ty, tyIs_of hb, k _ _ _ (fin_im a (.bl _))⟩
      · cases h
    · cases h
  · cases h
end
section
variable {X : Cx} {κ : Str → Addr} {a b e o : Expr} {es : List Expr} {fa fb fv : Mo Ev} {fs : Mo (List Ev)} {p pos pos' apos cpos : Pos} {k : Nat}
theorem e_and {rest : List Expr} (ha : LE X κ a fa) (hb : LE X κ (.BoolOp .And (b :: rest) pos) fb) : LE X κ (.BoolOp .And (a :: b :: rest) pos) (andV fa fb) := .mk (pe_imp (pe_andG ha.pe hb.pe) fun _ _ _ => up_andV)
theorem e_notv (h : LE X κ a fa) : LE X κ (.UnaryOp .Not a pos) (unF notP fa) := .mk (pe_imp (pe_not h.pe) fun _ _ _ q => up_un prim_not q)
theorem e_dnewN : LE X κ (.Dict [] [] pos) newN := .mk (pe_imp pe_dnewN fun _ _ _ => up_newN)
theorem t_ninN (hr : Room k X.A) (ha : LE X κ a fa) (hb : LE X κ b fb) (hm : behindInMarks .NotIn b = false := by rfl) : LT X κ (.Compare a [.NotIn] [b] pos) (tstF (opF ninN fa fb)) := .mk (pt_imp (pt_cmp (pc_nnotin (hu50 hr) ha.pe hb.pe) hm) fun _ _ _ h => up_op prim_ninN (up_test h))
theorem s_putN (hr : Room k X.A) (ho : LE X κ o fa) (hi : LE X κ e fb) (hv : LE X κ a fv) (hs : swapsWith a (some (.Subscript o e pos')) pos.line X.env = pure false := by rfl) : LS X κ (.Assign [.Subscript o e pos'] a pos) (putN fa fb fv) := .mk (ps_imp (ps_nput (hu50 hr) ho.pe hi.pe hv.pe hs) fun _ _ _ => up_putN)
theorem e_lenN (hr : Room k X.A) (hm : X.mg "len" = none) (ha : LA X κ (e :: es) fs) (hg : Gl X "len" := by rfl) (he : starEach (e :: es) X.env = (false, eval e X.env) :: starEach es X.env := by rfl) (hpl : (backTo pos (starEach es X.env)).any (·.1) = false := by rfl) : LE X κ (.Call (.Name "len" p) (e :: es) [] pos) (bd fs lenN) := .mk (pe_imp (pe_callB call_lenN hg hm PySem.boot_len ha.pe (by decide) (by decide) he hpl) fun _ _ _ q => up_args prim_lenN q)
theorem e_max1 (hr : Room k X.A) (hm : X.mg "max" = none) (ha : LA X κ (e :: es) fs) (hg : Gl X "max" := by rfl) (hc : X.calm = true := by rfl) (he : starEach (e :: es) X.env = (false, eval e X.env) :: starEach es X.env := by rfl) (hpl : (backTo pos (starEach es X.env)).any (·.1) = false := by rfl) : LE X κ (.Call (.Name "max" p) (e :: es) [] pos) (bd fs max1P) := .mk (pe_imp (pe_callB (call_max1 hc) hg hm PyProof.Rows.boot_max ha.pe (by decide) (by decide) he hpl) fun _ _ _ q => up_args prim_max1 q)
theorem e_min1 (hr : Room k X.A) (hm : X.mg "min" = none) (ha : LA X κ (e :: es) fs) (hg : Gl X "min" := by rfl) (hc : X.calm = true := by rfl) (he : starEach (e :: es) X.env = (false, eval e X.env) :: starEach es X.env := by rfl) (hpl : (backTo pos (starEach es X.env)).any (·.1) = false := by rfl) : LE X κ (.Call (.Name "min" p) (e :: es) [] pos) (bd fs min1P) := .mk (pe_imp (pe_callB (call_min1 hc) hg hm PyProof.Rows.boot_min ha.pe (by decide) (by decide) he hpl) fun _ _ _ q => up_args prim_min1 q)
theorem e_isinst2 (hr : Room k X.A) (hm : X.mg "isinstance" = none) (ha : LA X κ (e :: es) fs) (hg : Gl X "isinstance" := by rfl) (he : starEach (e :: es) X.env = (false, eval e X.env) :: starEach es X.env := by rfl) (hpl : (backTo pos (starEach es X.env)).any (·.1) = false := by rfl) : LE X κ (.Call (.Name "isinstance" p) (e :: es) [] pos) (bd fs isinst2P) := .mk (pe_imp (pe_callB call_isinst hg hm PyProof.Rows.boot_isinstance ha.pe (by decide) (by decide) he hpl) fun _ _ _ q => up_args prim_isinst2 q)
end
end B
namespace Q
open PySem L2 B
noncomputable section
noncomputable def F__law_deal_w1b : SF :=
  (asgF (opF modP (opF addP (opF mulP (varF 3) (conF (.int 48271))) (opF modP (varF 4) (conF (.int 2147483629)))) (conF (.int 2147483647))) (gNm 3))
noncomputable def F__law_deal : FF := runF 2 3
  (seqF (asgF (compF (itF (one (sliF (varF 0) (somePt (varF 1)) (somePt (conF (.int 63))))) seqP) [] c1 yesF (bd (consF (varF 0) (consF (opF subP (conF (.int 0)) (varF 0)) nilF)) max2P)) (gNm 2))
  (seqF (asgF (opF addP (conF (.int 7919)) (varF 1)) (gNm 3))
  (seqF (forF (itF (one (boxF (varF 2))) seqP) (gNm 4)
  F__law_deal_w1b)
  (retF (dicF (pcons (conF (.str "seed")) (varF 3) (pcons (conF (.str "number")) (conF (.int 0)) (pcons (conF (.str "left")) (boxF (unF lrevP (compF (itF (one (boxF (varF 2))) seqP) [] c1 (tstF (opF geP (varF 0) (opF powP (conF (.int 10)) (conF (.int 18))))) (varF 0)))) pnil))))))))
noncomputable def F_House_init : FF := runF 1 0
  (seqF (fldS "House" "given" (varF 0) (boxF (bd nilF lstP)))
  (fldS "House" "seals" (varF 0) (boxF newT)))
noncomputable def F_House_seal_for : FF := runF 2 0
  (seqF (iteF' (tstF (opF ninP (varF 1) (unF (fldP "House" "seals") (varF 0))))
  (seqF (dropF (bmF append1P (unF (fldP "House" "given") (varF 0)) (consF (varF 1) nilF)))
  (putF' (unF (fldP "House" "seals") (varF 0)) (varF 1) (bd (consF (unF (fldP "House" "given") (varF 0)) nilF) lenP)))
  skipF)
  (retF (opF ixP (unF (fldP "House" "seals") (varF 0)) (varF 1))))
noncomputable def F_House_leaf : FF := runF 2 0
  (retF (methF "House" "seal_for" 2 F_House_seal_for (varF 0) (consF (bd (consF (conF (.str "leaf")) (consF (varF 1) nilF)) tupP) nilF)))
noncomputable def F_House_pair : FF := runF 3 0
  (retF (methF "House" "seal_for" 2 F_House_seal_for (varF 0) (consF (bd (consF (conF (.str "pair")) (consF (varF 1) (consF (varF 2) nilF))) tupP) nilF)))
noncomputable def F_seal_of_w1c : Mo Bool := (tstF (opF gtP (bd (consF (varF 2) nilF) lenP) (conF (.int 1))))
noncomputable def F_seal_of_w1b : SF :=
  (asgF (compF (itF (consF (boxF (stpF (varF 2) noPt noPt (conF (.int 2)))) (consF (boxF (stpF (varF 2) (somePt (conF (.int 1))) noPt (conF (.int 2)))) nilF)) zipP) [0] (cN 2) yesF (methF "House" "pair" 3 F_House_pair (varF 2) (consF (varF 0) (consF (varF 1) nilF)))) (gNm 2))
noncomputable def F_seal_of : FF := runF 2 1
  (seqF (asgF (compF (itF (one (varF 1)) seqP) [0] c1 yesF (methF "House" "leaf" 2 F_House_leaf (varF 1) (consF (varF 0) nilF))) (gNm 2))
  (seqF (whF F_seal_of_w1c
  F_seal_of_w1b)
  (retF (opF ixP (varF 2) (conF (.int 0))))))
noncomputable def F__law_within_w1c : Mo Bool := (tstF (opF neP (varF 2) (bd nilF lstP)))
noncomputable def F__law_within_w1b : SF :=
  (seqF (asgF (unF pop0P (varF 2)) (gNm 3))
  (iteF' (tstF (opF ninN (varF 3) (varF 1)))
  (seqF (putN (varF 1) (varF 3) (conF (.bl true)))
  (dropF (bmF extend1P (varF 2) (consF (compF (itF (one (sliF (varF 3) (somePt (conF (.int 1))) noPt)) seqP) [] c1 (bd (bd (consF (varF 0) (consF (conF (.ty "tuple")) nilF)) isinst2P) truE) (varF 0)) nilF))))
  skipF))
noncomputable def F__law_within : FF := runF 2 2
  (seqF (asgF (bd (consF (varF 0) nilF) lstP) (gNm 2))
  (seqF (whF F__law_within_w1c
  F__law_within_w1b)
  (retF (varF 1))))
noncomputable def F_House_opened : FF := runF 2 0
  (seqF (iteF' (orF (tstF (opF ltP (varF 1) (conF (.int 1)))) (tstF (opF gtP (varF 1) (bd (consF (unF (fldP "House" "given") (varF 0)) nilF) lenP))))
  (retF (conF .non))
  skipF)
  (retF (opF ixP (unF (fldP "House" "given") (varF 0)) (opF subP (varF 1) (conF (.int 1))))))
noncomputable def F__law_opened_right_w1c : Mo Bool := (tstF (opF neP (varF 2) (bd nilF lstP)))
noncomputable def F__law_opened_right_w1b : SF :=
  (seqF (asgF (unF pop0P (varF 2)) (gNm 4))
  (iteF' (tstF (opF ninP (varF 4) (varF 3)))
  (seqF (putF' (varF 3) (varF 4) (conF (.bl true)))
  (seqF (asgF (opF fdivP (bd (consF (varF 4) nilF) lenP) (conF (.int 2))) (gNm 5))
  (seqF (asgF (bd (consF (conF (.str "leaf")) (consF (opF ixP (varF 4) (conF (.int 0))) nilF)) tupP) (gNm 6))
  (seqF (iteF' (tstF (opF gtP (varF 5) (conF (.int 0))))
  (seqF (asgF (bd (consF (conF (.str "pair")) (consF (bd (consF (varF 0) (consF (sliF (varF 4) noPt (somePt (varF 5))) nilF)) (callP 2 F_seal_of)) (consF (bd (consF (varF 0) (consF (sliF (varF 4) (somePt (varF 5)) noPt) nilF)) (callP 2 F_seal_of)) nilF))) tupP) (gNm 6))
  (dropF (bmF extend1P (varF 2) (consF (bd (consF (sliF (varF 4) noPt (somePt (varF 5))) (consF (sliF (varF 4) (somePt (varF 5)) noPt) nilF)) lstP) nilF))))
  skipF)
  (iteF' (tstF (opF neP (methF "House" "opened" 2 F_House_opened (varF 0) (consF (bd (consF (varF 0) (consF (varF 4) nilF)) (callP 2 F_seal_of)) nilF)) (varF 6)))
  (retF (conF (.bl false)))
  skipF)))))
  skipF))
noncomputable def F__law_opened_right : FF := runF 2 5
  (seqF (asgF (bd (consF (varF 1) nilF) lstP) (gNm 2))
  (seqF (asgF newT (gNm 3))
  (seqF (whF F__law_opened_right_w1c
  F__law_opened_right_w1b)
  (retF (conF (.bl true))))))
noncomputable def F__law_draw_w1c : Mo Bool := (andF (tstF (opF eqP (opF ixP (varF 0) (conF (.str "number"))) (conF (.int 0)))) (tstF (opF gtP (bd (consF (opF ixP (varF 0) (conF (.str "left"))) nilF) lenP) (conF (.int 0)))))
noncomputable def F__law_draw_w1b : SF :=
  (putF' (varF 0) (conF (.str "number")) (unF pop0P (opF ixP (varF 0) (conF (.str "left")))))
noncomputable def F__law_draw : FF := runF 2 3
  (seqF (whF F__law_draw_w1c
  F__law_draw_w1b)
  (seqF (asgF (opF ixP (varF 0) (conF (.str "number"))) (gNm 2))
  (seqF (iteF' (tstF (opF gtP (varF 2) (conF (.int 0))))
  (seqF (putF' (varF 0) (conF (.str "number")) (opF fdivP (varF 2) (varF 1)))
  (retF (opF modP (varF 2) (varF 1))))
  skipF)
  (seqF (asgF (opF modP (opF addP (opF mulP (opF ixP (varF 0) (conF (.str "seed"))) (conF (.int 48271))) (conF (.int 7919))) (conF (.int 2147483647))) (gNm 3))
  (seqF (putF' (varF 0) (conF (.str "seed")) (opF modP (opF addP (opF mulP (varF 3) (conF (.int 40692))) (conF (.int 104729))) (conF (.int 2147483399))))
  (seqF (asgF (opF modP (opF mulP (opF ixP (varF 0) (conF (.str "seed"))) (opF ixP (varF 0) (conF (.str "seed")))) (conF (.int 2147483563))) (gNm 4))
  (retF (opF modP (opF addP (opF mulP (opF modP (opF mulP (varF 3) (varF 3)) (conF (.int 2147483629))) (conF (.int 2147483563))) (varF 4)) (varF 1)))))))))
noncomputable def F__law_word : FF := runF 1 0
  (retF (opF ixP (bd (consF (bd (consF (varF 0) (consF (conF (.int 3)) nilF)) (callP 2 F__law_draw)) (consF (opF subP (opF subP (conF (.int 4294967296)) (conF (.int 1))) (bd (consF (varF 0) (consF (conF (.int 3)) nilF)) (callP 2 F__law_draw))) (consF (bd (consF (varF 0) (consF (conF (.int 4294967296)) nilF)) (callP 2 F__law_draw)) nilF))) lstP) (bd (consF (varF 0) (consF (conF (.int 3)) nilF)) (callP 2 F__law_draw))))
noncomputable def F__law_row : FF := runF 2 3
  (seqF (asgF (compF (itF (consF (opF addP (conF (.int 1)) (bd (consF (varF 0) (consF (conF (.int 4)) nilF)) (callP 2 F__law_draw))) nilF) rng1P) [0] c1 yesF (bd (consF (varF 1) nilF) (callP 1 F__law_word))) (gNm 2))
  (seqF (asgF (compF (itF (consF (opF shlP (conF (.int 1)) (varF 1)) nilF) rng1P) [2, 0] c1 yesF (opF ixP (varF 1) (bd (consF (varF 2) (consF (bd (consF (varF 1) nilF) lenP) nilF)) (callP 2 F__law_draw)))) (gNm 3))
  (seqF (asgF (bd (consF (varF 0) (consF (conF (.int 4)) nilF)) (callP 2 F__law_draw)) (gNm 4))
  (seqF (iteF' (andF (tstF (opF gtP (varF 1) (conF (.int 0)))) (tstF (opF eqP (varF 4) (conF (.int 0)))))
  (asgF (opF mulP (sliF (varF 3) noPt (somePt (opF fdivP (opF shlP (conF (.int 1)) (varF 1)) (conF (.int 2))))) (conF (.int 2))) (gNm 3))
  skipF)
  (seqF (iteF' (tstF (opF eqP (varF 4) (conF (.int 1))))
  (asgF (compF (itF (consF (opF shlP (conF (.int 1)) (varF 1)) nilF) rng1P) [2] c1 yesF (opF modP (opF addP (opF ixP (varF 1) (conF (.int 0))) (opF mulP (conF (.int 5)) (varF 0))) (conF (.int 4294967296)))) (gNm 3))
  skipF)
  (retF (bd (consF (varF 3) nilF) tupleP)))))))
noncomputable def F__law_tree : Nat → FF
  | 0 => fun _ _ => none
  | n + 1 => runF 1 1
      (seqF (iteF' (tstF (opF eqP (bd (consF (varF 0) nilF) lenP) (conF (.int 1))))
      (retF (bd (consF (conF (.str "leaf")) (consF (opF ixP (varF 0) (conF (.int 0))) nilF)) tupP))
      skipF)
      (seqF (asgF (opF fdivP (bd (consF (varF 0) nilF) lenP) (conF (.int 2))) (gNm 1))
      (retF (bd (consF (conF (.str "pair")) (consF (bd (consF (sliF (varF 0) noPt (somePt (varF 1))) nilF) (callP 1 (F__law_tree n))) (consF (bd (consF (sliF (varF 0) (somePt (varF 1)) noPt) nilF) (callP 1 (F__law_tree n))) nilF))) tupP))))
noncomputable def F_House_many : FF := runF 1 0
  (retF (bd (consF (unF (fldP "House" "given") (varF 0)) nilF) lenP))
noncomputable def F__law_whole : FF := runF 1 0
  (retF (andV (bd (consF (varF 0) (consF (conF (.ty "int")) nilF)) isinst2P) (unF notP (bd (consF (varF 0) (consF (conF (.ty "bool")) nilF)) isinst2P))))
noncomputable def F_law_w1b : SF :=
  (iteF' (tstF (opF neP (opF eqP (opF ixP (varF 6) (varF 10)) (opF ixP (varF 6) (varF 9))) (opF eqP (opF ixP (varF 4) (varF 10)) (opF ixP (varF 4) (varF 9)))))
  (retF (conF (.bl false)))
  skipF)
noncomputable def F_law_w2b : SF :=
  (forF (itF (consF (varF 9) nilF) rng1P) (gNm 10)
  F_law_w1b)
noncomputable def F_law_w3b : SF :=
  (seqF (dropF (bmF append1P (varF 6) (consF (bd (consF (varF 2) (consF (varF 8) nilF)) (callP 2 F_seal_of)) nilF)))
  (seqF (dropF (methF "House" "leaf" 2 F_House_leaf (varF 3) (consF (bd (consF (boxF (varF 1)) nilF) (callP 1 F__law_word)) nilF)))
  (seqF (dropF (bd (consF (bd (consF (varF 8) nilF) (callP 1 (F__law_tree 8))) (consF (boxF (varF 7)) nilF)) (callP 2 F__law_within)))
  (iteF' (orF (tstF (opF neP (methF "House" "many" 1 F_House_many (varF 2) nilF) (bd (consF (varF 7) nilF) lenN))) (orF (notF (bd (bd (consF (opF ixP (varF 6) (unF negP (conF (.int 1)))) nilF) (callP 1 F__law_whole)) truE)) (notF (bd (bd (consF (methF "House" "many" 1 F_House_many (varF 2) nilF) nilF) (callP 1 F__law_whole)) truE))))
  (retF (conF (.bl false)))
  skipF))))
noncomputable def F_law_w4b : SF :=
  (seqF (dropF (bmF append1P (varF 4) (consF (bd (consF (boxF (varF 1)) (consF (opF ixP (bd (consF (conF (.int 0)) (consF (conF (.int 1)) (consF (conF (.int 2)) (consF (conF (.int 3)) (consF (conF (.int 4)) (consF (conF (.int 6)) nilF)))))) lstP) (bd (consF (boxF (varF 1)) (consF (conF (.int 6)) nilF)) (callP 2 F__law_draw))) nilF)) (callP 2 F__law_row)) nilF)))
  (iteF' (tstF (opF eqP (bd (consF (boxF (varF 1)) (consF (conF (.int 3)) nilF)) (callP 2 F__law_draw)) (conF (.int 0))))
  (dropF (bmF append1P (varF 4) (consF (opF ixP (varF 4) (bd (consF (boxF (varF 1)) (consF (bd (consF (varF 4) nilF) lenP) nilF)) (callP 2 F__law_draw))) nilF)))
  skipF))
noncomputable def F_law : FF := runF 1 11
  (seqF (asgF (bd (consF (varF 0) (consF (conF (.int 0)) nilF)) (callP 2 F__law_deal)) (gNm 1))
  (seqF (asgF (bd nilF (makeP "House" 1 F_House_init)) (gNm 2))
  (seqF (asgF (bd nilF (makeP "House" 1 F_House_init)) (gNm 3))
  (seqF (asgF (bd nilF lstP) (gNm 4))
  (seqF (forF (itF (consF (opF addP (conF (.int 1)) (bd (consF (boxF (varF 1)) (consF (conF (.int 6)) nilF)) (callP 2 F__law_draw))) nilF) rng1P) (gNm 5)
  F_law_w4b)
  (seqF (asgF (bd nilF lstP) (gNm 6))
  (seqF (asgF newN (gNm 7))
  (seqF (forF (itF (one (boxF (varF 4))) seqP) (gNm 8)
  F_law_w3b)
  (seqF (iteF' (orF (tstF (opF ltP (bd (consF (varF 6) nilF) min1P) (conF (.int 1)))) (tstF (opF geP (bd (consF (varF 6) nilF) max1P) (opF powP (conF (.int 10)) (conF (.int 12))))))
  (retF (conF (.bl false)))
  skipF)
  (seqF (forF (itF (consF (bd (consF (varF 4) nilF) lenP) nilF) rng1P) (gNm 9)
  F_law_w2b)
  (seqF (iteF' (orF (tstF (opF neP (compF (itF (one (boxF (varF 4))) seqP) [2] c1 yesF (bd (consF (varF 1) (consF (varF 0) nilF)) (callP 2 F_seal_of))) (varF 6))) (tstF (opF neP (methF "House" "many" 1 F_House_many (varF 2) nilF) (bd (consF (varF 7) nilF) lenN))))
  (retF (conF (.bl false)))
  skipF)
  (seqF (iteF' (notF (bd (bd (consF (compF (itF (one (boxF (varF 4))) seqP) [2] c1 yesF (bd (consF (varF 1) (consF (varF 0) nilF)) (callP 2 F__law_opened_right))) nilF) allP) truE))
  (retF (conF (.bl false)))
  skipF)
  (seqF (asgF (bd (consF (varF 3) (consF (opF ixP (varF 4) (conF (.int 0))) nilF)) (callP 2 F_seal_of)) (gNm 11))
  (retF (andV (opF eqP (bd (consF (varF 3) (consF (opF ixP (varF 4) (conF (.int 0))) nilF)) (callP 2 F_seal_of)) (varF 11)) (andV (bd (consF (varF 3) (consF (opF ixP (varF 4) (conF (.int 0))) nilF)) (callP 2 F__law_opened_right)) (opF eqP (methF "House" "many" 1 F_House_many (varF 2) nilF) (bd (consF (varF 7) nilF) lenN))))))))))))))))))
end
end Q
namespace Q
open PySem L2 B
theorem run_rt {n r : Nat} {body : SF} {xs : List Vl} {G G' : List M} {x : Vl} (hl : xs.length = n) (h : body (xs.map some ++ List.replicate r none) G = some (.rt x G')) : runF n r body xs G = some (x, G') := by
  unfold runF; rw [if_pos hl, h]
theorem seq_go {a b : SF} {δ δ1 : De} {G G1 : List M} {r : Option Fl} (h : a δ G = some (.nx δ1 G1)) (k : b δ1 G1 = r) : seqF a b δ G = r := by
  unfold seqF; rw [h]; exact k
theorem ite_t {c : Mo Bool} {a b : SF} {δ δ1 : De} {G G1 : List M} {r : Option Fl} (h : c δ G = some (true, δ1, G1)) (k : a δ1 G1 = r) : iteF' c a b δ G = r := by
  unfold iteF'; rw [h]; exact k
theorem ite_f {c : Mo Bool} {a b : SF} {δ δ1 : De} {G G1 : List M} {r : Option Fl} (h : c δ G = some (false, δ1, G1)) (k : b δ1 G1 = r) : iteF' c a b δ G = r := by
  unfold iteF'; rw [h]; exact k
theorem asg_go {f : Mo Ev} {g : GF} {δ δ1 δ2 : De} {G G1 G2 : List M} {x : Vl} (h : f δ G = some (.v x, δ1, G1)) (k : g x δ1 G1 = some (δ2, G2)) : asgF f g δ G = some (.nx δ2 G2) := by
  unfold asgF movF bd; rw [h]; show (match mvE (.v x) δ1 G1 with | _ => _) = _
  unfold mvE rt; dsimp only; rw [k]
theorem ret_go {f : Mo Ev} {δ δ1 : De} {G G1 : List M} {x : Vl} (h : f δ G = some (.v x, δ1, G1)) : retF f δ G = some (.rt x G1) := by
  unfold retF movF bd; rw [h]; rfl
theorem drop_go {f : Mo Ev} {δ δ1 : De} {G G1 : List M} {e : Ev} (h : f δ G = some (e, δ1, G1)) : dropF f δ G = some (.nx δ1 G1) := by
  unfold dropF; rw [h]
theorem bd_go {α β : Type} {m : Mo α} {f : α → Mo β} {δ δ1 : De} {G G1 : List M} {a : α} {r : Option (β × De × List M)} (h : m δ G = some (a, δ1, G1)) (k : f a δ1 G1 = r) : bd m f δ G = r := by
  unfold bd; rw [h]; exact k
theorem or_f {c d : Mo Bool} {δ δ1 : De} {G G1 : List M} {r : Option (Bool × De × List M)} (h : c δ G = some (false, δ1, G1)) (k : d δ1 G1 = r) : orF c d δ G = r := by
  unfold orF bd; rw [h]; exact k
theorem not_go {c : Mo Bool} {δ δ1 : De} {G G1 : List M} {b : Bool} (h : c δ G = some (b, δ1, G1)) : notF c δ G = some (!b, δ1, G1) := by
  unfold notF bd; rw [h]; rfl
theorem tst_go {f : Mo Ev} {δ δ1 : De} {G G1 : List M} {b : Bool} (h : f δ G = some (.v (.im (.bl b)), δ1, G1)) : tstF f δ G = some (b, δ1, G1) := by
  unfold tstF bd; rw [h]; rfl
theorem op_go {p : List Ev → Mo Ev} {f g : Mo Ev} {δ δ1 δ2 : De} {G G1 G2 : List M} {x y : Ev} {r : Option (Ev × De × List M)} (h : f δ G = some (x, δ1, G1)) (h2 : g δ1 G1 = some (y, δ2, G2)) (k : p [x, y] δ2 G2 = r) : opF p f g δ G = r := by
  unfold opF bd; rw [h]; dsimp only; rw [h2]; exact k
theorem un_go {p : List Ev → Mo Ev} {f : Mo Ev} {δ δ1 : De} {G G1 : List M} {x : Ev} {r : Option (Ev × De × List M)} (h : f δ G = some (x, δ1, G1)) (k : p [x] δ1 G1 = r) : unF p f δ G = r := by
  unfold unF bd; rw [h]; exact k
theorem call_go {n : Nat} {fn : FF} {es : List Ev} {xs : List Vl} {δ : De} {G G' : List M} {x : Vl} (h : vlA es = some xs) (hl : xs.length = n) (k : fn xs G = some (x, G')) : callP n fn es δ G = some (.v x, δ, G') := by
  unfold callP; rw [h]; dsimp only; rw [if_pos hl, k]
theorem bm_go {p : List Ev → Mo Ev} {fo : Mo Ev} {fa : Mo (List Ev)} {δ δ1 δ2 : De} {G G1 G2 : List M} {e : Ev} {es : List Ev} {r : Option (Ev × De × List M)} (h : fo δ G = some (e, δ1, G1)) (hl : isLst δ1 G1 e = true) (ha : fa δ1 G1 = some (es, δ2, G2)) (k : p (e :: es) δ2 G2 = r) : bmF p fo fa δ G = r := by
  unfold bmF bd; rw [h]; dsimp only; rw [if_pos hl, ha]; exact k
theorem comp_go {fi : IF} {ix : List Nat} {c : I → Option (List I)} {tt : Mo Bool} {te : Mo Ev} {δ δ0 δ1 : De} {G G0 G1 G2 : List M} {w : Wk} {es : List Ev} {ds : List I} (hb : boxS ix δ G = some ((), δ0, G0)) (hi : fi δ0 G0 = some (w, es, δ1, G1)) (hn : w.n ≤ 100000) (hc : cTurns w c tt te (inD ix δ1) 0 w.n [] δ1 G1 = some (ds, G2)) : compF fi ix c tt te δ G = some (.v (.ow (.lst ds)), δ1, G2) := by
  unfold compF; rw [hb]; dsimp only; rw [hi]; dsimp only; rw [if_pos hn, hc]
theorem for_go {f : IF} {g : GF} {b : SF} {δ δ1 : De} {G G1 : List M} {w : Wk} {es : List Ev} {r : Option Fl} (hi : f δ G = some (w, es, δ1, G1)) (h : fTurns w g b 0 w.n δ1 G1 = r) : forF f g b δ G = r := by
  unfold forF; rw [hi]; exact h
theorem it_go {fa : Mo (List Ev)} {p : List Ev → De → List M → Option Wk} {δ δ1 : De} {G G1 : List M} {es : List Ev} {w : Wk} (h : fa δ G = some (es, δ1, G1)) (k : p es δ1 G1 = some w) : itF fa p δ G = some (w, es, δ1, G1) := by
  unfold itF; rw [h]; dsimp only; rw [k]; rfl
noncomputable def upW (n : Nat) : Wk := ⟨n, fun i _ _ => some (.int i), fun _ _ => true⟩
theorem upW_n (n : Nat) : (upW n).n = n := rfl
theorem rng_go {n : Nat} {j : Int} {δ : De} {G : List M} (h : j = n) (hn : n ≤ 1000000) : rng1P [.v (.im (.int j))] δ G = some (upW n) := by
  subst h
  unfold rng1P
  dsimp only
  rw [if_pos (by lia)]
  rfl
theorem rng_it {n : Nat} {fa : Mo (List Ev)} {j : Int} {δ δ1 : De} {G G1 : List M} (h : fa δ G = some ([.v (.im (.int j))], δ1, G1)) (e : j = n) (hn : n ≤ 1000000) : itF fa rng1P δ G = some (upW n, [.v (.im (.int j))], δ1, G1) := it_go h (rng_go e hn)
end Q
namespace Q
open PySem L2 B
local macro_rules | `(tactic| simp_arith [$xs,*]) => `(tactic| simp [runF,seqF,iteF',orF,andF,notF,tstF,opF,unF,bd,varF,conF,rt,consF,nilF,fldP,lenP,sq,pk,pkS,blE,ltP,leP,gtP,geP,intP,retF,retN,movF,boxF,bxE,mvE,skipF,dropF,asgF,gNm,ixP,orP,ixS,ixD,getD',subP,addP,addI,mulP,mulI,fdivP,modP,powP,shlP,shrP,negP,callP,vlA,methF,makeP,tupP,lstP,imA,imE,bmF,isLst,append1P,pop0P,fldS,putF',putQ,keyI,keyT,keysI,valI,ifE,isQ,slOk,truE,eqP,neP,eqE,mixI,eqD,flI,eqFl,tpl,newK,newT,one, $xs,*])
section
theorem s_sn : ¬ (("seed" : Str) = "number") := by decide +kernel
theorem s_sl : ¬ (("seed" : Str) = "left") := by decide +kernel
theorem s_nl : ¬ (("number" : Str) = "left") := by decide +kernel
theorem s_ns : ¬ (("number" : Str) = "seed") := by decide +kernel
theorem s_ls : ¬ (("left" : Str) = "seed") := by decide +kernel
theorem s_ln : ¬ (("left" : Str) = "number") := by decide +kernel
theorem b_sn : ((Sum.inr ("seed" : Str) : Key) = Sum.inr ("number" : Str)) = False := by simp; decide +kernel
theorem b_sl : ((Sum.inr ("seed" : Str) : Key) = Sum.inr ("left" : Str)) = False := by simp; decide +kernel
theorem b_nl : ((Sum.inr ("number" : Str) : Key) = Sum.inr ("left" : Str)) = False := by simp; decide +kernel
noncomputable def dealI (a n : Int) (l : Nat) : List (Key × I) := [(.inr "seed", .int a), (.inr "number", .int n), (.inr "left", .ref l)]
theorem deal_s (a n : Int) (l : Nat) : valI (dealI a n l) (Sum.inr ("seed" : Str)) = some (.int a) := by simp [dealI, valI]
theorem deal_n (a n : Int) (l : Nat) : valI (dealI a n l) (Sum.inr ("number" : Str)) = some (.int n) := by simp only [dealI, valI, b_sn, if_false, if_true]
theorem deal_l (a n : Int) (l : Nat) : valI (dealI a n l) (Sum.inr ("left" : Str)) = some (.ref l) := by simp only [dealI, valI, b_sl, b_nl, if_false, if_true]
theorem put_n (a n m : Int) (l : Nat) : putD (dealI a n l) (Sum.inr ("number" : Str)) (.int m) = dealI a m l := by simp [putD, hasI, dealI, s_sn, s_ln, s_nl, s_ns]
theorem put_s (a n m : Int) (l : Nat) : putD (dealI a n l) (Sum.inr ("seed" : Str)) (.int m) = dealI m n l := by simp [putD, hasI, dealI, s_ns, s_ls]
theorem deal_len (a n : Int) (l : Nat) : (dealI a n l).length < 1000000 := by show 3 < 1000000; decide
structure DC (G : List M) (d l : Nat) (a n : Int) (ms : List Int) : Prop where
  dc : G[d]? = some (.dic (dealI a n l))
  lc : G[l]? = some (.lst (ms.map I.int))
  ne : d ≠ l
  a0 : 0 ≤ a
  a1 : a < 2147483647
  n0 : 0 ≤ n
  m0 : ∀ m ∈ ms, 0 ≤ m
noncomputable def DG (G : List M) (d l : Nat) : Prop := ∃ a n ms, DC G d l a n ms
/-- but these two all is as it was -/
structure Oth (d l : Nat) (G G' : List M) : Prop where
  len : G'.length = G.length
  at_ : ∀ k, k ≠ d → k ≠ l → G'[k]? = G[k]?
theorem Oth.refl (d l : Nat) (G : List M) : Oth d l G G := ⟨rfl, fun _ _ _ => rfl⟩
theorem Oth.trans {d l : Nat} {G G1 G2 : List M} (x : Oth d l G G1) (y : Oth d l G1 G2) : Oth d l G G2 := ⟨y.len.trans x.len, fun k h1 h2 => (y.at_ k h1 h2).trans (x.at_ k h1 h2)⟩
theorem Oth.setD {d l : Nat} {G : List M} {m : M} : Oth d l G (G.set d m) := ⟨List.length_set, fun k h1 _ => List.getElem?_set_ne (Ne.symm h1)⟩
theorem Oth.setL {d l : Nat} {G : List M} {m : M} : Oth d l G (G.set l m) := ⟨List.length_set, fun k _ h1 => List.getElem?_set_ne (Ne.symm h1)⟩
theorem set_at {G : List M} {k : Nat} {m m' : M} (h : G[k]? = some m') : (G.set k m)[k]? = some m := List.getElem?_set_self (List.getElem?_eq_some_iff.mp h).1
noncomputable def drD (d : Nat) (many : Int) : De := [some (.im (.ref d)), some (.im (.int many)), none, none, none]
theorem draw_c {G : List M} {d l : Nat} {a n : Int} {ms : List Int} {many : Int} (D : DC G d l a n ms) : F__law_draw_w1c (drD d many) G = some (decide (n = 0) && decide (0 < ms.length), drD d many, G) := by
  by_cases h : n = 0
  · by_cases h2 : 0 < ms.length
    · simp_arith [F__law_draw_w1c, drD, D.dc, D.lc, deal_n, deal_l, h, h2]
    · simp_arith [F__law_draw_w1c, drD, D.dc, D.lc, deal_n, deal_l, h, h2]
  · simp_arith [F__law_draw_w1c, drD, D.dc, D.lc, deal_n, deal_l, h]
theorem draw_b {G : List M} {d l : Nat} {a n : Int} {ms : List Int} {many y : Int} (D : DC G d l a n ms) (hy : ms[ms.length - 1]? = some y) : ∃ G', F__law_draw_w1b (drD d many) G = some (.nx (drD d many) G') ∧ DC G' d l a y ms.dropLast ∧ Oth d l G G' := by
  have h1 : (G.set l (.lst (ms.map I.int).dropLast))[d]? = some (.dic (dealI a n l)) := by rw [List.getElem?_set_ne D.ne.symm]; exact D.dc
  refine ⟨(G.set l (.lst (ms.map I.int).dropLast)).set d (.dic (dealI a y l)), ?_, ⟨set_at h1, ?_, D.ne, D.a0, D.a1, D.m0 y (List.mem_of_getElem? hy), fun m hm => D.m0 m (List.dropLast_subset _ hm)⟩, Oth.setL.trans Oth.setD⟩
  · simp_arith [F__law_draw_w1b, drD, D.dc, D.lc, deal_l, hy, h1, deal_len, put_n]
  · rw [List.getElem?_set_ne D.ne, set_at D.lc, List.map_dropLast]
theorem draw_w {d l : Nat} {a : Int} {many : Int} : ∀ (k : Nat) {G : List M} {n : Int} {ms : List Int}, ms.length = k → DC G d l a n ms → ∃ G' n' ms', whF F__law_draw_w1c F__law_draw_w1b (drD d many) G = some (.nx (drD d many) G') ∧ DC G' d l a n' ms' ∧ Oth d l G G' := by
  intro k
  induction k with
  | zero =>
    intro G n ms hk D
    refine ⟨G, n, ms, whF_done ?_, D, Oth.refl _ _ _⟩
    rw [draw_c D]
    simp [hk]
  | succ k ih =>
    intro G n ms hk D
    by_cases h : n = 0
    · obtain ⟨y, hy⟩ : ∃ y, ms[ms.length - 1]? = some y := ⟨_, List.getElem?_eq_getElem (by lia)⟩
      obtain ⟨G1, e1, D1, o1⟩ := draw_b (many := many) D hy
      obtain ⟨G2, n2, ms2, e2, D2, o2⟩ := ih (by rw [List.length_dropLast]; lia) D1
      refine ⟨G2, n2, ms2, ?_, D2, o1.trans o2⟩
      rw [whF_next (by rw [draw_c D]; simp [h, hk]) e1]
      exact e2
    · refine ⟨G, n, ms, whF_done ?_, D, Oth.refl _ _ _⟩
      rw [draw_c D]
      simp [h]
theorem draw_ok {G : List M} {d l : Nat} {many : Int} (D : DG G d l) (h0 : 0 < many) (h1 : many < 2 ^ 100) : ∃ r G', F__law_draw [.im (.ref d), .im (.int many)] G = some (.im (.int r), G') ∧ 0 ≤ r ∧ r < many ∧ DG G' d l ∧ Oth d l G G' := by
  obtain ⟨a, n, ms, D⟩ := D
  obtain ⟨G1, n1, ms1, e1, D1, o1⟩ := draw_w (many := many) _ rfl D
  have e1' : whF F__law_draw_w1c F__law_draw_w1b [some (.im (.ref d)), some (.im (.int many)), none, none, none] G = some (.nx [some (.im (.ref d)), some (.im (.int many)), none, none, none] G1) := e1
  by_cases hn : 0 < n1
  · refine ⟨n1 % many, G1.set d (.dic (dealI a (n1 / many) l)), ?_, Int.emod_nonneg _ (by lia), Int.emod_lt_of_pos _ h0, ⟨a, n1 / many, ms1, set_at D1.dc, by rw [List.getElem?_set_ne D1.ne]; exact D1.lc, D1.ne, D1.a0, D1.a1, Int.ediv_nonneg D1.n0 (by lia), D1.m0⟩, o1.trans Oth.setD⟩
    have h2 : many < 2 ^ 200 := Int.lt_trans h1 (by decide)
    have h3 : (many < 1606938044258990275541962092341162602522202993782792835301376) := h2
    simp_arith [F__law_draw, e1', D1.dc, deal_n, hn, h0, h3, deal_len, put_n]
  · have q1 : 0 ≤ (a * 48271 + 7919) % 2147483647 := Int.emod_nonneg _ (by decide)
    have q2 : (a * 48271 + 7919) % 2147483647 < 2147483647 := Int.emod_lt_of_pos _ (by decide)
    have q3 : 0 ≤ ((a * 48271 + 7919) % 2147483647 * 40692 + 104729) % 2147483399 := Int.emod_nonneg _ (by decide)
    have q4 : ((a * 48271 + 7919) % 2147483647 * 40692 + 104729) % 2147483399 < 2147483399 := Int.emod_lt_of_pos _ (by decide)
    obtain ⟨o, ho⟩ : ∃ o, (a * 48271 + 7919) % 2147483647 = o := ⟨_, rfl⟩
    rw [ho] at q1 q2 q3 q4
    obtain ⟨b, hb⟩ : ∃ b, (o * 40692 + 104729) % 2147483399 = b := ⟨_, rfl⟩
    rw [hb] at q3 q4
    have D2 : (G1.set d (.dic (dealI b n1 l)))[d]? = some (.dic (dealI b n1 l)) := set_at D1.dc
    have c1 : -18446744073709551616 < b ∧ b < 18446744073709551616 := ⟨by lia, by lia⟩
    have c2 : -18446744073709551616 < o ∧ o < 18446744073709551616 := ⟨by lia, by lia⟩
    refine ⟨(o * o % 2147483629 * 2147483563 + b * b % 2147483563) % many, G1.set d (.dic (dealI b n1 l)), ?_, Int.emod_nonneg _ (by lia), Int.emod_lt_of_pos _ h0, ⟨b, n1, ms1, D2, by rw [List.getElem?_set_ne D1.ne]; exact D1.lc, D1.ne, q3, by lia, D1.n0, D1.m0⟩, o1.trans Oth.setD⟩
    simp_arith [F__law_draw, e1', D1.dc, D2, deal_n, deal_s, hn, h0, deal_len, put_s, ho, hb, c1, c2]
end
section
variable {Ψ : Tr → Prop}
inductive Mk where
  | leaf (w : Int) | pair (a b : Int)
  deriving DecidableEq
noncomputable def Mk.i : Mk → I
  | .leaf w => .tup [.str "leaf", .int w]
  | .pair a b => .tup [.str "pair", .int a, .int b]
noncomputable def Mk.k : Mk → List Key
  | .leaf w => [.inr "leaf", .inl w]
  | .pair a b => [.inr "pair", .inl a, .inl b]
theorem Mk.key (m : Mk) : keyT m.i = some m.k := by cases m <;> simp [Mk.i, Mk.k, keyT, keysI, keyI]
theorem s_lp : ¬ (("leaf" : Str) = "pair") := by decide +kernel
theorem s_pl : ¬ (("pair" : Str) = "leaf") := by decide +kernel
theorem Mk.inj {m m' : Mk} (h : m.k = m'.k) : m = m' := by
  cases m <;> cases m' <;> simp [Mk.k, s_lp, s_pl] at h <;> simp [h]
/-- the seals given, numbered from o + 1 on -/
noncomputable def num (o : Nat) : List Mk → List (List Key × I)
  | [] => []
  | m :: r => (m.k, .int ((o : Int) + 1)) :: num (o + 1) r
theorem num_len : ∀ (o : Nat) (gs : List Mk), (num o gs).length = gs.length
  | _, [] => rfl
  | o, m :: r => by show (num (o + 1) r).length + 1 = r.length + 1; rw [num_len]
theorem num_has : ∀ (o : Nat) (gs : List Mk) (m : Mk), hasI (num o gs) m.k = decide (m ∈ gs)
  | _, [], _ => by simp [num, hasI]
  | o, g :: r, m => by
    have ih := num_has (o + 1) r m
    show (decide (g.k = m.k) || hasI (num (o + 1) r) m.k) = _
    rw [ih]
    by_cases e : g = m
    · subst e; simp
    · have : ¬ (g.k = m.k) := fun z => e (Mk.inj z)
      simp [this, e, Ne.symm e, List.mem_cons]
theorem num_val : ∀ {o : Nat} {gs : List Mk} {m : Mk}, m ∈ gs → ∃ j : Nat, valI (num o gs) m.k = some (.int ((o : Int) + j + 1)) ∧ gs[j]? = some m
  | _, [], _, h => by cases h
  | o, g :: r, m, h => by
    by_cases e : g = m
    · subst e; exact ⟨0, by simp [num, valI], rfl⟩
    · rcases List.mem_cons.mp h with z | z
      · exact absurd z.symm e
      · obtain ⟨j, h1, h2⟩ := num_val (o := o + 1) z
        have : ¬ (g.k = m.k) := fun z => e (Mk.inj z)
        refine ⟨j + 1, ?_, h2⟩
        simp only [num, valI, if_neg this, h1]
        congr 2; push_cast; lia
theorem num_none : ∀ {o : Nat} {gs : List Mk} {m : Mk}, m ∉ gs → valI (num o gs) m.k = none
  | _, [], _, _ => rfl
  | o, g :: r, m, h => by
    rw [List.mem_cons, not_or] at h
    have : ¬ (g.k = m.k) := fun z => h.1 (Mk.inj z).symm
    simp only [num, valI, if_neg this]
    exact num_none h.2
theorem num_snoc : ∀ (o : Nat) (gs : List Mk) (m : Mk), num o (gs ++ [m]) = num o gs ++ [(m.k, .int ((o : Int) + gs.length + 1))]
  | o, [], m => by simp [num]
  | o, g :: r, m => by
    show (g.k, I.int ((o : Int) + 1)) :: num (o + 1) (r ++ [m]) = (g.k, I.int ((o : Int) + 1)) :: (num (o + 1) r ++ _)
    rw [num_snoc (o + 1) r m]
    have : ((o + 1 : Nat) : Int) + r.length + 1 = (o : Int) + (g :: r).length + 1 := by simp only [List.length_cons]; push_cast; lia
    rw [this]
noncomputable def hsI (g s : Nat) : List (Str × I) := [("given", .ref g), ("seals", .ref s)]
theorem s_sg : (("seals" : Str) == "given") = false := by decide +kernel
theorem lk_g (g s : Nat) : (hsI g s).lookup ("given" : Str) = some (.ref g) := by simp [hsI, List.lookup]
theorem lk_s (g s : Nat) : (hsI g s).lookup ("seals" : Str) = some (.ref s) := by simp [hsI, List.lookup, s_sg]
theorem m1 : (("seal_for" : Str) == "given") = false := by decide +kernel
theorem m2 : (("seal_for" : Str) == "seals") = false := by decide +kernel
theorem m3 : (("leaf" : Str) == "given") = false := by decide +kernel
theorem m4 : (("leaf" : Str) == "seals") = false := by decide +kernel
theorem m5 : (("pair" : Str) == "given") = false := by decide +kernel
theorem m6 : (("pair" : Str) == "seals") = false := by decide +kernel
theorem m7 : (("opened" : Str) == "given") = false := by decide +kernel
theorem m8 : (("opened" : Str) == "seals") = false := by decide +kernel
theorem m9 : (("many" : Str) == "given") = false := by decide +kernel
theorem m10 : (("many" : Str) == "seals") = false := by decide +kernel
theorem n_for (g s : Nat) : (hsI g s).lookup ("seal_for" : Str) = none := by simp [hsI, List.lookup, m1, m2]
theorem n_leaf (g s : Nat) : (hsI g s).lookup ("leaf" : Str) = none := by simp [hsI, List.lookup, m3, m4]
theorem n_pair (g s : Nat) : (hsI g s).lookup ("pair" : Str) = none := by simp [hsI, List.lookup, m5, m6]
theorem n_open (g s : Nat) : (hsI g s).lookup ("opened" : Str) = none := by simp [hsI, List.lookup, m7, m8]
theorem n_many (g s : Nat) : (hsI g s).lookup ("many" : Str) = none := by simp [hsI, List.lookup, m9, m10]
/-- m is the n-th -/
noncomputable def At (gs : List Mk) (n : Int) (m : Mk) : Prop := ∃ j : Nat, n = (j : Int) + 1 ∧ gs[j]? = some m
theorem At.app {gs : List Mk} {n : Int} {m : Mk} (h : At gs n m) (r : List Mk) : At (gs ++ r) n m := by
  obtain ⟨j, e, h⟩ := h
  exact ⟨j, e, by rw [List.getElem?_append_left (List.getElem?_eq_some_iff.mp h).1]; exact h⟩
theorem At.uniq {gs : List Mk} {n n' : Int} {m : Mk} (nd : gs.Nodup) (h : At gs n m) (h' : At gs n' m) : n = n' := by
  obtain ⟨j, rfl, h⟩ := h
  obtain ⟨j', rfl, h'⟩ := h'
  have a1 := List.getElem?_eq_some_iff.mp h
  have a2 := List.getElem?_eq_some_iff.mp h'
  obtain ⟨l1, e1⟩ := a1
  obtain ⟨l2, e2⟩ := a2
  have := (List.getElem_inj (i := j) (j := j') (h₀ := l1) (h₁ := l2) nd).mp (e1.trans e2.symm)
  subst this; rfl
/-- t is the tree of the seal n -/
noncomputable def TrS (gs : List Mk) : Tr → Int → Prop
  | .lf w, n => At gs n (.leaf w)
  | .pr l r, n => ∃ a b, At gs n (.pair a b) ∧ TrS gs l a ∧ TrS gs r b
theorem TrS.app {gs : List Mk} (q : List Mk) : ∀ {t : Tr} {n : Int}, TrS gs t n → TrS (gs ++ q) t n
  | .lf _, _, h => At.app h q
  | .pr _ _, _, ⟨a, b, h, h1, h2⟩ => ⟨a, b, h.app q, h1.app q, h2.app q⟩
theorem At.val {gs : List Mk} {n : Int} {m m' : Mk} (h : At gs n m) (h' : At gs n m') : m = m' := by
  obtain ⟨j, e, h⟩ := h
  obtain ⟨j', e', h'⟩ := h'
  obtain rfl : j = j' := by lia
  rw [h] at h'; exact Option.some.inj h'
theorem TrS.val {gs : List Mk} : ∀ {t t' : Tr} {n : Int}, TrS gs t n → TrS gs t' n → t = t'
  | .lf w, .lf w', _, h, h' => by have := At.val h h'; injection this with e; rw [e]
  | .lf w, .pr l r, _, h, ⟨_, _, h', _⟩ => by cases At.val h h'
  | .pr l r, .lf w, _, ⟨_, _, h', _⟩, h => by cases At.val h h'
  | .pr l r, .pr l' r', _, ⟨a, b, h, h1, h2⟩, ⟨a', b', h', h1', h2'⟩ => by
    have := At.val h h'; injection this with e1 e2
    subst e1 e2
    rw [h1.val h1', h2.val h2']
theorem TrS.uniq {gs : List Mk} (nd : gs.Nodup) : ∀ {t : Tr} {n n' : Int}, TrS gs t n → TrS gs t n' → n = n'
  | .lf w, _, _, h, h' => At.uniq nd h h'
  | .pr l r, _, _, ⟨a, b, h, h1, h2⟩, ⟨a', b', h', h1', h2'⟩ => by
    have e1 := h1.uniq nd h1'
    have e2 := h2.uniq nd h2'
    subst e1 e2
    exact h.uniq nd h'
/-- each seal has a tree of Ψ -/
noncomputable def Cl (Ψ : Tr → Prop) (gs : List Mk) : Prop := ∀ j : Nat, j < gs.length → ∃ t, TrS gs t ((j : Int) + 1) ∧ Ψ t
noncomputable def NewOk (Ψ : Tr → Prop) (gs : List Mk) : Mk → Prop
  | .leaf w => Ψ (.lf w)
  | .pair a b => ∃ l r, TrS gs l a ∧ TrS gs r b ∧ Ψ (.pr l r)
theorem Cl.snoc {gs : List Mk} {m : Mk} (c : Cl Ψ gs) (h : NewOk Ψ gs m) : Cl Ψ (gs ++ [m]) := fun j hj => by
  by_cases e : j < gs.length
  · obtain ⟨t, h1, h2⟩ := c j e
    exact ⟨t, h1.app _, h2⟩
  · have ej : j = gs.length := by rw [List.length_append, List.length_singleton] at hj; lia
    subst ej
    have a : At (gs ++ [m]) ((gs.length : Int) + 1) m := ⟨gs.length, rfl, by simp⟩
    cases m with
    | leaf w => exact ⟨.lf w, a, h⟩
    | pair p q =>
      obtain ⟨l, r, h1, h2, h3⟩ := h
      exact ⟨.pr l r, ⟨p, q, a, h1.app _, h2.app _⟩, h3⟩
structure HG (Ψ : Tr → Prop) (G : List M) (h g s : Nat) (gs : List Mk) : Prop where
  ob : G[h]? = some (.obj "House" (hsI g s))
  gl : G[g]? = some (.lst (gs.map Mk.i))
  sd : G[s]? = some (.dit (num 0 gs))
  n1 : h ≠ g
  n2 : h ≠ s
  n3 : g ≠ s
  nd : gs.Nodup
  cl : Cl Ψ gs
theorem seal_for_ok {G : List M} {h g s : Nat} {gs : List Mk} {m : Mk} (S : HG Ψ G h g s gs) (hl : gs.length < 100000) (ho : NewOk Ψ gs m) : ∃ n gs' G', F_House_seal_for [.im (.ref h), .im m.i] G = some (.im (.int n), G') ∧ HG Ψ G' h g s gs' ∧ At gs' n m ∧ (gs' = gs ∨ gs' = gs ++ [m]) ∧ Oth g s G G' := by
  have hk := m.key
  by_cases hm : m ∈ gs
  · obtain ⟨j, hv, hj⟩ := num_val (o := 0) hm
    refine ⟨(j : Int) + 1, gs, G, ?_, S, ⟨j, rfl, hj⟩, .inl rfl, Oth.refl _ _ _⟩
    have hv : valI (num 0 gs) m.k = some (.int ((j : Int) + 1)) := by rw [hv]; simp
    have hi : inL true [.v (.im m.i), .v (.im (.ref s))] [some (.im (.ref h)), some (.im m.i)] G = none := by
      cases m <;> simp [inL, sq, pk, S.sd, Mk.i]
    have hq : ixS [.v (.im (.ref s)), .v (.im m.i)] [some (.im (.ref h)), some (.im m.i)] G = none := by cases m <;> simp [ixS, Mk.i]
    simp [F_House_seal_for, runF, seqF, iteF', tstF, opF, unF, bd, varF, rt, fldP, ninP, orP, inD', getD', pk, blE, retF, movF, mvE, skipF, ixP, ixD, S.ob, S.sd, lk_s, lk_g, hk, hv, hi, hq]
  · have hv := num_none (o := 0) hm
    have hh : hasI (num 0 gs) m.k = false := by rw [num_has]; simp [hm]
    have hi : inL true [.v (.im m.i), .v (.im (.ref s))] [some (.im (.ref h)), some (.im m.i)] G = none := by
      cases m <;> simp [inL, sq, pk, S.sd, Mk.i]
    have g1 : (G.set g (.lst (gs.map Mk.i ++ [m.i])))[h]? = some (.obj "House" (hsI g s)) := by rw [List.getElem?_set_ne S.n1.symm]; exact S.ob
    have g2 : (G.set g (.lst (gs.map Mk.i ++ [m.i])))[s]? = some (.dit (num 0 gs)) := by rw [List.getElem?_set_ne S.n3]; exact S.sd
    have g3 : (G.set g (.lst (gs.map Mk.i ++ [m.i])))[g]? = some (.lst (gs.map Mk.i ++ [m.i])) := set_at S.gl
    have e1 : num 0 (gs ++ [m]) = num 0 gs ++ [(m.k, .int ((gs.length : Int) + 1))] := by rw [num_snoc]; simp
    have e2 : putD (num 0 gs) m.k (.int ((gs.length : Int) + 1)) = num 0 (gs ++ [m]) := by rw [e1]; unfold putD; rw [hh]; rfl
    have l1 : gs.length < 1000000 := by lia
    have l2 : (num 0 gs).length < 1000000 := by rw [num_len]; exact l1
    have k1 : ((G.set g (.lst (gs.map Mk.i ++ [m.i]))).set s (.dit (num 0 (gs ++ [m]))))[h]? = some (.obj "House" (hsI g s)) := by rw [List.getElem?_set_ne S.n2.symm]; exact g1
    have k2 : ((G.set g (.lst (gs.map Mk.i ++ [m.i]))).set s (.dit (num 0 (gs ++ [m]))))[s]? = some (.dit (num 0 (gs ++ [m]))) := set_at g2
    have hq : ∀ G', ixS [.v (.im (.ref s)), .v (.im m.i)] [some (.im (.ref h)), some (.im m.i)] G' = none := fun G' => by cases m <;> simp [ixS, Mk.i]
    have hmem : m ∈ gs ++ [m] := by simp
    have nd' : (gs ++ [m]).Nodup := by
      rw [List.nodup_append]
      exact ⟨S.nd, by simp, fun a ha b hb => by simp at hb; subst hb; exact fun z => hm (z ▸ ha)⟩
    have val : valI (num 0 (gs ++ [m])) m.k = some (.int ((gs.length : Int) + 1)) := by
      obtain ⟨j, hv', hj⟩ := num_val (o := 0) hmem
      rw [hv']
      have a2 : (gs ++ [m])[gs.length]? = some m := by simp
      obtain ⟨l1, e1⟩ := List.getElem?_eq_some_iff.mp hj
      obtain ⟨l2, e2⟩ := List.getElem?_eq_some_iff.mp a2
      have := (List.getElem_inj (h₀ := l1) (h₁ := l2) nd').mp (e1.trans e2.symm)
      subst this
      simp
    refine ⟨(gs.length : Int) + 1, gs ++ [m], (G.set g (.lst (gs.map Mk.i ++ [m.i]))).set s (.dit (num 0 (gs ++ [m]))), ?_, ⟨k1, ?_, k2, S.n1, S.n2, S.n3, nd', S.cl.snoc ho⟩, ⟨gs.length, rfl, by simp⟩, .inr rfl, Oth.setD.trans Oth.setL⟩
    · simp [F_House_seal_for, runF, seqF, iteF', tstF, opF, unF, bd, varF, rt, consF, nilF, fldP, ninP, orP, inD', getD', pk, pkS, sq, lenP, blE, retF, movF, mvE, skipF, dropF, bmF, isLst, append1P, putF', putQ, ixP, ixD, S.ob, S.sd, S.gl, lk_s, lk_g, hk, hv, hi, hq, g1, g2, g3, l1, l2, e2, k1, k2, val]
    · rw [List.getElem?_set_ne S.n3.symm, g3, List.map_append]; rfl
end
section
variable {Ψ : Tr → Prop}
theorem cT_inv {w : Wk} {c : I → Option (List I)} {tt : Mo Bool} {te : Mo Ev} {di δ : De} (P : Nat → List I → List M → Prop)
    (step : ∀ i acc G, i < w.n → P i acc G → ∃ d ds δa Ga y δb Gb, w.at_ i δ G = some d ∧ c d = some ds ∧ tt ((ds.map fun d => some (Vl.im d)) ++ di) G = some (true, δa, Ga) ∧ te δa Ga = some (.v (.im y), δb, Gb) ∧ P (i + 1) (acc ++ [y]) Gb)
    (fin : ∀ acc G, P w.n acc G → w.fin δ G = true) : ∀ (r i : Nat) (acc : List I) (G : List M), i + r = w.n → P i acc G → ∃ ds G', cTurns w c tt te di i r acc δ G = some (ds, G') ∧ P w.n ds G'
  | 0, i, acc, G, h, p => by
    have : i = w.n := by lia
    subst this
    exact ⟨acc, G, by unfold cTurns; rw [fin acc G p]; rfl, p⟩
  | r + 1, i, acc, G, h, p => by
    obtain ⟨d, ds, δa, Ga, y, δb, Gb, h1, h2, h3, h4, p'⟩ := step i acc G (by lia) p
    obtain ⟨ds', G', e, q⟩ := cT_inv P step fin r (i + 1) (acc ++ [y]) Gb (by lia) p'
    refine ⟨ds', G', ?_, q⟩
    unfold cTurns
    rw [h1]; dsimp only; rw [h2]; dsimp only; rw [h3]; dsimp only; rw [h4]
    exact e
theorem fT_inv {w : Wk} {g : GF} {b : SF} (P : Nat → De → List M → Prop)
    (step : ∀ i δ G, i < w.n → P i δ G → ∃ d δ1 G1 δ2 G2, w.at_ i δ G = some d ∧ g (.im d) δ G = some (δ1, G1) ∧ b δ1 G1 = some (.nx δ2 G2) ∧ P (i + 1) δ2 G2)
    (fin : ∀ δ G, P w.n δ G → w.fin δ G = true) : ∀ (r i : Nat) (δ : De) (G : List M), i + r = w.n → P i δ G → ∃ δ' G', fTurns w g b i r δ G = some (.nx δ' G') ∧ P w.n δ' G'
  | 0, i, δ, G, h, p => by
    have : i = w.n := by lia
    subst this
    exact ⟨δ, G, by unfold fTurns; rw [fin δ G p]; rfl, p⟩
  | r + 1, i, δ, G, h, p => by
    obtain ⟨d, δ1, G1, δ2, G2, h1, h2, h3, p'⟩ := step i δ G (by lia) p
    obtain ⟨δ', G', e, q⟩ := fT_inv P step fin r (i + 1) δ2 G2 (by lia) p'
    refine ⟨δ', G', ?_, q⟩
    unfold fTurns
    rw [h1]; dsimp only; rw [h2]; dsimp only; rw [h3]
    exact e
noncomputable def Ext (k : Nat) (gs gs' : List Mk) : Prop := ∃ r, gs' = gs ++ r ∧ r.length ≤ k
theorem Ext.refl (gs : List Mk) : Ext 0 gs gs := ⟨[], by simp, by simp⟩
theorem Ext.trans {a b : Nat} {gs g1 g2 : List Mk} (x : Ext a gs g1) (y : Ext b g1 g2) : Ext (a + b) gs g2 := by
  obtain ⟨r, rfl, h1⟩ := x
  obtain ⟨r', rfl, h2⟩ := y
  exact ⟨r ++ r', by simp, by rw [List.length_append]; lia⟩
theorem Ext.le {a b : Nat} {gs g1 : List Mk} (x : Ext a gs g1) (h : a ≤ b) : Ext b gs g1 := by
  obtain ⟨r, e, l⟩ := x; exact ⟨r, e, by lia⟩
theorem Ext.len {a : Nat} {gs g1 : List Mk} (x : Ext a gs g1) : g1.length ≤ gs.length + a := by
  obtain ⟨r, rfl, l⟩ := x; rw [List.length_append]; lia
theorem At.ext {a : Nat} {gs g1 : List Mk} {n : Int} {m : Mk} (h : At gs n m) (x : Ext a gs g1) : At g1 n m := by
  obtain ⟨r, rfl, _⟩ := x; exact h.app r
theorem ext_of {gs gs' : List Mk} {m : Mk} (h : gs' = gs ∨ gs' = gs ++ [m]) : Ext 1 gs gs' := by
  rcases h with h | h
  · exact ⟨[], by simp [h], by simp⟩
  · exact ⟨[m], h, by simp⟩
theorem leaf_ok {G : List M} {h g s : Nat} {gs : List Mk} {w : Int} (S : HG Ψ G h g s gs) (hl : gs.length < 100000) (ho : Ψ (.lf w)) : ∃ n gs' G', F_House_leaf [.im (.ref h), .im (.int w)] G = some (.im (.int n), G') ∧ HG Ψ G' h g s gs' ∧ At gs' n (.leaf w) ∧ Ext 1 gs gs' ∧ Oth g s G G' := by
  obtain ⟨n, gs', G', e, S', a, x, o⟩ := seal_for_ok (m := .leaf w) S hl ho
  have e : F_House_seal_for [.im (.ref h), .im (.tup [.str "leaf", .int w])] G = some (.im (.int n), G') := e
  refine ⟨n, gs', G', ?_, S', a, ext_of x, o⟩
  simp_arith [F_House_leaf, S.ob, n_for, e]
theorem pair_ok {G : List M} {h g s : Nat} {gs : List Mk} {a b : Int} (S : HG Ψ G h g s gs) (hl : gs.length < 100000) (ho : ∃ l r, TrS gs l a ∧ TrS gs r b ∧ Ψ (.pr l r)) : ∃ n gs' G', F_House_pair [.im (.ref h), .im (.int a), .im (.int b)] G = some (.im (.int n), G') ∧ HG Ψ G' h g s gs' ∧ At gs' n (.pair a b) ∧ Ext 1 gs gs' ∧ Oth g s G G' := by
  obtain ⟨n, gs', G', e, S', at_, x, o⟩ := seal_for_ok (m := .pair a b) S hl ho
  have e : F_House_seal_for [.im (.ref h), .im (.tup [.str "pair", .int a, .int b])] G = some (.im (.int n), G') := e
  refine ⟨n, gs', G', ?_, S', at_, ext_of x, o⟩
  simp_arith [F_House_pair, S.ob, n_for, e]
theorem opened_at {G : List M} {h g s : Nat} {gs : List Mk} {n : Int} {m : Mk} (S : HG Ψ G h g s gs) (hn : At gs n m) : F_House_opened [.im (.ref h), .im (.int n)] G = some (.im m.i, G) := by
  obtain ⟨j, rfl, hj⟩ := hn
  have hl : j < gs.length := (List.getElem?_eq_some_iff.mp hj).1
  have h0 : ¬ ((j : Int) + 1 < 1) := by lia
  have h3 : ¬ ((gs.length : Int) < (j : Int) + 1) := by lia
  have h4 : atI (gs.map Mk.i) (j : Int) = some m.i := atI_nat (by rw [List.getElem?_map, hj]; rfl)
  have h5 : (j : Int) + 1 - 1 = j := by lia
  simp_arith [F_House_opened, h0, S.ob, S.gl, lk_g, h3, h4, h5]
theorem many_ok {G : List M} {h g s : Nat} {gs : List Mk} (S : HG Ψ G h g s gs) : F_House_many [.im (.ref h)] G = some (.im (.int gs.length), G) := by
  simp_arith [F_House_many, S.ob, S.gl, lk_g]
theorem s_gs : ¬ (("given" : Str) = "seals") := by decide +kernel
theorem init_ok {G : List M} : F_House_init [.im (.ref G.length)] (G ++ [.obj "House" []]) = some (.im .non, G ++ [.obj "House" (hsI (G.length + 1) (G.length + 2)), .lst [], .dit []]) := by
  simp_arith [F_House_init, putI, hsI, s_gs]
noncomputable def Sl (gs : List Mk) : Nat → Int → List Int → Prop
  | 0, n, ws => ∃ w, ws = [w] ∧ At gs n (.leaf w)
  | d + 1, n, ws => ∃ a b l r, ws = l ++ r ∧ l.length = 2 ^ d ∧ r.length = 2 ^ d ∧ At gs n (.pair a b) ∧ Sl gs d a l ∧ Sl gs d b r
theorem Sl.ext {k : Nat} {gs g1 : List Mk} (x : Ext k gs g1) : ∀ {d : Nat} {n : Int} {ws : List Int}, Sl gs d n ws → Sl g1 d n ws
  | 0, _, _, ⟨w, e, h⟩ => ⟨w, e, h.ext x⟩
  | d + 1, _, _, ⟨a, b, l, r, e, h1, h2, h3, h4, h5⟩ => ⟨a, b, l, r, e, h1, h2, h3.ext x, Sl.ext x h4, Sl.ext x h5⟩
theorem Sl.len {gs : List Mk} : ∀ {d : Nat} {n : Int} {ws : List Int}, Sl gs d n ws → ws.length = 2 ^ d
  | 0, _, _, ⟨w, e, h⟩ => by rw [e]; rfl
  | d + 1, _, _, ⟨a, b, l, r, e, h1, h2, h3, h4, h5⟩ => by rw [e, List.length_append, h1, h2, Nat.pow_succ]; lia
theorem Sl.uniq {gs : List Mk} (nd : gs.Nodup) : ∀ {d : Nat} {n n' : Int} {ws : List Int}, Sl gs d n ws → Sl gs d n' ws → n = n'
  | 0, _, _, _, ⟨w, e, h⟩, ⟨w', e', h'⟩ => by rw [e] at e'; cases e'; exact h.uniq nd h'
  | d + 1, _, _, _, ⟨a, b, l, r, e, h1, h2, h3, h4, h5⟩, ⟨a', b', l', r', e', h1', h2', h3', h4', h5'⟩ => by
    rw [e] at e'
    obtain ⟨rfl, rfl⟩ := List.append_inj e' (by lia)
    have := h4.uniq nd h4'
    have := h5.uniq nd h5'
    subst a' b'
    exact h3.uniq nd h3'
/-- seals of a row's parts, each of depth j -/
inductive Blk (gs : List Mk) (j : Nat) : List Int → List Int → Prop
  | nil : Blk gs j [] []
  | cons {n : Int} {ns ws vs : List Int} : Sl gs j n ws → Blk gs j ns vs → Blk gs j (n :: ns) (ws ++ vs)
theorem Blk.ext {k : Nat} {gs g1 : List Mk} (x : Ext k gs g1) {j : Nat} : ∀ {ns ws : List Int}, Blk gs j ns ws → Blk g1 j ns ws
  | _, _, .nil => .nil
  | _, _, .cons h r => .cons (h.ext x) (r.ext x)
theorem Blk.snoc {gs : List Mk} {j : Nat} : ∀ {ns ws : List Int} {n : Int} {vs : List Int}, Blk gs j ns ws → Sl gs j n vs → Blk gs j (ns ++ [n]) (ws ++ vs)
  | _, _, n, vs, .nil, h => by have := Blk.cons h (.nil (gs := gs) (j := j)); simpa using this
  | _, _, n, vs, .cons h0 r, h => by
    have := Blk.cons h0 (r.snoc h)
    simpa using this
theorem Blk.len {gs : List Mk} {j : Nat} : ∀ {ns ws : List Int}, Blk gs j ns ws → ws.length = ns.length * 2 ^ j
  | _, _, .nil => by simp
  | _, _, .cons h r => by rw [List.length_append, h.len, r.len, List.length_cons, Nat.succ_mul]; lia
theorem Blk.two {gs : List Mk} {j : Nat} {n n' : Int} {ns ws : List Int} (h : Blk gs j (n :: n' :: ns) ws) : ∃ l r t, ws = l ++ (r ++ t) ∧ Sl gs j n l ∧ Sl gs j n' r ∧ Blk gs j ns t := by
  cases h with
  | cons h1 h2 => cases h2 with
    | cons h2 h3 => exact ⟨_, _, _, rfl, h1, h2, h3⟩
/-- the tree of a row of 2 ^ d words -/
noncomputable def mkT : Nat → List Int → Tr
  | 0, ws => .lf (ws.headD 0)
  | d + 1, ws => .pr (mkT d (ws.take (2 ^ d))) (mkT d (ws.drop (2 ^ d)))
theorem mkT_app {d : Nat} {l r : List Int} (hl : l.length = 2 ^ d) : mkT (d + 1) (l ++ r) = .pr (mkT d l) (mkT d r) := by
  simp only [mkT]
  rw [List.take_left' hl, List.drop_left' hl]
theorem Sl.tr {gs : List Mk} : ∀ {d : Nat} {n : Int} {ws : List Int}, Sl gs d n ws → TrS gs (mkT d ws) n
  | 0, _, _, ⟨w, e, h⟩ => by subst e; exact h
  | d + 1, _, _, ⟨a, b, l, r, e, h1, h2, h3, h4, h5⟩ => by
    subst e
    rw [mkT_app h1]
    exact ⟨a, b, h3, h4.tr, h5.tr⟩
/-- the trees of all blocks of a row -/
noncomputable def Bks (Ψ : Tr → Prop) (ws : List Int) : Prop := ∀ j i : Nat, i * 2 ^ j + 2 ^ j ≤ ws.length → Ψ (mkT j ((ws.drop (i * 2 ^ j)).take (2 ^ j)))
theorem Bks.leaf {ws : List Int} (h : Bks Ψ ws) {i : Nat} (hi : i < ws.length) : Ψ (.lf ws[i]) := by
  have := h 0 i (by simp; lia)
  simp only [Nat.pow_zero, Nat.mul_one, mkT] at this
  rw [List.drop_eq_getElem_cons hi] at this
  exact this
theorem Bks.pair {dn l r t : List Int} {j i : Nat} (h : Bks Ψ (dn ++ (l ++ (r ++ t)))) (hd : dn.length = i * 2 ^ (j + 1)) (hl : l.length = 2 ^ j) (hr : r.length = 2 ^ j) : Ψ (.pr (mkT j l) (mkT j r)) := by
  have p2 : 2 ^ (j + 1) = 2 ^ j + 2 ^ j := by rw [Nat.pow_succ]; lia
  have q := h (j + 1) i (by rw [List.length_append, List.length_append, List.length_append, hd, hl, hr]; lia)
  rw [List.drop_left' hd, ← List.append_assoc l, List.take_left' (by rw [List.length_append, hl, hr, p2]), mkT_app hl] at q
  exact q
end
section
variable {Ψ : Tr → Prop}
theorem pickI_even {xs : List I} {m : Nat} (h : xs.length = 2 * m) : (pickI xs none none (some 2)).length = m ∧ ∀ k, k < m → (pickI xs none none (some 2))[k]? = xs[2 * k]? := by
  have e : pickI xs none none (some 2) = ((List.range m).map fun k => 2 * k).filterMap (xs[·]?) := by
    unfold pickI sliceRange
    have c : (if (2 : Int) > 0 then (if (0 : Int) < (xs.length : Int) then ((xs.length : Int) - 0 + 2 - 1) / 2 else 0) else (if (0 : Int) > (xs.length : Int) then (0 - (xs.length : Int) - 2 - 1) / (-2) else 0)).toNat = m := by
      rw [if_pos (by decide), h]
      split <;> lia
    show ((List.range (if (2 : Int) > 0 then (if (0 : Int) < (xs.length : Int) then ((xs.length : Int) - 0 + 2 - 1) / 2 else 0) else (if (0 : Int) > (xs.length : Int) then (0 - (xs.length : Int) - 2 - 1) / (-2) else 0)).toNat).map fun (k : Nat) => (0 + 2 * (k : Int)).toNat).filterMap (xs[·]?) = _
    rw [c]
    congr 2
    funext k
    lia
  rw [e]
  exact pick_of fun k hk => by lia
theorem pickI_odd {xs : List I} {m : Nat} (h : xs.length = 2 * m) (hm : 0 < m) : (pickI xs (some 1) none (some 2)).length = m ∧ ∀ k, k < m → (pickI xs (some 1) none (some 2))[k]? = xs[2 * k + 1]? := by
  have e : pickI xs (some 1) none (some 2) = ((List.range m).map fun k => 2 * k + 1).filterMap (xs[·]?) := by
    unfold pickI
    have b1 : (sliceBounds (some 1) none (some 2) xs.length) = (1, (xs.length : Int), 2) := by
      unfold sliceBounds
      show (max 0 (min (if (1 : Int) < 0 then 1 + (xs.length : Int) else 1) (xs.length : Int)), (xs.length : Int), (2 : Int)) = _
      rw [if_neg (by decide)]
      congr 1
      lia
    rw [b1]
    unfold sliceRange
    have c : (if (2 : Int) > 0 then (if (1 : Int) < (xs.length : Int) then ((xs.length : Int) - 1 + 2 - 1) / 2 else 0) else (if (1 : Int) > (xs.length : Int) then (1 - (xs.length : Int) - 2 - 1) / (-2) else 0)).toNat = m := by
      rw [if_pos (by decide), h]
      split <;> lia
    show ((List.range (if (2 : Int) > 0 then (if (1 : Int) < (xs.length : Int) then ((xs.length : Int) - 1 + 2 - 1) / 2 else 0) else (if (1 : Int) > (xs.length : Int) then (1 - (xs.length : Int) - 2 - 1) / (-2) else 0)).toNat).map fun (k : Nat) => (1 + 2 * (k : Int)).toNat).filterMap (xs[·]?) = _
    rw [c]
    congr 2
    funext k
    lia
  rw [e]
  exact pick_of fun k hk => by lia
structure Mor (g s : Nat) (G G' : List M) : Prop where
  len : G.length ≤ G'.length
  at_ : ∀ k, k < G.length → k ≠ g → k ≠ s → G'[k]? = G[k]?
theorem Mor.refl (g s : Nat) (G : List M) : Mor g s G G := ⟨Nat.le_refl _, fun _ _ _ _ => rfl⟩
theorem Mor.trans {g s : Nat} {G G1 G2 : List M} (x : Mor g s G G1) (y : Mor g s G1 G2) : Mor g s G G2 := ⟨Nat.le_trans x.len y.len, fun k h h1 h2 => (y.at_ k (Nat.lt_of_lt_of_le h x.len) h1 h2).trans (x.at_ k h h1 h2)⟩
theorem Oth.mor {g s : Nat} {G G' : List M} (o : Oth g s G G') : Mor g s G G' := ⟨by rw [o.len]; exact Nat.le_refl _, fun k _ h1 h2 => o.at_ k h1 h2⟩
theorem Mor.app {g s : Nat} {G : List M} (T : List M) : Mor g s G (G ++ T) := ⟨by rw [List.length_append]; lia, fun k h _ _ => List.getElem?_append_left h⟩
theorem HG.lt {G : List M} {h g s : Nat} {gs : List Mk} (S : HG Ψ G h g s gs) : h < G.length ∧ g < G.length ∧ s < G.length := ⟨(List.getElem?_eq_some_iff.mp S.ob).1, (List.getElem?_eq_some_iff.mp S.gl).1, (List.getElem?_eq_some_iff.mp S.sd).1⟩
theorem HG.app {G : List M} {h g s : Nat} {gs : List Mk} (S : HG Ψ G h g s gs) (T : List M) : HG Ψ (G ++ T) h g s gs := by
  obtain ⟨l1, l2, l3⟩ := S.lt
  exact ⟨by rw [List.getElem?_append_left l1]; exact S.ob, by rw [List.getElem?_append_left l2]; exact S.gl, by rw [List.getElem?_append_left l3]; exact S.sd, S.n1, S.n2, S.n3, S.nd, S.cl⟩
theorem lsW_n (e : Ev) (n : Nat) : (lsW e n).n = n := rfl
theorem zipW_n (a b : Ev) (n : Nat) : (zipW a b n).n = n := rfl
theorem seal_leaves {G : List M} {h g s : Nat} {gs : List Mk} {ws : List Int} (S : HG Ψ G h g s gs) (hl : gs.length + ws.length < 90000) (bk : Bks Ψ ws) : ∃ ns gs' G',
    compF (itF (one (varF 1)) seqP) [0] c1 yesF (methF "House" "leaf" 2 F_House_leaf (varF 1) (consF (varF 0) nilF)) [some (.im (.ref h)), some (.im (.tup (ws.map I.int))), none] G = some (.v (.ow (.lst (ns.map I.int))), [some (.im (.ref h)), some (.im (.tup (ws.map I.int))), none], G') ∧
    HG Ψ G' h g s gs' ∧ Ext ws.length gs gs' ∧ Blk gs' 0 ns ws ∧ Oth g s G G' := by
  obtain ⟨ds, G', e, ns, gs', S', x, ed, bl, o⟩ := cT_inv (w := lsW (.v (.im (.tup (ws.map I.int)))) (ws.map I.int).length) (c := c1) (tt := yesF) (te := methF "House" "leaf" 2 F_House_leaf (varF 1) (consF (varF 0) nilF)) (di := [some (.im (.ref h))]) (δ := [some (.im (.ref h)), some (.im (.tup (ws.map I.int))), none])
    (fun i acc G' => ∃ ns gs', HG Ψ G' h g s gs' ∧ Ext i gs gs' ∧ acc = ns.map I.int ∧ Blk gs' 0 ns (ws.take i) ∧ Oth g s G G')
    (fun i acc G1 hi ⟨ns, gs1, S1, x1, ea, bl, o⟩ => by
      have hi' : i < ws.length := by simpa [lsW] using hi
      have x1l := x1.len
      obtain ⟨n, gs2, G2, e2, S2, a2, x2, o2⟩ := leaf_ok (w := ws[i]) S1 (by lia) (bk.leaf hi')
      refine ⟨.int ws[i], [.int ws[i]], _, _, .int n, [some (.im (.int ws[i])), some (.im (.ref h))], G2, ?_, rfl, rfl, ?_, ns ++ [n], gs2, S2, x1.trans x2, by rw [ea, List.map_append]; rfl, ?_, o.trans o2⟩
      · simp [lsW, sq, hi']
      · simp_arith [S1.ob, n_leaf, e2]
      · rw [List.take_add_one, List.getElem?_eq_getElem hi']
        exact (bl.ext x2).snoc ⟨ws[i], rfl, a2⟩)
    (fun acc G' _ => by simp [lsW, sq]) ws.length 0 [] G (by simp [lsW]) ⟨[], gs, S, Ext.refl gs, rfl, by simpa using Blk.nil, Oth.refl _ _ _⟩
  have hw : (lsW (.v (.im (.tup (ws.map I.int)))) (ws.map I.int).length).n = ws.length := by simp [lsW]
  rw [hw] at x bl
  rw [List.take_length] at bl
  refine ⟨ns, gs', G', ?_, S', x, bl, o⟩
  rw [ed] at e
  have hle : ws.length ≤ 100000 := by lia
  simp only [List.length_map] at e
  simp [compF, boxS, itF, one, bd, varF, rt, seqP, lsP, isL, tpP, lsW_n, hle, inD, inD1, e]
theorem seal_level {G : List M} {h g s j m : Nat} {gs : List Mk} {ns ws : List Int} {v : I} (S : HG Ψ G h g s gs) (bl : Blk gs j ns ws) (hm : ns.length = 2 * m) (m0 : 0 < m) (hl : gs.length + m < 90000) (bk : Bks Ψ ws) : ∃ ms gs' G',
    F_seal_of_w1b [some (.im (.ref h)), some (.im v), some (.ow (.lst (ns.map I.int)))] G = some (.nx [some (.im (.ref h)), some (.im v), some (.ow (.lst (ms.map I.int)))] G') ∧
    HG Ψ G' h g s gs' ∧ Ext m gs gs' ∧ Blk gs' (j + 1) ms ws ∧ ms.length = m ∧ Mor g s G G' := by
  obtain ⟨l1, l2, l3⟩ := S.lt
  have pe := pickI_even (xs := ns.map I.int) (m := m) (by simpa using hm)
  have po := pickI_odd (xs := ns.map I.int) (m := m) (by simpa using hm) m0
  obtain ⟨ev, hev⟩ : ∃ ev, pickI (ns.map I.int) none none (some 2) = ev := ⟨_, rfl⟩
  obtain ⟨od, hod⟩ : ∃ od, pickI (ns.map I.int) (some 1) none (some 2) = od := ⟨_, rfl⟩
  rw [hev] at pe
  rw [hod] at po
  have G0e : (G ++ [.lst ev] ++ [.lst od])[G.length]? = some (.lst ev) := by simp
  have G0o : (G ++ [.lst ev] ++ [.lst od])[G.length + 1]? = some (.lst od) := by simp
  obtain ⟨ds, G', e, ms, gs', dn, td, S', x, ed, ew, b1, b2, lm, o⟩ := cT_inv (w := zipW (.v (.im (.ref G.length))) (.v (.im (.ref (G.length + 1)))) m) (c := cN 2) (tt := yesF) (te := methF "House" "pair" 3 F_House_pair (varF 2) (consF (varF 0) (consF (varF 1) nilF))) (di := [some (.im (.ref h))]) (δ := [some (.im (.ref h)), some (.im v), some (.ow (.lst (ns.map I.int)))])
    (fun i acc G' => ∃ ms gs' dn td, HG Ψ G' h g s gs' ∧ Ext i gs gs' ∧ acc = ms.map I.int ∧ ws = dn ++ td ∧ Blk gs' (j + 1) ms dn ∧ Blk gs' j (ns.drop (2 * i)) td ∧ ms.length = i ∧ Oth g s (G ++ [.lst ev] ++ [.lst od]) G')
    (fun i acc G1 hi ⟨ms, gs1, dn, td, S1, x1, ea, ew, b1, b2, lm, o⟩ => by
      have hi' : i < m := hi
      have x1l := x1.len
      have i1 : 2 * i < ns.length := by lia
      have i2 : 2 * i + 1 < ns.length := by lia
      have ed : ns.drop (2 * i) = ns[2 * i] :: ns[2 * i + 1] :: ns.drop (2 * (i + 1)) := by
        rw [List.drop_eq_getElem_cons i1, List.drop_eq_getElem_cons i2]
        congr 3
      rw [ed] at b2
      obtain ⟨l, r, t, et, s1, s2, bt⟩ := b2.two
      obtain ⟨n, gs2, G2, e2, S2, a2, x2, o2⟩ := pair_ok (a := ns[2 * i]) (b := ns[2 * i + 1]) S1 (by lia) ⟨_, _, s1.tr, s2.tr, (show Bks Ψ (dn ++ (l ++ (r ++ t))) from by rw [← et, ← ew]; exact bk).pair (i := i) (by rw [b1.len, lm]) s1.len s2.len⟩
      have oe : G1[G.length]? = some (.lst ev) := by rw [o.at_ _ (by lia) (by lia)]; exact G0e
      have oo : G1[G.length + 1]? = some (.lst od) := by rw [o.at_ _ (by lia) (by lia)]; exact G0o
      have ve : ev[i]? = some (.int ns[2 * i]) := by rw [pe.2 i hi', List.getElem?_map, List.getElem?_eq_getElem i1]; rfl
      have vo : od[i]? = some (.int ns[2 * i + 1]) := by rw [po.2 i hi', List.getElem?_map, List.getElem?_eq_getElem i2]; rfl
      refine ⟨.tup [.int ns[2 * i], .int ns[2 * i + 1]], [.int ns[2 * i], .int ns[2 * i + 1]], _, _, .int n, [some (.im (.int ns[2 * i])), some (.im (.int ns[2 * i + 1])), some (.im (.ref h))], G2, ?_, rfl, rfl, ?_, ms ++ [n], gs2, dn ++ (l ++ r), t, S2, x1.trans x2, by rw [ea, List.map_append]; rfl, by rw [ew, et]; simp, ?_, bt.ext x2, by rw [List.length_append, lm]; rfl, o.trans o2⟩
      · simp [zipW, sq, pk, oe, oo, ve, vo]
      · simp_arith [S1.ob, n_pair, e2]
      · exact (b1.ext x2).snoc ⟨_, _, l, r, rfl, s1.len, s2.len, a2, s1.ext x2, s2.ext x2⟩)
    (fun acc G1 ⟨ms, gs1, dn, td, S1, x1, ea, ew, b1, b2, lm, o⟩ => by
      have oe : G1[G.length]? = some (.lst ev) := by rw [o.at_ _ (by lia) (by lia)]; exact G0e
      have oo : G1[G.length + 1]? = some (.lst od) := by rw [o.at_ _ (by lia) (by lia)]; exact G0o
      simp [zipW, sq, pk, oe, oo, pe.1, po.1]) m 0 [] (G ++ [.lst ev] ++ [.lst od]) (by simp [zipW])
    ⟨[], gs, [], ws, (S.app _).app _, Ext.refl gs, rfl, rfl, .nil, bl, rfl, Oth.refl _ _ _⟩
  rw [zipW_n] at x b2 lm
  have hd : ns.drop (2 * m) = [] := by rw [List.drop_eq_nil_iff]; lia
  rw [hd] at b2
  have htd : td = [] := by cases b2; rfl
  subst htd
  rw [List.append_nil] at ew
  subst ew
  refine ⟨ms, gs', G', ?_, S', x, b1, lm, ?_⟩
  · rw [ed] at e
    have hle : m ≤ 100000 := by lia
    have e2 : min ev.length od.length = m := by rw [pe.1, po.1, Nat.min_self]
    have e : cTurns (zipW (.v (.im (.ref G.length))) (.v (.im (.ref (G.length + 1)))) m) (cN 2) yesF (methF "House" "pair" 3 F_House_pair (varF 2) (consF (varF 0) (consF (varF 1) nilF))) [some (.im (.ref h))] 0 m [] [some (.im (.ref h)), some (.im v), some (.ow (.lst (ns.map I.int)))] (G ++ [.lst ev, .lst od]) = some (ms.map I.int, G') := by simpa using e
    simp only [consF, nilF] at e
    simp [F_seal_of_w1b, asgF, movF, gNm, mvE, compF, boxS, itF, consF, nilF, boxF, bxE, stpF, one, noPt, somePt, conF, ptE, notT, bd, varF, rt, zipP, isL, sq, pk, zipW_n, hle, inD, inD1, hev, hod, e2, e]
  · have q : Mor g s G (G ++ [.lst ev] ++ [.lst od]) := by rw [List.append_assoc]; exact Mor.app _
    exact q.trans o.mor
theorem seal_wh {h g s : Nat} {v : I} {ws : List Int} : ∀ (k : Nat) {G : List M} {j : Nat} {gs : List Mk} {ns : List Int}, HG Ψ G h g s gs → Blk gs j ns ws → ns.length = 2 ^ k → gs.length + 2 ^ k < 90000 → Bks Ψ ws → ∃ n gs' G', whF F_seal_of_w1c F_seal_of_w1b [some (.im (.ref h)), some (.im v), some (.ow (.lst (ns.map I.int)))] G = some (.nx [some (.im (.ref h)), some (.im v), some (.ow (.lst [.int n]))] G') ∧ HG Ψ G' h g s gs' ∧ Ext (2 ^ k) gs gs' ∧ Sl gs' (j + k) n ws ∧ Mor g s G G'
  | 0, G, j, gs, ns, S, bl, hn, hl, bk => by
    match ns, hn with
    | [n], _ =>
      cases bl with
      | cons s1 b1 =>
        cases b1
        refine ⟨n, gs, G, whF_done ?_, S, (Ext.refl gs).le (by simp), by rw [List.append_nil]; exact s1, Mor.refl _ _ _⟩
        simp_arith [F_seal_of_w1c]
  | k + 1, G, j, gs, ns, S, bl, hn, hl, bk => by
    have p0 : 0 < 2 ^ k := Nat.two_pow_pos k
    have hn2 : ns.length = 2 * 2 ^ k := by rw [hn, Nat.pow_succ]; lia
    rw [Nat.pow_succ] at hl
    obtain ⟨ms, g1, G1, e1, S1, x1, b1, lm, o1⟩ := seal_level (v := v) S bl hn2 p0 (by lia) bk
    have x1l := x1.len
    obtain ⟨n, g2, G2, e2, S2, x2, sl, o2⟩ := seal_wh k S1 b1 lm (by lia) bk
    refine ⟨n, g2, G2, ?_, S2, (x1.trans x2).le (by rw [Nat.pow_succ]; lia), by rw [show j + (k + 1) = j + 1 + k by lia]; exact sl, o1.trans o2⟩
    rw [whF_next ?_ e1]
    · exact e2
    · have : (1 : Int) < (ns.length : Int) := by lia
      simp_arith [F_seal_of_w1c, this]
theorem seal_of_ok {G : List M} {h g s d : Nat} {gs : List Mk} {ws : List Int} (S : HG Ψ G h g s gs) (hw : ws.length = 2 ^ d) (hd : d ≤ 6) (hl : gs.length < 80000) (bk : Bks Ψ ws) : ∃ n gs' G', F_seal_of [.im (.ref h), .im (.tup (ws.map I.int))] G = some (.im (.int n), G') ∧ HG Ψ G' h g s gs' ∧ Ext 128 gs gs' ∧ Sl gs' d n ws ∧ Mor g s G G' := by
  have p6 : (2 : Nat) ^ d ≤ 2 ^ 6 := Nat.pow_le_pow_right (by decide) hd
  have p6 : 2 ^ d ≤ 64 := p6
  obtain ⟨ns, g1, G1, e1, S1, x1, b1, o1⟩ := seal_leaves (ws := ws) S (by lia) bk
  have x1l := x1.len
  have ln : ns.length = 2 ^ d := by have := b1.len; simp at this; lia
  obtain ⟨n, g2, G2, e2, S2, x2, sl, o2⟩ := seal_wh (v := .tup (ws.map I.int)) d S1 b1 ln (by lia) bk
  refine ⟨n, g2, G2, ?_, S2, (x1.trans x2).le (by lia), by simpa using sl, o1.mor.trans o2⟩
  have h4 : atI [I.int n] 0 = some (.int n) := rfl
  simp [F_seal_of, runF, seqF, asgF, movF, bd, mvE, rt, gNm, e1, e2, retF, opF, ixP, orP, ixS, sq, pk, varF, conF, h4]
theorem at0 {α : Type} (x : α) (r : List α) : atI (x :: r) 0 = some x := atI_nat (j := 0) rfl
theorem at1 {α : Type} (x y : α) (r : List α) : atI (x :: y :: r) 1 = some y := atI_nat (j := 1) rfl
theorem at2 {α : Type} (x y z : α) (r : List α) : atI (x :: y :: z :: r) 2 = some z := atI_nat (j := 2) rfl
end
section
variable {Ψ : Tr → Prop}
theorem cut_lo {xs : List I} {m : Nat} : cutI xs none (some (m : Int)) = xs.take m := by
  unfold cutI
  rw [HT.sIx_none, HT.sIx_nat, List.drop_zero, Nat.sub_zero]
  by_cases h : m ≤ xs.length
  · rw [Nat.min_eq_left h]
  · rw [Nat.min_eq_right (by lia), List.take_of_length_le (Nat.le_refl _), List.take_of_length_le (by lia)]
theorem cut_hi {xs : List I} {m : Nat} (h : m ≤ xs.length) : cutI xs (some (m : Int)) none = xs.drop m := by
  unfold cutI
  rw [HT.sIx_none, HT.sIx_nat, Nat.min_eq_left h]
  rw [List.take_of_length_le (by rw [List.length_drop]; lia)]
theorem DG.lt {d l : Nat} {G : List M} (D : DG G d l) : d < G.length ∧ l < G.length := by
  obtain ⟨a, n, ms, D⟩ := D
  exact ⟨(List.getElem?_eq_some_iff.mp D.dc).1, (List.getElem?_eq_some_iff.mp D.lc).1⟩
theorem DG.app {d l : Nat} {G : List M} (D : DG G d l) (T : List M) : DG (G ++ T) d l := by
  obtain ⟨l1, l2⟩ := D.lt
  obtain ⟨a, n, ms, D⟩ := D
  exact ⟨a, n, ms, by rw [List.getElem?_append_left l1]; exact D.dc, by rw [List.getElem?_append_left l2]; exact D.lc, D.ne, D.a0, D.a1, D.n0, D.m0⟩
theorem word_ok {G : List M} {d l : Nat} (D : DG G d l) : ∃ w G', F__law_word [.im (.ref d)] G = some (.im (.int w), G') ∧ DG G' d l ∧ Oth d l G G' := by
  obtain ⟨r1, G1, e1, _, _, D1, o1⟩ := draw_ok (many := 3) D (by decide) (by decide)
  obtain ⟨r2, G2, e2, _, _, D2, o2⟩ := draw_ok (many := 3) D1 (by decide) (by decide)
  obtain ⟨r3, G3, e3, _, _, D3, o3⟩ := draw_ok (many := 4294967296) D2 (by decide) (by decide)
  obtain ⟨r4, G4, e4, p0, p1, D4, o4⟩ := draw_ok (many := 3) D3 (by decide) (by decide)
  have o := ((o1.trans o2).trans o3).trans o4
  rcases (show r4 = 0 ∨ r4 = 1 ∨ r4 = 2 by lia) with z | z | z
  · subst z
    exact ⟨r1, G4, by simp_arith [F__law_word, e1, e2, e3, e4, at0], D4, o⟩
  · subst z
    exact ⟨_, G4, by simp_arith [F__law_word, e1, e2, e3, e4, at1]; rfl, D4, o⟩
  · subst z
    exact ⟨r3, G4, by simp_arith [F__law_word, e1, e2, e3, e4, at2], D4, o⟩
theorem row_few {G : List M} {d l : Nat} {n : Nat} {δ : De} (D : DG G d l) : ∃ (fs : List Int) (G' : List M), cTurns (upW n) c1 yesF (bd (consF (varF 1) nilF) (callP 1 F__law_word)) [some (.im (.ref d))] 0 n [] δ G = some (fs.map I.int, G') ∧ fs.length = n ∧ DG G' d l ∧ Oth d l G G' := by
  obtain ⟨ds, G', e, fs, ed, lf, D', o⟩ := cT_inv (w := upW n) (c := c1) (tt := yesF) (te := bd (consF (varF 1) nilF) (callP 1 F__law_word)) (di := [some (.im (.ref d))]) (δ := δ)
    (fun i acc G' => ∃ fs : List Int, acc = fs.map I.int ∧ fs.length = i ∧ DG G' d l ∧ Oth d l G G')
    (fun i acc G1 hi ⟨fs, ea, lf, D1, o⟩ => by
      obtain ⟨w, G2, e2, D2, o2⟩ := word_ok D1
      refine ⟨.int i, [.int i], _, _, .int w, [some (.im (.int i)), some (.im (.ref d))], G2, rfl, rfl, rfl, ?_, fs ++ [w], by rw [ea, List.map_append]; rfl, by rw [List.length_append, lf]; rfl, D2, o.trans o2⟩
      simp_arith [e2])
    (fun _ _ _ => rfl) n 0 [] G (by simp [upW]) ⟨[], rfl, rfl, D, Oth.refl _ _ _⟩
  exact ⟨fs, G', by rw [ed] at e; exact e, lf, D', o⟩
theorem row_found {G : List M} {d l f : Nat} {n : Nat} {δ : De} {few : List Int} (D : DG G d l) (hf : G[f]? = some (.lst (few.map I.int))) (h0 : 0 < few.length) (h1 : few.length ≤ 1000) (nd : f ≠ d) (nl : f ≠ l) : ∃ (fs : List Int) (G' : List M), cTurns (upW n) c1 yesF (opF ixP (varF 1) (bd (consF (varF 2) (consF (bd (consF (varF 1) nilF) lenP) nilF)) (callP 2 F__law_draw))) [some (.im (.ref f)), some (.im (.ref d))] 0 n [] δ G = some (fs.map I.int, G') ∧ fs.length = n ∧ DG G' d l ∧ Oth d l G G' := by
  obtain ⟨ds, G', e, fs, ed, lf, D', o⟩ := cT_inv (w := upW n) (c := c1) (tt := yesF) (te := opF ixP (varF 1) (bd (consF (varF 2) (consF (bd (consF (varF 1) nilF) lenP) nilF)) (callP 2 F__law_draw))) (di := [some (.im (.ref f)), some (.im (.ref d))]) (δ := δ)
    (fun i acc G' => ∃ fs : List Int, acc = fs.map I.int ∧ fs.length = i ∧ DG G' d l ∧ Oth d l G G')
    (fun i acc G1 hi ⟨fs, ea, lf, D1, o⟩ => by
      obtain ⟨r, G2, e2, r0, r1, D2, o2⟩ := draw_ok (many := few.length) D1 (by lia) (Int.lt_of_le_of_lt (Int.ofNat_le.mpr h1) (by decide))
      have f1 : G1[f]? = some (.lst (few.map I.int)) := by rw [o.at_ f nd nl]; exact hf
      have f2 : G2[f]? = some (.lst (few.map I.int)) := by rw [o2.at_ f nd nl]; exact f1
      obtain ⟨j, rfl⟩ := Int.eq_ofNat_of_zero_le r0
      have hj : j < few.length := by lia
      have ha : atI (few.map I.int) (j : Int) = some (.int few[j]) := atI_nat (by rw [List.getElem?_map, List.getElem?_eq_getElem hj]; rfl)
      refine ⟨.int i, [.int i], _, _, .int few[j], [some (.im (.int i)), some (.im (.ref f)), some (.im (.ref d))], G2, rfl, rfl, rfl, ?_, fs ++ [few[j]], by rw [ea, List.map_append]; rfl, by rw [List.length_append, lf]; rfl, D2, o.trans o2⟩
      simp_arith [f1, f2, e2, ha])
    (fun _ _ _ => rfl) n 0 [] G (by simp [upW]) ⟨[], rfl, rfl, D, Oth.refl _ _ _⟩
  exact ⟨fs, G', by rw [ed] at e; exact e, lf, D', o⟩
theorem row_form {G : List M} {f : Nat} {n : Nat} {δ : De} {few : List Int} {w0 : Int} (hf : G[f]? = some (.lst (few.map I.int))) (h0 : few[0]? = some w0) : ∃ fs : List Int, cTurns (upW n) c1 yesF (opF modP (opF addP (opF ixP (varF 1) (conF (.int 0))) (opF mulP (conF (.int 5)) (varF 0))) (conF (.int 4294967296))) [some (.im (.ref f))] 0 n [] δ G = some (fs.map I.int, G) ∧ fs.length = n := by
  obtain ⟨ds, G', e, fs, ed, lf, eg⟩ := cT_inv (w := upW n) (c := c1) (tt := yesF) (te := opF modP (opF addP (opF ixP (varF 1) (conF (.int 0))) (opF mulP (conF (.int 5)) (varF 0))) (conF (.int 4294967296))) (di := [some (.im (.ref f))]) (δ := δ)
    (fun i acc G' => ∃ fs : List Int, acc = fs.map I.int ∧ fs.length = i ∧ G' = G)
    (fun i acc G1 hi ⟨fs, ea, lf, o⟩ => by
      subst o
      have ha : atI (few.map I.int) 0 = some (.int w0) := atI_nat (j := 0) (by rw [List.getElem?_map, h0]; rfl)
      refine ⟨.int i, [.int i], _, _, .int ((w0 + 5 * i) % 4294967296), [some (.im (.int i)), some (.im (.ref f))], G1, rfl, rfl, rfl, ?_, fs ++ [(w0 + 5 * i) % 4294967296], by rw [ea, List.map_append]; rfl, by rw [List.length_append, lf]; rfl, rfl⟩
      simp_arith [hf, ha])
    (fun _ _ _ => rfl) n 0 [] G (by simp [upW]) ⟨[], rfl, rfl, rfl⟩
  exact ⟨fs, by rw [ed, eg] at e; exact e, lf⟩
theorem row_ok {G : List M} {d l dp : Nat} (D : DG G d l) (hd : dp ≤ 6) : ∃ (ws : List Int) (G' : List M), F__law_row [.im (.ref d), .im (.int dp)] G = some (.im (.tup (ws.map I.int)), G') ∧ ws.length = 2 ^ dp ∧ DG G' d l ∧ Mor d l G G' := by
  obtain ⟨N, hN⟩ : ∃ N, 2 ^ dp = N := ⟨_, rfl⟩
  obtain ⟨r0, G0, e0, z0, z1, D0, o0⟩ := draw_ok (many := 4) D (by decide) (by decide)
  obtain ⟨c, rfl⟩ := Int.eq_ofNat_of_zero_le z0
  obtain ⟨few, G1, e1, lf, D1, o1⟩ := row_few (n := 1 + c) (δ := [some (.im (.ref d)), some (.im (.int dp)), none, none, none]) D0
  obtain ⟨k1, k2⟩ := D1.lt
  have hf : (G1 ++ [.lst (few.map I.int)])[G1.length]? = some (.lst (few.map I.int)) := by simp
  obtain ⟨fs, G2, e2, l2, D2, o2⟩ := row_found (n := N) (δ := [some (.im (.ref d)), some (.im (.int dp)), some (.im (.ref G1.length)), none, none]) (D1.app [.lst (few.map I.int)]) hf (by lia) (by lia) (by lia) (by lia)
  obtain ⟨r3, G3, e3, y0, y1, D3, o3⟩ := draw_ok (many := 4) D2 (by decide) (by decide)
  have o : Mor d l G G3 := ((o0.trans o1).mor.trans (Mor.app _)).trans (o2.trans o3).mor
  have hf3 : G3[G1.length]? = some (.lst (few.map I.int)) := by rw [(o2.trans o3).at_ _ (by lia) (by lia)]; exact hf
  have p6 : (2 : Nat) ^ dp ≤ 2 ^ 6 := Nat.pow_le_pow_right (by decide) hd
  have p6 : 2 ^ dp ≤ 64 := p6
  rw [hN] at p6 ⊢
  have q1 : (2 : Int) ^ dp = (N : Int) := by rw [← hN]; push_cast; rfl
  have q5 : (dp : Int) ≤ 1000000 := by lia
  have sh : ∀ (δ : De) (G : List M), opF shlP (conF (.int 1)) (varF 1) (some (.im (.ref d)) :: some (.im (.int dp)) :: δ) G = some (.v (.im (.int (N : Int))), some (.im (.ref d)) :: some (.im (.int dp)) :: δ, G) := fun δ G => by
    simp_arith [q5, q1]
  have go : ∀ (fs' : List Int), fs'.length = N → (iteF' (andF (tstF (opF gtP (varF 1) (conF (.int 0)))) (tstF (opF eqP (varF 4) (conF (.int 0)))))
      (asgF (opF mulP (sliF (varF 3) noPt (somePt (opF fdivP (opF shlP (conF (.int 1)) (varF 1)) (conF (.int 2))))) (conF (.int 2))) (gNm 3)) skipF) [some (.im (.ref d)), some (.im (.int dp)), some (.im (.ref G1.length)), some (.ow (.lst (fs.map I.int))), some (.im (.int r3))] G3 = some (.nx [some (.im (.ref d)), some (.im (.int dp)), some (.im (.ref G1.length)), some (.ow (.lst (fs'.map I.int))), some (.im (.int r3))] G3) → ∃ (ws : List Int) (G' : List M), F__law_row [.im (.ref d), .im (.int dp)] G = some (.im (.tup (ws.map I.int)), G') ∧ ws.length = N ∧ DG G' d l ∧ Mor d l G G' := fun fs' lfs' hfs => by
    have head : ∀ (ws : List Int), seqF (iteF' (tstF (opF eqP (varF 4) (conF (.int 1))))
        (asgF (compF (itF (consF (opF shlP (conF (.int 1)) (varF 1)) nilF) rng1P) [2] c1 yesF (opF modP (opF addP (opF ixP (varF 1) (conF (.int 0))) (opF mulP (conF (.int 5)) (varF 0))) (conF (.int 4294967296)))) (gNm 3))
        skipF)
        (retF (bd (consF (varF 3) nilF) tupleP)) [some (.im (.ref d)), some (.im (.int dp)), some (.im (.ref G1.length)), some (.ow (.lst (fs'.map I.int))), some (.im (.int r3))] G3 = some (.rt (.im (.tup (ws.map I.int))) G3) → F__law_row [.im (.ref d), .im (.int dp)] G = some (.im (.tup (ws.map I.int)), G3) := fun ws hw => by
      refine run_rt rfl ?_
      refine seq_go (asg_go (comp_go (δ0 := [some (.im (.ref d)), some (.im (.int dp)), none, none, none]) (by rfl) (rng_it (n := 1 + c) (j := 1 + (c : Int)) (δ1 := [some (.im (.ref d)), some (.im (.int dp)), none, none, none]) (G1 := G0) ?_ (by lia) (by lia)) (by rw [upW_n]; lia) e1) rfl) ?_
      · simp_arith [e0]
      refine seq_go (asg_go (comp_go (δ0 := [some (.im (.ref d)), some (.im (.int dp)), some (.im (.ref G1.length)), none, none]) (by rfl) (rng_it (n := N) (j := (N : Int)) (δ1 := [some (.im (.ref d)), some (.im (.int dp)), some (.im (.ref G1.length)), none, none]) (G1 := G1 ++ [M.lst (few.map I.int)]) ?_ rfl (by lia)) (by rw [upW_n]; lia) e2) rfl) ?_
      · exact bd_go (sh _ _) rfl
      refine seq_go (asg_go (x := .im (.int r3)) (δ1 := [some (.im (.ref d)), some (.im (.int dp)), some (.im (.ref G1.length)), some (.ow (.lst (fs.map I.int))), none]) (G1 := G3) ?_ rfl) ?_
      · simp_arith [e3]
      exact seq_go hfs hw
    by_cases f1 : r3 = 1
    · obtain ⟨w0, hw0⟩ : ∃ w0, few[0]? = some w0 := ⟨_, List.getElem?_eq_getElem (by lia)⟩
      obtain ⟨gs, e4, l4⟩ := row_form (n := N) (δ := [some (.im (.ref d)), some (.im (.int dp)), some (.im (.ref G1.length)), some (.ow (.lst (fs'.map I.int))), some (.im (.int r3))]) hf3 hw0
      refine ⟨gs, G3, head gs ?_, l4, D3, o⟩
      refine seq_go (ite_t (δ1 := [some (.im (.ref d)), some (.im (.int dp)), some (.im (.ref G1.length)), some (.ow (.lst (fs'.map I.int))), some (.im (.int r3))]) (G1 := G3) (by simp_arith [f1]) (asg_go (comp_go (δ0 := [some (.im (.ref d)), some (.im (.int dp)), some (.im (.ref G1.length)), some (.ow (.lst (fs'.map I.int))), some (.im (.int r3))]) (by rfl) (rng_it (n := N) (j := (N : Int)) (bd_go (sh _ _) rfl) rfl (by lia)) (by rw [upW_n]; lia) e4) rfl)) ?_
      simp_arith [tupleP]
    · refine ⟨fs', G3, head fs' ?_, lfs', D3, o⟩
      refine seq_go (ite_f (δ1 := [some (.im (.ref d)), some (.im (.int dp)), some (.im (.ref G1.length)), some (.ow (.lst (fs'.map I.int))), some (.im (.int r3))]) (G1 := G3) (by simp_arith [f1]) rfl) ?_
      simp_arith [tupleP]
  by_cases f0 : (0 < dp ∧ r3 = 0)
  · obtain ⟨f0, rfl⟩ := f0
    obtain ⟨q, hq⟩ : ∃ q, N = 2 * q := ⟨2 ^ (dp - 1), by rw [← hN]; rw [show dp = (dp - 1) + 1 by lia, Nat.pow_succ]; simp; lia⟩
    have hc : cutI (fs.map I.int) none (some ((q : Int))) = (fs.take q).map I.int := by rw [cut_lo, List.map_take]
    refine go (fs.take q ++ fs.take q) (by rw [List.length_append, List.length_take, l2]; lia) ?_
    refine ite_t (δ1 := [some (.im (.ref d)), some (.im (.int dp)), some (.im (.ref G1.length)), some (.ow (.lst (fs.map I.int))), some (.im (.int 0))]) (G1 := G3) (by simp_arith [f0]) ?_
    refine asg_go (δ1 := [some (.im (.ref d)), some (.im (.int dp)), some (.im (.ref G1.length)), some (.ow (.lst (fs.map I.int))), some (.im (.int 0))]) (G1 := G3) (x := .ow (.lst ((fs.take q ++ fs.take q).map I.int))) ?_ rfl
    have hl : min q fs.length ≤ 1000 := by lia
    refine op_go (x := .v (.ow (.lst ((fs.take q).map I.int)))) (δ1 := [some (.im (.ref d)), some (.im (.int dp)), some (.im (.ref G1.length)), some (.ow (.lst (fs.map I.int))), some (.im (.int 0))]) (G1 := G3) ?_ rfl (by simp_arith [repL, hl])
    refine bd_go rfl (bd_go rfl (bd_go (a := [.v (.im (.int q))]) (δ1 := [some (.im (.ref d)), some (.im (.int dp)), some (.im (.ref G1.length)), some (.ow (.lst (fs.map I.int))), some (.im (.int 0))]) (G1 := G3) (bd_go (op_go (sh _ _) rfl (by unfold fdivP intP; dsimp only; rw [if_pos (by decide), show ((N : Int) / 2) = (q : Int) by lia])) rfl) ?_))
    simp [sliQ, ptE, notT, hc, sq, pk]
  · by_cases f2 : 0 < dp
    · have f3 : ¬ (r3 = 0) := by lia
      exact go fs l2 (by simp_arith [f2, beq_eq_false_iff_ne.mpr f3])
    · exact go fs l2 (by simp_arith [f2])
end
section
variable {Ψ : Tr → Prop}
theorem cT_tst {w : Wk} {c : I → Option (List I)} {tt : Mo Bool} {te : Mo Ev} {di δ : De} (P : Nat → List I → List M → Prop)
    (step : ∀ i acc G, i < w.n → P i acc G → ∃ d ds δa Ga, w.at_ i δ G = some d ∧ c d = some ds ∧ ((tt ((ds.map fun d => some (Vl.im d)) ++ di) G = some (false, δa, Ga) ∧ P (i + 1) acc Ga) ∨ ∃ y δb Gb, tt ((ds.map fun d => some (Vl.im d)) ++ di) G = some (true, δa, Ga) ∧ te δa Ga = some (.v (.im y), δb, Gb) ∧ P (i + 1) (acc ++ [y]) Gb))
    (fin : ∀ acc G, P w.n acc G → w.fin δ G = true) : ∀ (r i : Nat) (acc : List I) (G : List M), i + r = w.n → P i acc G → ∃ ds G', cTurns w c tt te di i r acc δ G = some (ds, G') ∧ P w.n ds G'
  | 0, i, acc, G, h, p => by
    have : i = w.n := by lia
    subst this
    exact ⟨acc, G, by unfold cTurns; rw [fin acc G p]; rfl, p⟩
  | r + 1, i, acc, G, h, p => by
    obtain ⟨d, ds, δa, Ga, h1, h2, z⟩ := step i acc G (by lia) p
    rcases z with ⟨h3, p'⟩ | ⟨y, δb, Gb, h3, h4, p'⟩
    · obtain ⟨ds', G', e, q⟩ := cT_tst P step fin r (i + 1) acc Ga (by lia) p'
      refine ⟨ds', G', ?_, q⟩
      unfold cTurns
      rw [h1]; dsimp only; rw [h2]; dsimp only; rw [h3]
      exact e
    · obtain ⟨ds', G', e, q⟩ := cT_tst P step fin r (i + 1) (acc ++ [y]) Gb (by lia) p'
      refine ⟨ds', G', ?_, q⟩
      unfold cTurns
      rw [h1]; dsimp only; rw [h2]; dsimp only; rw [h3]; dsimp only; rw [h4]
      exact e
theorem cut_map (ns : List Int) (lo hi : Option Int) : ∃ ms : List Int, cutI (ns.map I.int) lo hi = ms.map I.int ∧ ms.length ≤ ns.length := by
  refine ⟨(ns.drop (HT.sIx ns.length 0 lo)).take (HT.sIx ns.length ns.length hi - HT.sIx ns.length 0 lo), ?_, ?_⟩
  · unfold cutI; rw [List.length_map, List.map_take, List.map_drop]
  · rw [List.length_take, List.length_drop]; lia
theorem deal_some {ms : List Int} {δ : De} {G : List M} : ∃ so : List Int, cTurns (lsW (.v (.ow (.lst (ms.map I.int)))) ms.length) c1 yesF (bd (consF (varF 0) (consF (opF subP (conF (.int 0)) (varF 0)) nilF)) max2P) [] 0 ms.length [] δ G = some (so.map I.int, G) ∧ so.length = ms.length ∧ ∀ m ∈ so, 0 ≤ m := by
  obtain ⟨ds, G', e, so, ed, ls, hp, eg⟩ := cT_inv (w := lsW (.v (.ow (.lst (ms.map I.int)))) ms.length) (c := c1) (tt := yesF) (te := bd (consF (varF 0) (consF (opF subP (conF (.int 0)) (varF 0)) nilF)) max2P) (di := []) (δ := δ)
    (fun i acc G' => ∃ so : List Int, acc = so.map I.int ∧ so.length = i ∧ (∀ m ∈ so, 0 ≤ m) ∧ G' = G)
    (fun i acc G1 hi ⟨so, ea, ls, hp, o⟩ => by
      have hi : i < ms.length := hi
      subst o
      obtain ⟨y, hy⟩ : ∃ y, (if 0 - ms[i] > ms[i] then 0 - ms[i] else ms[i]) = y := ⟨_, rfl⟩
      refine ⟨.int ms[i], [.int ms[i]], _, _, .int y, [some (.im (.int ms[i]))], G1, ?_, rfl, rfl, ?_, so ++ [y], by rw [ea, List.map_append]; rfl, by rw [List.length_append, ls]; rfl, fun m hm => ?_, rfl⟩
      · simp [lsW, sq, pk, hi]
      · subst hy; simp_arith [max2P]
      · rcases List.mem_append.mp hm with z | z
        · exact hp m z
        · have : m = y := by simpa using z
          subst this; subst hy; split <;> lia)
    (fun _ _ _ => by simp [lsW, sq, pk]) ms.length 0 [] G (by simp [lsW]) ⟨[], rfl, rfl, fun _ h => (by cases h), rfl⟩
  exact ⟨so, by rw [ed, eg] at e; exact e, ls, hp⟩
theorem deal_left {so : List Int} {δ : De} {G : List M} {k : Nat} (hk : G[k]? = some (.lst (so.map I.int))) (hp : ∀ m ∈ so, 0 ≤ m) : ∃ le : List Int, cTurns (lsW (.v (.im (.ref k))) so.length) c1 (tstF (opF geP (varF 0) (opF powP (conF (.int 10)) (conF (.int 18))))) (varF 0) [] 0 so.length [] δ G = some (le.map I.int, G) ∧ ∀ m ∈ le, 0 ≤ m := by
  obtain ⟨ds, G', e, so', ed, hp, eg⟩ := cT_tst (w := lsW (.v (.im (.ref k))) so.length) (c := c1) (tt := tstF (opF geP (varF 0) (opF powP (conF (.int 10)) (conF (.int 18))))) (te := varF 0) (di := []) (δ := δ)
    (fun i acc G' => ∃ le : List Int, acc = le.map I.int ∧ (∀ m ∈ le, 0 ≤ m) ∧ G' = G)
    (fun i acc G1 hi ⟨le, ea, hp', o⟩ => by
      have hi : i < so.length := hi
      subst o
      refine ⟨.int so[i], [.int so[i]], [some (.im (.int so[i]))], G1, by simp [lsW, sq, pk, hk, hi], rfl, ?_⟩
      by_cases z : (1000000000000000000 : Int) ≤ so[i]
      · refine .inr ⟨.int so[i], [some (.im (.int so[i]))], G1, by simp_arith [z], by simp_arith [], le ++ [so[i]], by rw [ea, List.map_append]; rfl, fun m hm => ?_, rfl⟩
        rcases List.mem_append.mp hm with y | y
        · exact hp' m y
        · have : m = so[i] := by simpa using y
          subst this; exact hp _ (List.getElem_mem hi)
      · exact .inl ⟨by simp_arith []; lia, le, ea, hp', rfl⟩)
    (fun _ G1 ⟨_, _, _, eg⟩ => by subst eg; simp [lsW, sq, pk, hk]) so.length 0 [] G (by simp [lsW]) ⟨[], rfl, fun _ h => (by cases h), rfl⟩
  exact ⟨so', by rw [ed, eg] at e; exact e, hp⟩
theorem deal_for {so : List Int} {s1 s2 s3 v : Option Vl} {G : List M} {k : Nat} {a : Int} (hk : G[k]? = some (.lst (so.map I.int))) (h0 : 0 ≤ a) (h1 : a < 2147483647) : ∃ a' v', fTurns (lsW (.v (.im (.ref k))) so.length) (gNm 4) F__law_deal_w1b 0 so.length [s1, s2, s3, some (.im (.int a)), v] G = some (.nx [s1, s2, s3, some (.im (.int a')), v'] G) ∧ 0 ≤ a' ∧ a' < 2147483647 := by
  obtain ⟨δ', G', e, a', v', ed, p0, p1, eg⟩ := fT_inv (w := lsW (.v (.im (.ref k))) so.length) (g := gNm 4) (b := F__law_deal_w1b)
    (fun i δ G' => ∃ (a : Int) (v : Option Vl), δ = [s1, s2, s3, some (.im (.int a)), v] ∧ 0 ≤ a ∧ a < 2147483647 ∧ G' = G)
    (fun i δ G1 hi ⟨a, v, ea, p0, p1, o⟩ => by
      have hi : i < so.length := hi
      subst o
      subst ea
      refine ⟨.int so[i], [s1, s2, s3, some (.im (.int a)), some (.im (.int so[i]))], G1, [s1, s2, s3, some (.im (.int ((a * 48271 + so[i] % 2147483629) % 2147483647))), some (.im (.int so[i]))], G1, by simp [lsW, sq, pk, hk, hi], rfl, ?_, _, _, rfl, Int.emod_nonneg _ (by decide), Int.emod_lt_of_pos _ (by decide), rfl⟩
      simp_arith [F__law_deal_w1b])
    (fun _ G1 ⟨_, _, _, _, _, eg⟩ => by subst eg; simp [lsW, sq, pk, hk]) so.length 0 [s1, s2, s3, some (.im (.int a)), v] G (by simp [lsW]) ⟨a, v, rfl, h0, h1, rfl⟩
  exact ⟨a', v', by rw [ed, eg] at e; exact e, p0, p1⟩
theorem seq_it {fe : Mo Ev} {e : Ev} {xs : List I} {n : Nat} {δ δ1 : De} {G G1 : List M} (h : fe δ G = some (e, δ1, G1)) (hl : isL δ1 G1 e = true) (hs : sq δ1 G1 e = some xs) (hn : xs.length = n) : itF (one fe) seqP δ G = some (lsW e n, [e], δ1, G1) := by
  subst hn
  refine it_go (bd_go h rfl) ?_
  unfold seqP lsP
  dsimp only
  rw [if_pos hl, hs]
  rfl
theorem deal_ok {ns : List Int} {b : Nat} {G : List M} (h : ns.length ≤ 63) (hb : b ≤ 1000) : ∃ (a : Int) (so le : List Int), F__law_deal [.im (.fro (ns.map I.int)), .im (.int b)] G = some (.ow (.dic (dealI a 0 (G.length + 1))), G ++ [.lst (so.map I.int), .lst (le.map I.int)]) ∧ 0 ≤ a ∧ a < 2147483647 ∧ ∀ m ∈ le, 0 ≤ m := by
  obtain ⟨ms, hc, lm⟩ := cut_map ns (some (b : Int)) (some 63)
  obtain ⟨so, e1, l1, p1⟩ := deal_some (ms := ms) (δ := [some (.im (.fro (ns.map I.int))), some (.im (.int b)), none, none, none]) (G := G)
  have hk : (G ++ [M.lst (so.map I.int)])[G.length]? = some (.lst (so.map I.int)) := by simp
  obtain ⟨a, v, e2, a0, a1⟩ := deal_for (s1 := some (.im (.fro (ns.map I.int)))) (s2 := some (.im (.int b))) (s3 := some (.im (.ref G.length))) (v := none) (a := 7919 + (b : Int)) hk (by lia) (by lia)
  obtain ⟨le, e3, p3⟩ := deal_left (δ := [some (.im (.fro (ns.map I.int))), some (.im (.int b)), some (.im (.ref G.length)), some (.im (.int a)), v]) hk p1
  refine ⟨a, so, le.reverse, ?_, a0, a1, fun m hm => p3 m (List.mem_reverse.mp hm)⟩
  refine run_rt rfl ?_
  refine seq_go (asg_go (comp_go (δ0 := [some (.im (.fro (ns.map I.int))), some (.im (.int b)), none, none, none]) (by rfl) (seq_it (e := .v (.ow (.lst (ms.map I.int)))) (n := ms.length) (δ1 := [some (.im (.fro (ns.map I.int))), some (.im (.int b)), none, none, none]) (G1 := G) ?_ rfl rfl (by simp)) (by show ms.length ≤ 100000; lia) e1) rfl) ?_
  · simp_arith [sliF, somePt, ptE, sliQ, notT, hc]
  refine seq_go (asg_go (x := .im (.int (7919 + (b : Int)))) (δ1 := [some (.im (.fro (ns.map I.int))), some (.im (.int b)), some (.ow (.lst (so.map I.int))), none, none]) (G1 := G) (by simp_arith []) rfl) ?_
  refine seq_go (for_go (seq_it (e := .v (.im (.ref G.length))) (n := so.length) (δ1 := [some (.im (.fro (ns.map I.int))), some (.im (.int b)), some (.im (.ref G.length)), some (.im (.int (7919 + (b : Int)))), none]) (G1 := G ++ [M.lst (so.map I.int)]) (xs := so.map I.int) (by simp_arith []) rfl (by simp [sq, pk]) (by simp)) e2) ?_
  refine ret_go (δ1 := [some (.im (.fro (ns.map I.int))), some (.im (.int b)), some (.im (.ref G.length)), some (.im (.int a)), v]) ?_
  have e4 : compF (itF (one (boxF (varF 2))) seqP) [] c1 (tstF (opF geP (varF 0) (opF powP (conF (.int 10)) (conF (.int 18))))) (varF 0) [some (.im (.fro (ns.map I.int))), some (.im (.int b)), some (.im (.ref G.length)), some (.im (.int a)), v] (G ++ [M.lst (so.map I.int)]) = some (.v (.ow (.lst (le.map I.int))), [some (.im (.fro (ns.map I.int))), some (.im (.int b)), some (.im (.ref G.length)), some (.im (.int a)), v], G ++ [M.lst (so.map I.int)]) := by
    refine comp_go (by rfl) (seq_it (e := .v (.im (.ref G.length))) (n := so.length) (δ1 := [some (.im (.fro (ns.map I.int))), some (.im (.int b)), some (.im (.ref G.length)), some (.im (.int a)), v]) (G1 := G ++ [M.lst (so.map I.int)]) (xs := so.map I.int) (by simp_arith []) rfl (by simp [sq, pk]) (by simp)) (by show so.length ≤ 100000; lia) e3
  have e5 : boxF (unF lrevP (compF (itF (one (boxF (varF 2))) seqP) [] c1 (tstF (opF geP (varF 0) (opF powP (conF (.int 10)) (conF (.int 18))))) (varF 0))) [some (.im (.fro (ns.map I.int))), some (.im (.int b)), some (.im (.ref G.length)), some (.im (.int a)), v] (G ++ [M.lst (so.map I.int)]) = some (.v (.im (.ref (G.length + 1))), [some (.im (.fro (ns.map I.int))), some (.im (.int b)), some (.im (.ref G.length)), some (.im (.int a)), v], G ++ [M.lst (so.map I.int), M.lst (le.reverse.map I.int)]) := by
    refine bd_go (un_go e4 (r := some (.v (.ow (.lst (le.reverse.map I.int))), [some (.im (.fro (ns.map I.int))), some (.im (.int b)), some (.im (.ref G.length)), some (.im (.int a)), v], G ++ [M.lst (so.map I.int)])) (by simp [lrevP, notT, sq, pk])) ?_
    simp [bxE]
  refine bd_go (a := [.v (.im (.str "seed")), .v (.im (.int a)), .v (.im (.str "number")), .v (.im (.int 0)), .v (.im (.str "left")), .v (.im (.ref (G.length + 1)))]) (δ1 := [some (.im (.fro (ns.map I.int))), some (.im (.int b)), some (.im (.ref G.length)), some (.im (.int a)), v]) (G1 := G ++ [M.lst (so.map I.int), M.lst (le.reverse.map I.int)]) ?_ ?_
  · refine bd_go rfl (bd_go rfl (bd_go (a := [.v (.im (.str "number")), .v (.im (.int 0)), .v (.im (.str "left")), .v (.im (.ref (G.length + 1)))]) (bd_go rfl (bd_go rfl (bd_go (a := [.v (.im (.str "left")), .v (.im (.ref (G.length + 1)))]) (bd_go rfl (bd_go e5 (bd_go rfl rfl))) rfl))) rfl))
  · simp [pairsE, keyI, mergeI, putD, hasI, s_sn, s_sl, s_nl, dealI]
end
section
noncomputable def trI : Tr → I
  | .lf w => .tup [.str "leaf", .int w]
  | .pr l r => .tup [.str "pair", trI l, trI r]
theorem iTr_trI : ∀ {t : Tr} {n : Nat}, t.dep < n → iTr n (trI t) = some t
  | .lf w, 0, h => absurd h (Nat.not_lt_zero _)
  | .pr l r, 0, h => absurd h (Nat.not_lt_zero _)
  | .lf w, n + 1, h => by simp [trI, iTr]
  | .pr l r, n + 1, h => by
    simp only [Tr.dep] at h
    have h1 := iTr_trI (t := l) (n := n) (by lia)
    have h2 := iTr_trI (t := r) (n := n) (by lia)
    simp [trI, iTr, h1, h2]
theorem tyQ_tr (t : Tr) : tyQ (.v (.im (trI t))) = some "tuple" := by cases t <;> rfl
theorem mkT_dep : ∀ (d : Nat) (ws : List Int), (mkT d ws).dep = d
  | 0, _ => rfl
  | d + 1, ws => by simp only [mkT, Tr.dep, mkT_dep]; lia
theorem map_take' (ws : List Int) (n : Nat) : (ws.map I.int).take n = (ws.take n).map I.int := List.map_take.symm
theorem map_drop' (ws : List Int) (n : Nat) : (ws.map I.int).drop n = (ws.drop n).map I.int := List.map_drop.symm
theorem tree_ok {G : List M} : ∀ {d n : Nat} {ws : List Int}, ws.length = 2 ^ d → d < n → F__law_tree n [.im (.tup (ws.map I.int))] G = some (.im (trI (mkT d ws)), G)
  | d, 0, ws, _, h => absurd h (Nat.not_lt_zero _)
  | 0, n + 1, ws, hw, _ => by
    match ws, hw with
    | [w], _ =>
      have := at0 (I.int w) []
      simp_arith [F__law_tree, this, mkT, trI]
  | d + 1, n + 1, ws, hw, h => by
    have p2 : 2 ^ (d + 1) = 2 * 2 ^ d := by rw [Nat.pow_succ]; lia
    have p0 : 0 < 2 ^ d := Nat.two_pow_pos d
    obtain ⟨N, hN⟩ : ∃ N, 2 ^ d = N := ⟨_, rfl⟩
    have l1 : (ws.take (2 ^ d)).length = 2 ^ d := by rw [List.length_take]; lia
    have l2 : (ws.drop (2 ^ d)).length = 2 ^ d := by rw [List.length_drop]; lia
    have t1 := tree_ok (G := G) (n := n) l1 (by lia)
    have t2 := tree_ok (G := G) (n := n) l2 (by lia)
    rw [p2, hN] at hw
    rw [hN] at t1 t2 p0
    rw [← map_take'] at t1
    rw [← map_drop'] at t2
    have lw : ((ws.length : Nat) : Int) = 2 * (N : Int) := by rw [hw]; push_cast; rfl
    have e1 : ((2 * (N : Int) == 1)) = false := beq_eq_false_iff_ne.mpr (by lia)
    have e2 : (2 * (N : Int)) / 2 = N := by lia
    have c1 : cutI (ws.map I.int) none (some (N : Int)) = (ws.map I.int).take N := cut_lo
    have c2 : cutI (ws.map I.int) (some (N : Int)) none = (ws.map I.int).drop N := cut_hi (by rw [List.length_map]; lia)
    have nn : 2 * (N : Int) ≠ 1 := by lia
    simp_arith [F__law_tree, lw, nn, e1, e2, sliF, sliQ, ptE, noPt, somePt, one, c1, c2, t1, t2, mkT, trI, hN]
noncomputable def addT : Tr → List Tr → List Tr
  | .lf w, ts => if .lf w ∈ ts then ts else ts ++ [.lf w]
  | .pr l r, ts => if .pr l r ∈ ts then ts else addT l (addT r (ts ++ [.pr l r]))
noncomputable def szT : Tr → Nat
  | .lf _ => 1
  | .pr l r => szT l + szT r + 1
theorem addT_len : ∀ (t : Tr) (ts : List Tr), (addT t ts).length ≤ ts.length + szT t
  | .lf w, ts => by unfold addT; split <;> simp [szT]
  | .pr l r, ts => by
    unfold addT
    split
    · lia
    · have h1 := addT_len l (addT r (ts ++ [.pr l r]))
      have h2 := addT_len r (ts ++ [.pr l r])
      simp only [List.length_append, List.length_singleton, szT] at h2 ⊢
      lia
noncomputable def kids : Tr → List Tr
  | .lf _ => []
  | .pr l r => [l, r]
noncomputable def wiD (a : I) (k : Nat) (st : List Tr) (v : Option Vl) : De := [some (.im a), some (.im (.ref k)), some (.ow (.lst (st.map trI))), v]
theorem wi_c {a : I} {k : Nat} {st : List Tr} {v : Option Vl} {G : List M} : F__law_within_w1c (wiD a k st v) G = some (decide (st ≠ []), wiD a k st v, G) := by
  cases st with
  | nil => simp_arith [F__law_within_w1c, wiD, eqZ]
  | cons t st => simp_arith [F__law_within_w1c, wiD, eqZ]
theorem wi_old {a : I} {k : Nat} {st : List Tr} {t : Tr} {v : Option Vl} {G : List M} {ts : List Tr} (hk : G[k]? = some (.dnt ts)) (hd : t.dep ≤ 6) (hm : t ∈ ts) : F__law_within_w1b (wiD a k (st ++ [t]) v) G = some (.nx (wiD a k st (some (.im (trI t)))) G) := by
  have h := iTr_trI (t := t) (n := 7) (by lia)
  simp_arith [F__law_within_w1b, wiD, ninN, hk, h, hm]
theorem cut1 (xs : List I) (x : I) : cutI (x :: xs) (some 1) none = xs := cut_hi (m := 1) (by simp)
theorem wi_kids {a : I} {k : Nat} {st : List Tr} {t : Tr} {G : List M} : compF (itF (one (sliF (varF 3) (somePt (conF (.int 1))) noPt)) seqP) [] c1 (bd (bd (consF (varF 0) (consF (conF (.ty "tuple")) nilF)) isinst2P) truE) (varF 0) (wiD a k st (some (.im (trI t)))) G = some (.v (.ow (.lst ((kids t).map trI))), wiD a k st (some (.im (trI t))), G) := by
  cases t with
  | lf w => simp_arith [wiD, trI, kids, compF, boxS, itF, one, sliF, sliQ, ptE, noPt, somePt, cut1, seqP, lsP, isL, tpP, lsW, cTurns, c1, inD, isinst2P, tyQ, tyIs]
  | pr l r =>
    have h1 := tyQ_tr l
    have h2 := tyQ_tr r
    simp_arith [wiD, trI, kids, compF, boxS, itF, one, sliF, sliQ, ptE, noPt, somePt, cut1, seqP, lsP, isL, tpP, lsW, cTurns, c1, inD, isinst2P, h1, h2, tyIs]
theorem wi_new {a : I} {k : Nat} {st : List Tr} {t : Tr} {v : Option Vl} {G : List M} {ts : List Tr} (hk : G[k]? = some (.dnt ts)) (hd : t.dep ≤ 6) (hm : t ∉ ts) (hl : ts.length < 1000000) (hs : st.length < 1000) : F__law_within_w1b (wiD a k (st ++ [t]) v) G = some (.nx (wiD a k (st ++ kids t) (some (.im (trI t)))) (G.set k (.dnt (ts ++ [t])))) := by
  have h := iTr_trI (t := t) (n := 7) (by lia)
  have hp : putT ts t = ts ++ [t] := by unfold putT; rw [if_neg hm]
  have hki : (kids t).length ≤ 2 := by cases t <;> simp [kids]
  have hln : st.length + (kids t).length ≤ 1000000 := by lia
  have hk' := wi_kids (a := a) (k := k) (st := st) (t := t) (G := G.set k (.dnt (ts ++ [t])))
  unfold F__law_within_w1b
  refine seq_go (δ1 := wiD a k st (some (.im (trI t)))) (G1 := G) (by simp_arith [wiD]) (ite_t (δ1 := wiD a k st (some (.im (trI t)))) (G1 := G) (by simp_arith [wiD, ninN, hk, h, hm]) (seq_go (δ1 := wiD a k st (some (.im (trI t)))) (G1 := G.set k (.dnt (ts ++ [t]))) (by simp_arith [wiD, putN, putNQ, hk, h, hl, hp]) (drop_go (e := .v (.im .non)) (bm_go (e := .s 2) rfl rfl (bd_go hk' rfl) ?_))))
  simp_arith [extend1P, wiD, hln, extend1P.notC]
theorem within_run {a : I} {k : Nat} : ∀ (t : Tr) {st : List Tr} {ts : List Tr} {G : List M} {v : Option Vl}, G[k]? = some (.dnt ts) → t.dep ≤ 6 → ts.length + szT t < 1000000 → st.length + t.dep < 100 →
    ∃ v' G', whF F__law_within_w1c F__law_within_w1b (wiD a k (st ++ [t]) v) G = whF F__law_within_w1c F__law_within_w1b (wiD a k st v') G' ∧ G'[k]? = some (.dnt (addT t ts)) ∧ Oth k k G G' := by
  intro t
  induction t with
  | lf w =>
    intro st ts G v hk hd hl hs
    have hc : F__law_within_w1c (wiD a k (st ++ [.lf w]) v) G = some (true, wiD a k (st ++ [.lf w]) v, G) := by rw [wi_c]; simp
    by_cases hm : Tr.lf w ∈ ts
    · exact ⟨_, G, whF_next hc (wi_old (st := st) (v := v) hk hd hm), by unfold addT; rw [if_pos hm]; exact hk, Oth.refl _ _ _⟩
    · have e1 := whF_next hc (wi_new (st := st) (v := v) hk hd hm (by lia) (by lia))
      rw [show st ++ kids (.lf w) = st by simp [kids]] at e1
      refine ⟨_, _, e1, ?_, Oth.setD⟩
      unfold addT; rw [if_neg hm]; exact set_at hk
  | pr l r ihl ihr =>
    intro st ts G v hk hd hl hs
    have hc : F__law_within_w1c (wiD a k (st ++ [.pr l r]) v) G = some (true, wiD a k (st ++ [.pr l r]) v, G) := by rw [wi_c]; simp
    by_cases hm : Tr.pr l r ∈ ts
    · exact ⟨_, G, whF_next hc (wi_old (st := st) (v := v) hk hd hm), by unfold addT; rw [if_pos hm]; exact hk, Oth.refl _ _ _⟩
    · have e1 := whF_next hc (wi_new (v := v) hk hd hm (by simp only [szT] at hl; lia) (by lia))
      simp only [szT] at hl
      simp only [Tr.dep] at hd hs
      have k1 : (G.set k (.dnt (ts ++ [.pr l r])))[k]? = some (.dnt (ts ++ [.pr l r])) := set_at hk
      obtain ⟨v2, G2, e2, k2, o2⟩ := ihr (st := st ++ [l]) (v := some (.im (trI (.pr l r)))) k1 (by lia) (by rw [List.length_append, List.length_singleton]; lia) (by rw [List.length_append, List.length_singleton]; lia)
      have hle := addT_len r (ts ++ [.pr l r])
      rw [List.length_append, List.length_singleton] at hle
      obtain ⟨v3, G3, e3, k3, o3⟩ := ihl (st := st) (v := v2) k2 (by lia) (by lia) (by lia)
      refine ⟨v3, G3, ?_, by unfold addT; rw [if_neg hm]; exact k3, Oth.setD.trans (o2.trans o3)⟩
      rw [e1]
      have : st ++ kids (.pr l r) = st ++ [l] ++ [r] := by simp [kids]
      rw [this, e2, e3]
theorem within_ok {G : List M} {k : Nat} {t : Tr} {ts : List Tr} (hk : G[k]? = some (.dnt ts)) (hd : t.dep ≤ 6) (hl : ts.length + szT t < 1000000) : ∃ G', F__law_within [.im (trI t), .im (.ref k)] G = some (.im (.ref k), G') ∧ G'[k]? = some (.dnt (addT t ts)) ∧ Oth k k G G' := by
  obtain ⟨v', G', e, k', o⟩ := within_run (a := trI t) (st := []) (v := none) t hk hd hl (by simp; lia)
  have hc : F__law_within_w1c (wiD (trI t) k [] v') G' = some (false, wiD (trI t) k [] v', G') := by rw [wi_c]; simp
  rw [whF_done hc] at e
  refine ⟨G', ?_, k', o⟩
  unfold F__law_within
  refine run_rt rfl ?_
  refine seq_go (δ1 := wiD (trI t) k [t] none) (G1 := G) ?_ (seq_go e ?_)
  · simp_arith [wiD]
  · simp_arith [wiD]
end
section
variable {Ψ : Tr → Prop}
noncomputable def Sub (s : Tr) : Tr → Prop
  | .lf w => s = .lf w
  | .pr l r => s = .pr l r ∨ Sub s l ∨ Sub s r
theorem Sub.refl : ∀ t : Tr, Sub t t
  | .lf _ => rfl
  | .pr _ _ => .inl rfl
theorem Sub.trans {s t : Tr} (h : Sub s t) : ∀ {u : Tr}, Sub t u → Sub s u
  | .lf w, g => by rw [show t = .lf w from g] at h; exact h
  | .pr l r, g => by
    rcases g with g | g | g
    · rw [g] at h; exact h
    · exact .inr (.inl (h.trans g))
    · exact .inr (.inr (h.trans g))
theorem addT_mem : ∀ (t : Tr) (ts : List Tr), (∀ s ∈ ts, szT s ≤ szT t → ∀ u, Sub u s → u ∈ ts) → ∀ u, u ∈ addT t ts ↔ u ∈ ts ∨ Sub u t := by
  intro t
  induction t with
  | lf w =>
    intro ts h u
    unfold addT
    split
    · rename_i hm
      exact ⟨.inl, fun z => z.elim id fun e => by rw [show u = .lf w from e]; exact hm⟩
    · rw [List.mem_append, List.mem_singleton]; exact Iff.rfl
  | pr l r ihl ihr =>
    intro ts h u
    unfold addT
    split
    · rename_i hm
      exact ⟨.inl, fun z => z.elim id fun e => h _ hm (Nat.le_refl _) u e⟩
    · have hsz : szT (.pr l r) = szT l + szT r + 1 := rfl
      have h1 : ∀ s ∈ ts ++ [.pr l r], szT s ≤ szT r → ∀ u, Sub u s → u ∈ ts ++ [.pr l r] := fun s hs le u hu => by
        rcases List.mem_append.mp hs with hs | hs
        · exact List.mem_append_left _ (h s hs (by lia) u hu)
        · rw [List.mem_singleton.mp hs] at le; lia
      have m2 := ihr _ h1
      have h2 : ∀ s ∈ addT r (ts ++ [.pr l r]), szT s ≤ szT l → ∀ u, Sub u s → u ∈ addT r (ts ++ [.pr l r]) := fun s hs le u hu => by
        rw [m2]
        rcases (m2 s).mp hs with hs | hs
        · rcases List.mem_append.mp hs with hs | hs
          · exact .inl (List.mem_append_left _ (h s hs (by lia) u hu))
          · rw [List.mem_singleton.mp hs] at le; lia
        · exact .inr (hu.trans hs)
      rw [ihl _ h2 u, m2 u, List.mem_append, List.mem_singleton]
      show _ ↔ u ∈ ts ∨ (u = .pr l r ∨ Sub u l ∨ Sub u r)
      constructor
      · rintro (((z | z) | z) | z)
        · exact .inl z
        · exact .inr (.inl z)
        · exact .inr (.inr (.inr z))
        · exact .inr (.inr (.inl z))
      · rintro (z | z | z | z)
        · exact .inl (.inl (.inl z))
        · exact .inl (.inl (.inr z))
        · exact .inr z
        · exact .inl (.inr z)
theorem nodup_snoc {α : Type} {xs : List α} {x : α} (h : xs.Nodup) (n : x ∉ xs) : (xs ++ [x]).Nodup := by
  rw [List.nodup_append]
  exact ⟨h, by simp, fun a ha b hb => by simp at hb; subst hb; exact fun z => n (z ▸ ha)⟩
theorem addT_nodup : ∀ (t : Tr) {ts : List Tr}, ts.Nodup → (addT t ts).Nodup := by
  intro t
  induction t with
  | lf w =>
    intro ts h
    unfold addT
    split
    · exact h
    · rename_i n; exact nodup_snoc h n
  | pr l r ihl ihr =>
    intro ts h
    unfold addT
    split
    · exact h
    · rename_i n; exact ihl (ihr (nodup_snoc h n))
/-- with each tree the trees within it -/
noncomputable def SubCl (ts : List Tr) : Prop := ∀ s ∈ ts, ∀ u, Sub u s → u ∈ ts
theorem SubCl.mem {ts : List Tr} (h : SubCl ts) (t : Tr) (u : Tr) : u ∈ addT t ts ↔ u ∈ ts ∨ Sub u t := addT_mem t ts (fun s hs _ => h s hs) u
theorem SubCl.add {ts : List Tr} (h : SubCl ts) (t : Tr) : SubCl (addT t ts) := fun s hs u hu => by
  rw [h.mem] at hs ⊢
  exact hs.elim (fun z => .inl (h s z u hu)) fun z => .inr (hu.trans z)
theorem TrS.sub {gs : List Mk} {u : Tr} : ∀ {t : Tr} {n : Int}, TrS gs t n → Sub u t → ∃ m, TrS gs u m
  | .lf w, n, h, e => ⟨n, by rw [show u = .lf w from e]; exact h⟩
  | .pr l r, n, h, e => by
    rcases e with e | e | e
    · exact ⟨n, by rw [e]; exact h⟩
    · obtain ⟨_, _, _, h1, _⟩ := h; exact h1.sub e
    · obtain ⟨_, _, _, _, h1⟩ := h; exact h1.sub e
theorem pig {α : Type} [DecidableEq α] : ∀ {xs ys : List α}, xs.Nodup → (∀ x ∈ xs, x ∈ ys) → xs.length ≤ ys.length
  | [], _, _, _ => Nat.zero_le _
  | x :: xs, ys, nd, h => by
    rw [List.nodup_cons] at nd
    have hx := h x List.mem_cons_self
    have := pig (xs := xs) (ys := ys.erase x) nd.2 fun y hy => (List.mem_erase_of_ne (fun e : y = x => nd.1 (e ▸ hy))).mpr (h y (List.mem_cons_of_mem _ hy))
    rw [List.length_erase_of_mem hx] at this
    have l0 := List.length_pos_of_mem hx
    rw [List.length_cons]; lia
theorem map_nodup {α β : Type} {xs : List α} {f : α → β} (nd : xs.Nodup) (h : ∀ a ∈ xs, ∀ b ∈ xs, f a = f b → a = b) : (xs.map f).Nodup :=
  List.pairwise_map.mpr (List.Pairwise.imp_of_mem (fun ha hb hne e => hne (h _ ha _ hb e)) nd)
theorem TrS.bd {gs : List Mk} {t : Tr} {n : Int} (h : TrS gs t n) : 1 ≤ n ∧ n ≤ gs.length := by
  have q : ∃ m, At gs n m := by
    cases t with
    | lf w => exact ⟨_, h⟩
    | pr l r => obtain ⟨_, _, h, _⟩ := h; exact ⟨_, h⟩
  obtain ⟨m, j, e, hj⟩ := q
  have := (List.getElem?_eq_some_iff.mp hj).1
  lia
theorem count {gs : List Mk} {ts : List Tr} (nd : gs.Nodup) (cl : Cl (· ∈ ts) gs) (has : ∀ t ∈ ts, ∃ n, TrS gs t n) (tn : ts.Nodup) : gs.length = ts.length := by
  refine Nat.le_antisymm ?_ ?_
  · let f : Nat → Tr := fun j => if h : j < gs.length then Classical.choose (cl j h) else .lf 0
    have hf : ∀ j, j < gs.length → TrS gs (f j) ((j : Int) + 1) ∧ f j ∈ ts := fun j h => by
      have := Classical.choose_spec (cl j h)
      simp only [f, dif_pos h]; exact this
    have := pig (xs := (List.range gs.length).map f) (ys := ts) (map_nodup List.nodup_range fun a ha b hb e => by
      have h1 := hf a (List.mem_range.mp ha)
      have h2 := hf b (List.mem_range.mp hb)
      rw [e] at h1
      have := h1.1.uniq nd h2.1
      lia) (fun x hx => by
      obtain ⟨j, hj, rfl⟩ := List.mem_map.mp hx
      exact (hf j (List.mem_range.mp hj)).2)
    simpa using this
  · let g : Tr → Nat := fun t => if h : t ∈ ts then ((Classical.choose (has t h)) - 1).toNat else 0
    have hg : ∀ t, t ∈ ts → TrS gs t ((g t : Int) + 1) := fun t h => by
      have q := Classical.choose_spec (has t h)
      have b := q.bd
      simp only [g, dif_pos h]
      have e : (((Classical.choose (has t h)) - 1).toNat : Int) + 1 = Classical.choose (has t h) := by lia
      rw [e]; exact q
    have := pig (xs := ts.map g) (ys := List.range gs.length) (map_nodup tn fun a ha b hb e => by
      have h1 := hg a ha
      have h2 := hg b hb
      rw [e] at h1
      exact h1.val h2) (fun x hx => by
      obtain ⟨t, ht, rfl⟩ := List.mem_map.mp hx
      have b := (hg t ht).bd
      exact List.mem_range.mpr (Int.ofNat_lt.mp (Int.lt_of_lt_of_le (Int.lt_succ _) b.2)))
    simpa using this
theorem blk_sub : ∀ (d : Nat) {ws : List Int} {j i : Nat}, ws.length = 2 ^ d → i * 2 ^ j + 2 ^ j ≤ 2 ^ d → Sub (mkT j ((ws.drop (i * 2 ^ j)).take (2 ^ j))) (mkT d ws)
  | 0, ws, j, i, hw, h => by
    have p0 : 0 < 2 ^ j := Nat.two_pow_pos j
    have e : 2 ^ j = 1 := by simp at h; lia
    have ej : j = 0 := by
      cases j with
      | zero => rfl
      | succ j => rw [Nat.pow_succ] at e; lia
    subst ej
    have ei : i = 0 := by simp at h; lia
    subst ei
    rw [show (ws.drop (0 * 2 ^ 0)).take (2 ^ 0) = ws by simp; exact List.take_of_length_le (by rw [hw]; simp)]
    exact Sub.refl _
  | d + 1, ws, j, i, hw, h => by
    have p0 : 0 < 2 ^ d := Nat.two_pow_pos d
    have q0 : 0 < 2 ^ j := Nat.two_pow_pos j
    by_cases hj : j ≤ d
    · obtain ⟨c, hc⟩ : ∃ c, d = j + c := ⟨d - j, by lia⟩
      have pd : 2 ^ d = 2 ^ j * 2 ^ c := by rw [hc, Nat.pow_add]
      have pd1 : 2 ^ (d + 1) = 2 ^ d + 2 ^ d := by rw [Nat.pow_succ]; lia
      have l1 : (ws.take (2 ^ d)).length = 2 ^ d := by rw [List.length_take]; lia
      have l2 : (ws.drop (2 ^ d)).length = 2 ^ d := by rw [List.length_drop]; lia
      by_cases hi : i < 2 ^ c
      · have le : i * 2 ^ j + 2 ^ j ≤ 2 ^ d := by
          rw [pd, ← Nat.succ_mul, Nat.mul_comm (2 ^ j)]; exact Nat.mul_le_mul_right _ hi
        have q := blk_sub d l1 le
        have e : ((ws.take (2 ^ d)).drop (i * 2 ^ j)).take (2 ^ j) = (ws.drop (i * 2 ^ j)).take (2 ^ j) := by
          rw [List.drop_take, List.take_take, Nat.min_eq_left (by lia)]
        rw [e] at q
        exact .inr (.inl q)
      · obtain ⟨k, rfl⟩ : ∃ k, i = 2 ^ c + k := ⟨i - 2 ^ c, by lia⟩
        have ei : (2 ^ c + k) * 2 ^ j = 2 ^ d + k * 2 ^ j := by rw [Nat.add_mul, pd, Nat.mul_comm (2 ^ c)]
        rw [ei] at h ⊢
        have q := blk_sub d (j := j) (i := k) l2 (by lia)
        rw [List.drop_drop] at q
        exact .inr (.inr q)
    · have hjd : d + 1 ≤ j := by lia
      have le : 2 ^ (d + 1) ≤ 2 ^ j := Nat.pow_le_pow_right (by decide) hjd
      have i0 : i = 0 := by
        rcases Nat.eq_zero_or_pos i with e | e
        · exact e
        · have : 2 ^ j ≤ i * 2 ^ j := Nat.le_mul_of_pos_left _ e
          lia
      subst i0
      rw [Nat.zero_mul, Nat.zero_add] at h
      have ej : j = d + 1 := by
        rcases Nat.lt_or_eq_of_le hjd with z | z
        · have : 2 ^ (d + 1) < 2 ^ j := Nat.pow_lt_pow_right (by decide) z
          lia
        · exact z.symm
      subst ej
      rw [show (ws.drop (0 * 2 ^ (d + 1))).take (2 ^ (d + 1)) = ws by rw [Nat.zero_mul, List.drop_zero]; exact List.take_of_length_le (by lia)]
      exact Sub.refl _
theorem bks_of {ts : List Tr} {d : Nat} {ws : List Int} (hw : ws.length = 2 ^ d) (c : SubCl ts) (h : mkT d ws ∈ ts) : Bks (· ∈ ts) ws := fun j i le => c _ h _ (blk_sub d hw (by rw [← hw]; exact le))
theorem HG.mono {Ψ' : Tr → Prop} {G : List M} {h g s : Nat} {gs : List Mk} (S : HG Ψ G h g s gs) (k : ∀ t, Ψ t → Ψ' t) : HG Ψ' G h g s gs := ⟨S.ob, S.gl, S.sd, S.n1, S.n2, S.n3, S.nd, fun j hj => let ⟨t, a, b⟩ := S.cl j hj; ⟨t, a, k t b⟩⟩
theorem mkT_inj : ∀ {d : Nat} {ws vs : List Int}, ws.length = 2 ^ d → vs.length = 2 ^ d → mkT d ws = mkT d vs → ws = vs
  | 0, ws, vs, h1, h2, e => by
    match ws, vs, h1, h2 with
    | [w], [v], _, _ => simp [mkT] at e; rw [e]
  | d + 1, ws, vs, h1, h2, e => by
    simp only [mkT] at e
    injection e with e1 e2
    have pd1 : 2 ^ (d + 1) = 2 ^ d + 2 ^ d := by rw [Nat.pow_succ]; lia
    have a := mkT_inj (by rw [List.length_take]; lia) (by rw [List.length_take]; lia) e1
    have b := mkT_inj (by rw [List.length_drop]; lia) (by rw [List.length_drop]; lia) e2
    rw [← List.take_append_drop (2 ^ d) ws, ← List.take_append_drop (2 ^ d) vs, a, b]
theorem szT_mkT : ∀ (d : Nat) (ws : List Int), szT (mkT d ws) + 1 = 2 ^ (d + 1)
  | 0, _ => rfl
  | d + 1, ws => by
    have h1 := szT_mkT d (ws.take (2 ^ d))
    have h2 := szT_mkT d (ws.drop (2 ^ d))
    simp only [mkT, szT]
    have : 2 ^ (d + 1 + 1) = 2 ^ (d + 1) + 2 ^ (d + 1) := by rw [Nat.pow_succ 2 (d + 1)]; lia
    lia
end
section
theorem cl_len {gs : List Mk} {ts : List Tr} (nd : gs.Nodup) (cl : Cl (· ∈ ts) gs) : gs.length ≤ ts.length := by
  let f : Nat → Tr := fun j => if h : j < gs.length then Classical.choose (cl j h) else .lf 0
  have hf : ∀ j, j < gs.length → TrS gs (f j) ((j : Int) + 1) ∧ f j ∈ ts := fun j h => by
    have := Classical.choose_spec (cl j h)
    simp only [f, dif_pos h]; exact this
  have := pig (xs := (List.range gs.length).map f) (ys := ts) (map_nodup List.nodup_range fun a ha b hb e => by
    have h1 := hf a (List.mem_range.mp ha)
    have h2 := hf b (List.mem_range.mp hb)
    rw [e] at h1
    have := h1.1.uniq nd h2.1
    lia) (fun x hx => by
    obtain ⟨j, hj, rfl⟩ := List.mem_map.mp hx
    exact (hf j (List.mem_range.mp hj)).2)
  simpa using this
theorem cons_go {fa : Mo Ev} {fr : Mo (List Ev)} {δ δ1 δ2 : De} {G G1 G2 : List M} {e : Ev} {es : List Ev} (h : fa δ G = some (e, δ1, G1)) (k : fr δ1 G1 = some (es, δ2, G2)) : consF fa fr δ G = some (e :: es, δ2, G2) := bd_go h (bd_go k rfl)
/-- gs goes on -/
noncomputable def Ex (gs gs' : List Mk) : Prop := ∃ k, Ext k gs gs'
theorem Ex.refl (gs : List Mk) : Ex gs gs := ⟨0, Ext.refl gs⟩
theorem Ex.trans {a b c : List Mk} (x : Ex a b) (y : Ex b c) : Ex a c := let ⟨_, x⟩ := x; let ⟨_, y⟩ := y; ⟨_, x.trans y⟩
theorem Ex.sl {gs gs' : List Mk} (x : Ex gs gs') {d : Nat} {n : Int} {ws : List Int} (h : Sl gs d n ws) : Sl gs' d n ws := let ⟨_, x⟩ := x; h.ext x
theorem Ex.trs {gs gs' : List Mk} (x : Ex gs gs') {t : Tr} {n : Int} (h : TrS gs t n) : TrS gs' t n := by
  obtain ⟨k, r, rfl, _⟩ := x; exact h.app r
structure Hs (ts : List Tr) (G : List M) (h g s : Nat) (gs : List Mk) : Prop where
  hg : HG (· ∈ ts) G h g s gs
  sc : SubCl ts
  ln : ts.length < 20000
theorem Hs.lt {ts : List Tr} {G : List M} {h g s : Nat} {gs : List Mk} (S : Hs ts G h g s gs) : gs.length < 20000 := Nat.lt_of_le_of_lt (cl_len S.hg.nd S.hg.cl) S.ln
theorem seal_k {ts : List Tr} {G : List M} {h g s d : Nat} {gs : List Mk} {ws : List Int} (S : Hs ts G h g s gs) (hw : ws.length = 2 ^ d) (hd : d ≤ 6) (hm : mkT d ws ∈ ts) : ∃ n gs' G', F_seal_of [.im (.ref h), .im (.tup (ws.map I.int))] G = some (.im (.int n), G') ∧ Hs ts G' h g s gs' ∧ Ex gs gs' ∧ Sl gs' d n ws ∧ Mor g s G G' := by
  obtain ⟨n, gs', G', e, S', x, sl, m⟩ := seal_of_ok S.hg hw hd (by have := S.lt; lia) (bks_of hw S.sc hm)
  exact ⟨n, gs', G', e, ⟨S', S.sc, S.ln⟩, ⟨_, x⟩, sl, m⟩
noncomputable def tpI (ws : List Int) : I := .tup (ws.map I.int)
theorem key_tp : ∀ ws : List Int, keysI (ws.map I.int) = some (ws.map Sum.inl)
  | [] => rfl
  | w :: ws => by rw [List.map_cons, keysI, key_tp ws]; rfl
noncomputable def orD (h : Nat) (w0 : I) (st : List (List Int)) (kvs : List (List Key × I)) (v4 v5 v6 : Option Vl) : De := [some (.im (.ref h)), some (.im w0), some (.ow (.lst (st.map tpI))), some (.ow (.dit kvs)), v4, v5, v6]
theorem or_c {h : Nat} {w0 : I} {st : List (List Int)} {kvs : List (List Key × I)} {v4 v5 v6 : Option Vl} {G : List M} : F__law_opened_right_w1c (orD h w0 st kvs v4 v5 v6) G = some (decide (st ≠ []), orD h w0 st kvs v4 v5 v6, G) := by
  cases st with
  | nil => simp_arith [F__law_opened_right_w1c, orD, eqZ]
  | cons t st => simp_arith [F__law_opened_right_w1c, orD, eqZ]
theorem or_old {h : Nat} {w0 : I} {st : List (List Int)} {ws : List Int} {kvs : List (List Key × I)} {v4 v5 v6 : Option Vl} {G : List M} {o : I} (hv : valI kvs (ws.map Sum.inl) = some o) : F__law_opened_right_w1b (orD h w0 (st ++ [ws]) kvs v4 v5 v6) G = some (.nx (orD h w0 st kvs (some (.im (tpI ws))) v5 v6) G) := by
  have hk := key_tp ws
  simp_arith [F__law_opened_right_w1b, orD, ninP, inL, inD', tpI, hk, hv]
theorem eq_mk (m : Mk) (δ : De) (G : List M) : eqE δ G (.v (.im m.i)) (.v (.im m.i)) = some true := by
  cases m <;> simp_arith [Mk.i, eqZ]
theorem or_lo {h N : Nat} {w0 : I} {st : List (List Int)} {ws : List Int} {kvs : List (List Key × I)} {v6 : Option Vl} {G : List M} : sliF (varF 4) noPt (somePt (varF 5)) (orD h w0 st kvs (some (.im (tpI ws))) (some (.im (.int N))) v6) G = some (.v (.im (.tup ((ws.take N).map I.int))), orD h w0 st kvs (some (.im (tpI ws))) (some (.im (.int N))) v6, G) := by
  have c : cutI (ws.map I.int) none (some (N : Int)) = (ws.map I.int).take N := cut_lo
  simp_arith [orD, tpI, sliF, sliQ, ptE, noPt, somePt, one, c]
theorem or_hi {h N : Nat} {w0 : I} {st : List (List Int)} {ws : List Int} {kvs : List (List Key × I)} {v6 : Option Vl} {G : List M} (hN : N ≤ ws.length) : sliF (varF 4) (somePt (varF 5)) noPt (orD h w0 st kvs (some (.im (tpI ws))) (some (.im (.int N))) v6) G = some (.v (.im (.tup ((ws.drop N).map I.int))), orD h w0 st kvs (some (.im (tpI ws))) (some (.im (.int N))) v6, G) := by
  have c : cutI (ws.map I.int) (some (N : Int)) none = (ws.map I.int).drop N := cut_hi (by simpa using hN)
  simp_arith [orD, tpI, sliF, sliQ, ptE, noPt, somePt, one, c]
/-- the last test of a turn -/
theorem or_tst {ts : List Tr} {h g s d : Nat} {w0 : I} {st : List (List Int)} {ws : List Int} {kvs : List (List Key × I)} {v5 : Option Vl} {G : List M} {gs : List Mk} {m : Mk} (S : Hs ts G h g s gs) (hw : ws.length = 2 ^ d) (hd : d ≤ 6) (hm : mkT d ws ∈ ts)
    (ho : ∀ gs' n, Ex gs gs' → gs'.Nodup → Sl gs' d n ws → At gs' n m) : ∃ gs' G', Hs ts G' h g s gs' ∧ Ex gs gs' ∧ Mor g s G G' ∧
    iteF' (tstF (opF neP (methF "House" "opened" 2 F_House_opened (varF 0) (consF (bd (consF (varF 0) (consF (varF 4) nilF)) (callP 2 F_seal_of)) nilF)) (varF 6))) (retF (conF (.bl false))) skipF (orD h w0 st kvs (some (.im (tpI ws))) v5 (some (.im m.i))) G = some (.nx (orD h w0 st kvs (some (.im (tpI ws))) v5 (some (.im m.i))) G') := by
  obtain ⟨n, gs', G', e, S', x, sl, mo⟩ := seal_k S hw hd hm
  have at_ := ho gs' n x S'.hg.nd sl
  have eo := opened_at S'.hg at_
  refine ⟨gs', G', S', x, mo, ite_f (δ1 := orD h w0 st kvs (some (.im (tpI ws))) v5 (some (.im m.i))) (G1 := G') (tst_go (op_go (x := .v (.im m.i)) (y := .v (.im m.i)) (δ1 := orD h w0 st kvs (some (.im (tpI ws))) v5 (some (.im m.i))) (δ2 := orD h w0 st kvs (some (.im (tpI ws))) v5 (some (.im m.i))) (G1 := G') (G2 := G') ?_ rfl ?_)) rfl⟩
  · have e' : F_seal_of [.im (.ref h), .im (tpI ws)] G = some (.im (.int n), G') := e
    simp_arith [orD, S.hg.ob, n_open, e', eo]
  · simp only [neP, eq_mk]; rfl
theorem or_put {kvs : List (List Key × I)} {k : List Key} (hv : valI kvs k = none) : (putD kvs k (.bl true)).length ≤ kvs.length + 1 := by
  unfold putD; split <;> simp
end
section
/-- what a turn leaves -/
noncomputable def OrT (ts : List Tr) (h g s : Nat) (gs : List Mk) (G : List M) (w0 : I) (st : List (List Int)) (kvs : List (List Key × I)) (r : Option Fl) : Prop :=
  ∃ kvs' v4 v5 v6 gs' G', r = some (.nx (orD h w0 st kvs' v4 v5 v6) G') ∧ Hs ts G' h g s gs' ∧ Ex gs gs' ∧ Mor g s G G' ∧ kvs'.length ≤ kvs.length + 1
theorem or_new0 {ts : List Tr} {h g s : Nat} {w0 : I} {st : List (List Int)} {w : Int} {kvs : List (List Key × I)} {v4 v5 v6 : Option Vl} {G : List M} {gs : List Mk} (S : Hs ts G h g s gs) (hm : mkT 0 [w] ∈ ts) (hv : valI kvs ([w].map Sum.inl) = none) (hl : kvs.length < 1000000) :
    OrT ts h g s gs G w0 st kvs (F__law_opened_right_w1b (orD h w0 (st ++ [[w]]) kvs v4 v5 v6) G) := by
  have hk := key_tp [w]
  have hv : valI kvs [Sum.inl w] = none := hv
  obtain ⟨gs', G', S', x, mo, e⟩ := or_tst (w0 := w0) (st := st) (kvs := putD kvs [Sum.inl w] (.bl true)) (v5 := some (.im (.int 0))) (d := 0) (ws := [w]) (m := .leaf w) S rfl (by decide) hm (fun gs' n _ _ ⟨w', e, a⟩ => by cases e; exact a)
  refine ⟨putD kvs [Sum.inl w] (.bl true), some (.im (tpI [w])), some (.im (.int 0)), some (.im (Mk.leaf w).i), gs', G', ?_, S', x, mo, or_put hv⟩
  unfold F__law_opened_right_w1b
  refine seq_go (δ1 := orD h w0 st kvs (some (.im (tpI [w]))) v5 v6) (G1 := G) (by simp_arith [orD]) (ite_t (δ1 := orD h w0 st kvs (some (.im (tpI [w]))) v5 v6) (G1 := G) ?_ (seq_go (δ1 := orD h w0 st (putD kvs [Sum.inl w] (.bl true)) (some (.im (tpI [w]))) v5 v6) (G1 := G) ?_ (seq_go (δ1 := orD h w0 st (putD kvs [Sum.inl w] (.bl true)) (some (.im (tpI [w]))) (some (.im (.int 0))) v6) (G1 := G) ?_ (seq_go (δ1 := orD h w0 st (putD kvs [Sum.inl w] (.bl true)) (some (.im (tpI [w]))) (some (.im (.int 0))) (some (.im (Mk.leaf w).i))) (G1 := G) ?_ (seq_go (δ1 := orD h w0 st (putD kvs [Sum.inl w] (.bl true)) (some (.im (tpI [w]))) (some (.im (.int 0))) (some (.im (Mk.leaf w).i))) (G1 := G) ?_ e)))))
  · simp_arith [orD, ninP, inL, inD', tpI, hk, hv]
  · simp_arith [orD, tpI, hk, hl]
  · simp_arith [orD, tpI]
  · have := at0 (I.int w) []
    simp_arith [orD, tpI, this, Mk.i]
  · simp_arith [orD]
theorem or_newS {ts : List Tr} {h g s d : Nat} {w0 : I} {st : List (List Int)} {ws : List Int} {kvs : List (List Key × I)} {v4 v5 v6 : Option Vl} {G : List M} {gs : List Mk} (S : Hs ts G h g s gs) (hw : ws.length = 2 ^ (d + 1)) (hd : d + 1 ≤ 6) (hm : mkT (d + 1) ws ∈ ts) (hv : valI kvs (ws.map Sum.inl) = none) (hl : kvs.length < 1000000) (hs : st.length < 1000) :
    OrT ts h g s gs G w0 (st ++ [ws.take (2 ^ d)] ++ [ws.drop (2 ^ d)]) kvs (F__law_opened_right_w1b (orD h w0 (st ++ [ws]) kvs v4 v5 v6) G) := by
  have hk := key_tp ws
  have p2 : 2 ^ (d + 1) = 2 * 2 ^ d := by rw [Nat.pow_succ]; lia
  have p0 : 0 < 2 ^ d := Nat.two_pow_pos d
  have l1 : (ws.take (2 ^ d)).length = 2 ^ d := by rw [List.length_take]; lia
  have l2 : (ws.drop (2 ^ d)).length = 2 ^ d := by rw [List.length_drop]; lia
  have m1 : mkT d (ws.take (2 ^ d)) ∈ ts := S.sc _ hm _ (.inr (.inl (Sub.refl _)))
  have m2 : mkT d (ws.drop (2 ^ d)) ∈ ts := S.sc _ hm _ (.inr (.inr (Sub.refl _)))
  obtain ⟨a, g1, G1, e1, S1, x1, s1, o1⟩ := seal_k S l1 (by lia) m1
  obtain ⟨b, g2, G2, e2, S2, x2, s2, o2⟩ := seal_k S1 l2 (by lia) m2
  obtain ⟨N, hN⟩ : ∃ N, 2 ^ d = N := ⟨_, rfl⟩
  obtain ⟨gs', G', S', x, mo, e⟩ := or_tst (w0 := w0) (st := st ++ [ws.take N] ++ [ws.drop N]) (kvs := putD kvs (ws.map Sum.inl) (.bl true)) (v5 := some (.im (.int N))) (d := d + 1) (ws := ws) (m := .pair a b) S2 hw hd hm (fun gs' n x nd ⟨a', b', l, r, ew, h1, h2, at_, s1', s2'⟩ => by
    have hl' : ws.take (2 ^ d) = l := by rw [ew, List.take_left' h1]
    have hr' : ws.drop (2 ^ d) = r := by rw [ew, List.drop_left' h1]
    rw [hl'] at s1
    rw [hr'] at s2
    have ea := ((x2.trans x).sl s1).uniq nd s1'
    have eb := (x.sl s2).uniq nd s2'
    rw [ea, eb]; exact at_)
  rw [hN] at e1 e2 p2 p0
  rw [hN]
  have lw : ((ws.length : Nat) : Int) = 2 * (N : Int) := by rw [hw, p2]; push_cast; rfl
  have hh : (2 * (N : Int)) / 2 = N := by lia
  have h0 : (0 : Int) < (N : Int) := by lia
  have hNl : N ≤ ws.length := by lia
  have hw0 : ∃ w r, ws = w :: r := by
    match ws, hNl with
    | [], hh => simp at hh; lia
    | w :: r, _ => exact ⟨w, r, rfl⟩
  obtain ⟨w, r, ewr⟩ := hw0
  have ha0 : atI (ws.map I.int) 0 = some (.int w) := by rw [ewr]; exact at0 _ _
  refine ⟨putD kvs (ws.map Sum.inl) (.bl true), some (.im (tpI ws)), some (.im (.int N)), some (.im (Mk.pair a b).i), gs', G', ?_, S', x1.trans (x2.trans x), o1.trans (o2.trans mo), or_put hv⟩
  unfold F__law_opened_right_w1b
  refine seq_go (δ1 := orD h w0 st kvs (some (.im (tpI ws))) v5 v6) (G1 := G) (by simp_arith [orD]) (ite_t (δ1 := orD h w0 st kvs (some (.im (tpI ws))) v5 v6) (G1 := G) ?_ (seq_go (δ1 := orD h w0 st (putD kvs (ws.map Sum.inl) (.bl true)) (some (.im (tpI ws))) v5 v6) (G1 := G) ?_ (seq_go (δ1 := orD h w0 st (putD kvs (ws.map Sum.inl) (.bl true)) (some (.im (tpI ws))) (some (.im (.int N))) v6) (G1 := G) ?_ (seq_go (δ1 := orD h w0 st (putD kvs (ws.map Sum.inl) (.bl true)) (some (.im (tpI ws))) (some (.im (.int N))) (some (.im (Mk.leaf w).i))) (G1 := G) ?_ (seq_go (δ1 := orD h w0 (st ++ [ws.take N] ++ [ws.drop N]) (putD kvs (ws.map Sum.inl) (.bl true)) (some (.im (tpI ws))) (some (.im (.int N))) (some (.im (Mk.pair a b).i))) (G1 := G2) ?_ e)))))
  · simp_arith [orD, ninP, inL, inD', tpI, hk, hv]
  · simp_arith [orD, tpI, hk, hl]
  · simp_arith [orD, tpI, lw, hh]
  · simp_arith [orD, tpI, ha0, Mk.i]
  · refine ite_t (δ1 := orD h w0 st (putD kvs (ws.map Sum.inl) (.bl true)) (some (.im (tpI ws))) (some (.im (.int N))) (some (.im (Mk.leaf w).i))) (G1 := G) (by simp_arith [orD, h0, p0]) (seq_go (δ1 := orD h w0 st (putD kvs (ws.map Sum.inl) (.bl true)) (some (.im (tpI ws))) (some (.im (.int N))) (some (.im (Mk.pair a b).i))) (G1 := G2) (asg_go (δ1 := orD h w0 st (putD kvs (ws.map Sum.inl) (.bl true)) (some (.im (tpI ws))) (some (.im (.int N))) (some (.im (Mk.leaf w).i))) (G1 := G2) (x := .im (Mk.pair a b).i) (bd_go (cons_go rfl (cons_go (bd_go (cons_go rfl (cons_go or_lo rfl)) (call_go rfl rfl e1)) (cons_go (bd_go (cons_go rfl (cons_go (or_hi hNl) rfl)) (call_go rfl rfl e2)) rfl))) rfl) rfl) (drop_go (e := .v (.im .non)) (bm_go (e := .s 2) rfl rfl (cons_go (bd_go (cons_go or_lo (cons_go (or_hi hNl) rfl)) rfl) rfl) ?_)))
    have hle : st.length + 2 ≤ 1000000 := by lia
    simp_arith [extend1P, orD, hle, extend1P.notC, tpI]
theorem or_run {ts : List Tr} {h g s : Nat} {w0 : I} : ∀ (d : Nat) {ws : List Int} {st : List (List Int)} {kvs : List (List Key × I)} {v4 v5 v6 : Option Vl} {G : List M} {gs : List Mk}, Hs ts G h g s gs → ws.length = 2 ^ d → d ≤ 6 → mkT d ws ∈ ts → kvs.length + 2 ^ (d + 1) < 1000 → st.length + d < 100 →
    ∃ kvs' v4' v5' v6' gs' G', whF F__law_opened_right_w1c F__law_opened_right_w1b (orD h w0 (st ++ [ws]) kvs v4 v5 v6) G = whF F__law_opened_right_w1c F__law_opened_right_w1b (orD h w0 st kvs' v4' v5' v6') G' ∧ Hs ts G' h g s gs' ∧ Ex gs gs' ∧ Mor g s G G' ∧ kvs'.length + 1 ≤ kvs.length + 2 ^ (d + 1) := by
  intro d
  induction d with
  | zero =>
    intro ws st kvs v4 v5 v6 G gs S hw hd hm hl hs
    have hc : F__law_opened_right_w1c (orD h w0 (st ++ [ws]) kvs v4 v5 v6) G = some (true, orD h w0 (st ++ [ws]) kvs v4 v5 v6, G) := by rw [or_c]; simp
    cases hv : valI kvs (ws.map Sum.inl) with
    | some o => exact ⟨kvs, _, _, _, gs, G, whF_next hc (or_old (st := st) hv), S, Ex.refl gs, Mor.refl _ _ _, by simp⟩
    | none =>
      match ws, hw with
      | [w], _ =>
        obtain ⟨kvs', a4, a5, a6, gs', G', e, S', x, mo, l⟩ := or_new0 (w0 := w0) (st := st) (v4 := v4) (v5 := v5) (v6 := v6) S hm hv (by lia)
        exact ⟨kvs', a4, a5, a6, gs', G', whF_next hc e, S', x, mo, by simp; lia⟩
  | succ d ih =>
    intro ws st kvs v4 v5 v6 G gs S hw hd hm hl hs
    have p2 : 2 ^ (d + 1 + 1) = 2 * 2 ^ (d + 1) := by rw [Nat.pow_succ 2 (d + 1)]; lia
    have p1 : 2 ^ (d + 1) = 2 * 2 ^ d := by rw [Nat.pow_succ]; lia
    have p0 : 0 < 2 ^ d := Nat.two_pow_pos d
    have hc : F__law_opened_right_w1c (orD h w0 (st ++ [ws]) kvs v4 v5 v6) G = some (true, orD h w0 (st ++ [ws]) kvs v4 v5 v6, G) := by rw [or_c]; simp
    cases hv : valI kvs (ws.map Sum.inl) with
    | some o => exact ⟨kvs, _, _, _, gs, G, whF_next hc (or_old (st := st) hv), S, Ex.refl gs, Mor.refl _ _ _, by lia⟩
    | none =>
      obtain ⟨kvs1, a4, a5, a6, g1, G1, e1, S1, x1, o1, k1⟩ := or_newS (w0 := w0) (st := st) (v4 := v4) (v5 := v5) (v6 := v6) S hw hd hm hv (by lia) (by lia)
      have l1 : (ws.take (2 ^ d)).length = 2 ^ d := by rw [List.length_take]; lia
      have l2 : (ws.drop (2 ^ d)).length = 2 ^ d := by rw [List.length_drop]; lia
      have m1 : mkT d (ws.take (2 ^ d)) ∈ ts := S.sc _ hm _ (.inr (.inl (Sub.refl _)))
      have m2 : mkT d (ws.drop (2 ^ d)) ∈ ts := S.sc _ hm _ (.inr (.inr (Sub.refl _)))
      obtain ⟨kvs2, b4, b5, b6, g2, G2, e2, S2, x2, o2, k2⟩ := ih (st := st ++ [ws.take (2 ^ d)]) (kvs := kvs1) (v4 := a4) (v5 := a5) (v6 := a6) S1 l2 (by lia) m2 (by lia) (by rw [List.length_append, List.length_singleton]; lia)
      obtain ⟨kvs3, c4, c5, c6, g3, G3, e3, S3, x3, o3, k3⟩ := ih (st := st) (kvs := kvs2) (v4 := b4) (v5 := b5) (v6 := b6) S2 l1 (by lia) m1 (by lia) (by lia)
      exact ⟨kvs3, c4, c5, c6, g3, G3, (whF_next hc e1).trans (e2.trans e3), S3, x1.trans (x2.trans x3), o1.trans (o2.trans o3), by lia⟩
theorem opened_right_ok {ts : List Tr} {h g s d : Nat} {ws : List Int} {G : List M} {gs : List Mk} (S : Hs ts G h g s gs) (hw : ws.length = 2 ^ d) (hd : d ≤ 6) (hm : mkT d ws ∈ ts) : ∃ gs' G', F__law_opened_right [.im (.ref h), .im (.tup (ws.map I.int))] G = some (.im (.bl true), G') ∧ Hs ts G' h g s gs' ∧ Ex gs gs' ∧ Mor g s G G' := by
  have p6 : 2 ^ (d + 1) ≤ 2 ^ 7 := Nat.pow_le_pow_right (by decide) (by lia)
  have p6 : 2 ^ (d + 1) ≤ 128 := p6
  obtain ⟨kvs', v4, v5, v6, gs', G', e, S', x, mo, _⟩ := or_run (w0 := tpI ws) d (st := []) (kvs := []) (v4 := none) (v5 := none) (v6 := none) S hw hd hm (by simp; lia) (by simp; lia)
  have hc : F__law_opened_right_w1c (orD h (tpI ws) [] kvs' v4 v5 v6) G' = some (false, orD h (tpI ws) [] kvs' v4 v5 v6, G') := by rw [or_c]; simp
  rw [whF_done hc] at e
  refine ⟨gs', G', ?_, S', x, mo⟩
  unfold F__law_opened_right
  refine run_rt rfl ?_
  refine seq_go (δ1 := [some (.im (.ref h)), some (.im (tpI ws)), some (.ow (.lst ([ws].map tpI))), none, none, none, none]) (G1 := G) ?_ (seq_go (δ1 := orD h (tpI ws) [ws] [] none none none) (G1 := G) ?_ (seq_go e ?_))
  · simp_arith [tpI]
  · simp_arith [orD]
  · simp_arith [orD]
end
section
noncomputable def Fr (ix : List Nat) (G G' : List M) : Prop := G.length ≤ G'.length ∧ ∀ k, k < G.length → k ∉ ix → G'[k]? = G[k]?
theorem Fr.refl (ix : List Nat) (G : List M) : Fr ix G G := ⟨Nat.le_refl _, fun _ _ _ => rfl⟩
theorem Mor.fr {g s : Nat} {G G' : List M} (m : Mor g s G G') : Fr [g, s] G G' := ⟨m.len, fun k h n => m.at_ k h (fun e => n (by simp [e])) (fun e => n (by simp [e]))⟩
theorem Oth.fr {g s : Nat} {G G' : List M} (m : Oth g s G G') : Fr [g, s] G G' := m.mor.fr
theorem Fr.app {G : List M} (T : List M) : Fr [] G (G ++ T) := ⟨by rw [List.length_append]; lia, fun k h _ => List.getElem?_append_left h⟩
theorem Fr.at {ix : List Nat} {G G' : List M} (f : Fr ix G G') {k : Nat} {m : M} (h : G[k]? = some m) (n : k ∉ ix) : G'[k]? = some m := by
  rw [f.2 k (List.getElem?_eq_some_iff.mp h).1 n]; exact h
theorem DG.fr {ix : List Nat} {G G' : List M} {d l : Nat} (D : DG G d l) (f : Fr ix G G') (h8 : d ∉ ix) (h1 : l ∉ ix) : DG G' d l := by
  obtain ⟨a, n, ms, D⟩ := D
  exact ⟨a, n, ms, f.at D.dc h8, f.at D.lc h1, D.ne, D.a0, D.a1, D.n0, D.m0⟩
theorem Hs.fr {ix : List Nat} {G G' : List M} {ts : List Tr} {h g s : Nat} {gs : List Mk} (S : Hs ts G h g s gs) (f : Fr ix G G') (nh : h ∉ ix) (ng : g ∉ ix) (ns : s ∉ ix) : Hs ts G' h g s gs :=
  ⟨⟨f.at S.hg.ob nh, f.at S.hg.gl ng, f.at S.hg.sd ns, S.hg.n1, S.hg.n2, S.hg.n3, S.hg.nd, S.hg.cl⟩, S.sc, S.ln⟩
structure Wd (ts tsO : List Tr) (G : List M) (gs go : List Mk) : Prop where
  D : DG G 8 1
  S : Hs ts G 2 3 4 gs
  O : Hs tsO G 5 6 7 go
section
variable {ts tsO : List Tr} {G : List M} {gs go : List Mk}
theorem Wd.draw {many : Int} (W : Wd ts tsO G gs go) (h0 : 0 < many) (h1 : many < 2 ^ 100) : ∃ r G', F__law_draw [.im (.ref 8), .im (.int many)] G = some (.im (.int r), G') ∧ 0 ≤ r ∧ r < many ∧ Wd ts tsO G' gs go ∧ Fr [8, 1] G G' := by
  obtain ⟨r, G', e, a, b, D, o⟩ := draw_ok W.D h0 h1
  exact ⟨r, G', e, a, b, ⟨D, W.S.fr o.fr (by decide) (by decide) (by decide), W.O.fr o.fr (by decide) (by decide) (by decide)⟩, o.fr⟩
theorem Wd.word (W : Wd ts tsO G gs go) : ∃ w G', F__law_word [.im (.ref 8)] G = some (.im (.int w), G') ∧ Wd ts tsO G' gs go ∧ Fr [8, 1] G G' := by
  obtain ⟨w, G', e, D, o⟩ := word_ok W.D
  exact ⟨w, G', e, ⟨D, W.S.fr o.fr (by decide) (by decide) (by decide), W.O.fr o.fr (by decide) (by decide) (by decide)⟩, o.fr⟩
theorem Wd.row {dp : Nat} (W : Wd ts tsO G gs go) (hd : dp ≤ 6) : ∃ (ws : List Int) (G' : List M), F__law_row [.im (.ref 8), .im (.int dp)] G = some (.im (.tup (ws.map I.int)), G') ∧ ws.length = 2 ^ dp ∧ Wd ts tsO G' gs go ∧ Fr [8, 1] G G' := by
  obtain ⟨ws, G', e, l, D, o⟩ := row_ok W.D hd
  exact ⟨ws, G', e, l, ⟨D, W.S.fr o.fr (by decide) (by decide) (by decide), W.O.fr o.fr (by decide) (by decide) (by decide)⟩, o.fr⟩
theorem Wd.seal {d : Nat} {ws : List Int} (W : Wd ts tsO G gs go) (hw : ws.length = 2 ^ d) (hd : d ≤ 6) (hm : mkT d ws ∈ ts) : ∃ n gs' G', F_seal_of [.im (.ref 2), .im (.tup (ws.map I.int))] G = some (.im (.int n), G') ∧ Wd ts tsO G' gs' go ∧ Ex gs gs' ∧ Sl gs' d n ws ∧ Fr [3, 4] G G' := by
  obtain ⟨n, gs', G', e, S, x, sl, o⟩ := seal_k W.S hw hd hm
  exact ⟨n, gs', G', e, ⟨W.D.fr o.fr (by decide) (by decide), S, W.O.fr o.fr (by decide) (by decide) (by decide)⟩, x, sl, o.fr⟩
theorem Wd.sealO {d : Nat} {ws : List Int} (W : Wd ts tsO G gs go) (hw : ws.length = 2 ^ d) (hd : d ≤ 6) (hm : mkT d ws ∈ tsO) : ∃ n go' G', F_seal_of [.im (.ref 5), .im (.tup (ws.map I.int))] G = some (.im (.int n), G') ∧ Wd ts tsO G' gs go' ∧ Ex go go' ∧ Sl go' d n ws ∧ Fr [6, 7] G G' := by
  obtain ⟨n, gs', G', e, S, x, sl, o⟩ := seal_k W.O hw hd hm
  exact ⟨n, gs', G', e, ⟨W.D.fr o.fr (by decide) (by decide), W.S.fr o.fr (by decide) (by decide) (by decide), S⟩, x, sl, o.fr⟩
theorem Wd.right {d : Nat} {ws : List Int} (W : Wd ts tsO G gs go) (hw : ws.length = 2 ^ d) (hd : d ≤ 6) (hm : mkT d ws ∈ ts) : ∃ gs' G', F__law_opened_right [.im (.ref 2), .im (.tup (ws.map I.int))] G = some (.im (.bl true), G') ∧ Wd ts tsO G' gs' go ∧ Ex gs gs' ∧ Fr [3, 4] G G' := by
  obtain ⟨gs', G', e, S, x, o⟩ := opened_right_ok W.S hw hd hm
  exact ⟨gs', G', e, ⟨W.D.fr o.fr (by decide) (by decide), S, W.O.fr o.fr (by decide) (by decide) (by decide)⟩, x, o.fr⟩
theorem Wd.rightO {d : Nat} {ws : List Int} (W : Wd ts tsO G gs go) (hw : ws.length = 2 ^ d) (hd : d ≤ 6) (hm : mkT d ws ∈ tsO) : ∃ go' G', F__law_opened_right [.im (.ref 5), .im (.tup (ws.map I.int))] G = some (.im (.bl true), G') ∧ Wd ts tsO G' gs go' ∧ Ex go go' ∧ Fr [6, 7] G G' := by
  obtain ⟨gs', G', e, S, x, o⟩ := opened_right_ok W.O hw hd hm
  exact ⟨gs', G', e, ⟨W.D.fr o.fr (by decide) (by decide), W.S.fr o.fr (by decide) (by decide) (by decide), S⟩, x, o.fr⟩
theorem Hs.add {h g s : Nat} (S : Hs ts G h g s gs) (t : Tr) (hl : ts.length + szT t < 20000) : Hs (addT t ts) G h g s gs :=
  ⟨S.hg.mono fun u hu => (S.sc.mem t u).mpr (.inl hu), S.sc.add t, by have := addT_len t ts; lia⟩
theorem Wd.add (W : Wd ts tsO G gs go) (t : Tr) (hl : ts.length + szT t < 20000) : Wd (addT t ts) tsO G gs go := ⟨W.D, W.S.add t hl, W.O⟩
theorem Wd.addO (W : Wd ts tsO G gs go) (t : Tr) (hl : tsO.length + szT t < 20000) : Wd ts (addT t tsO) G gs go := ⟨W.D, W.S, W.O.add t hl⟩
theorem Wd.leafO {w : Int} (W : Wd ts tsO G gs go) (hl : tsO.length < 19000) : ∃ n go' G', F_House_leaf [.im (.ref 5), .im (.int w)] G = some (.im (.int n), G') ∧ Wd ts (addT (.lf w) tsO) G' gs go' ∧ Fr [6, 7] G G' := by
  have W' := W.addO (.lf w) (by simp [szT]; lia)
  have hm : Tr.lf w ∈ addT (.lf w) tsO := (W.O.sc.mem _ _).mpr (.inr rfl)
  obtain ⟨n, go', G', e, S, a, x, o⟩ := leaf_ok (w := w) W'.O.hg (by have := W'.O.lt; lia) hm
  exact ⟨n, go', G', e, ⟨W.D.fr o.fr (by decide) (by decide), W.S.fr o.fr (by decide) (by decide) (by decide), ⟨S, W'.O.sc, W'.O.ln⟩⟩, o.fr⟩
end
noncomputable def Rw (rows : List (List Int)) : Prop := ∀ ws ∈ rows, ∃ d, d ≤ 6 ∧ ws.length = 2 ^ d
noncomputable def lwD (ns : List Int) (v4 v5 v6 v7 v8 v9 v10 v11 : Option Vl) : De := [some (.im (.fro (ns.map I.int))), some (.im (.ref 8)), some (.im (.ref 2)), some (.im (.ref 5)), v4, v5, v6, v7, v8, v9, v10, v11]
section
variable {ts tsO : List Tr} {G : List M} {gs go : List Mk} {ns : List Int} {v4 v5 v6 v7 v8 v9 v10 v11 : Option Vl}
theorem dep_ok (W : Wd ts tsO G gs go) : ∃ (dp : Nat) (G' : List M), dp ≤ 6 ∧ opF ixP (bd (consF (conF (.int 0)) (consF (conF (.int 1)) (consF (conF (.int 2)) (consF (conF (.int 3)) (consF (conF (.int 4)) (consF (conF (.int 6)) nilF)))))) lstP) (bd (consF (boxF (varF 1)) (consF (conF (.int 6)) nilF)) (callP 2 F__law_draw)) (lwD ns v4 v5 v6 v7 v8 v9 v10 v11) G = some (.v (.im (.int dp)), lwD ns v4 v5 v6 v7 v8 v9 v10 v11, G') ∧ Wd ts tsO G' gs go := by
  obtain ⟨r, G', e, a, b, W', _⟩ := W.draw (many := 6) (by decide) (by decide)
  rcases (show r = 0 ∨ r = 1 ∨ r = 2 ∨ r = 3 ∨ r = 4 ∨ r = 5 by lia) with z | z | z | z | z | z
  · subst z; exact ⟨0, G', by decide, by simp_arith [lwD, e, at0], W'⟩
  · subst z; exact ⟨1, G', by decide, by simp_arith [lwD, e, at1], W'⟩
  · subst z; exact ⟨2, G', by decide, by simp_arith [lwD, e, at2], W'⟩
  · subst z
    have at3 : atI [I.int 0, .int 1, .int 2, .int 3, .int 4, .int 6] 3 = some (.int 3) := atI_nat (j := 3) rfl
    exact ⟨3, G', by decide, by simp_arith [lwD, e, at3], W'⟩
  · subst z
    have at4 : atI [I.int 0, .int 1, .int 2, .int 3, .int 4, .int 6] 4 = some (.int 4) := atI_nat (j := 4) rfl
    exact ⟨4, G', by decide, by simp_arith [lwD, e, at4], W'⟩
  · subst z
    have at5 : atI [I.int 0, .int 1, .int 2, .int 3, .int 4, .int 6] 5 = some (.int 6) := atI_nat (j := 5) rfl
    exact ⟨6, G', by decide, by simp_arith [lwD, e, at5], W'⟩
theorem app_go {i : Nat} {fa : Mo Ev} {δ δ1 : De} {G G1 : List M} {xs : List I} {d : I} (hi : varF i δ G = some (.s i, δ, G)) (h0 : pk δ G (.s i) = some (.lst xs)) (h : fa δ G = some (.v (.im d), δ1, G1)) (hp : pk δ1 G1 (.s i) = some (.lst xs)) (hl : xs.length < 100000) : dropF (bmF append1P (varF i) (consF fa nilF)) δ G = some (.nx (pkS δ1 G1 (.lst (xs ++ [d])) (.s i)).1 (pkS δ1 G1 (.lst (xs ++ [d])) (.s i)).2) := by
  refine drop_go (e := .v (.im .non)) (bm_go (e := .s i) hi (by simp [isLst, h0]) (cons_go h rfl) ?_)
  have : xs.length < 1000000 := by lia
  simp [append1P, hp, this]
theorem w4_turn {rows : List (List Int)} (W : Wd ts tsO G gs go) (R : Rw rows) (hl : rows.length ≤ 100) : ∃ rows' G', F_law_w4b (lwD ns (some (.ow (.lst (rows.map tpI)))) v5 v6 v7 v8 v9 v10 v11) G = some (.nx (lwD ns (some (.ow (.lst (rows'.map tpI)))) v5 v6 v7 v8 v9 v10 v11) G') ∧ Wd ts tsO G' gs go ∧ Rw rows' ∧ rows'.length ≤ rows.length + 2 ∧ 0 < rows'.length := by
  obtain ⟨dp, G1, hd, e1, W1⟩ := dep_ok (ns := ns) (v4 := some (.ow (.lst (rows.map tpI)))) (v5 := v5) (v6 := v6) (v7 := v7) (v8 := v8) (v9 := v9) (v10 := v10) (v11 := v11) W
  obtain ⟨ws, G2, e2, lw, W2, _⟩ := W1.row hd
  obtain ⟨r3, G3, e3, a3, b3, W3, _⟩ := W2.draw (many := 3) (by decide) (by decide)
  have R2 : Rw (rows ++ [ws]) := fun x hx => by
    rcases List.mem_append.mp hx with hx | hx
    · exact R x hx
    · rw [List.mem_singleton.mp hx]; exact ⟨dp, hd, lw⟩
  have A1 : dropF (bmF append1P (varF 4) (consF (bd (consF (boxF (varF 1)) (consF (opF ixP (bd (consF (conF (.int 0)) (consF (conF (.int 1)) (consF (conF (.int 2)) (consF (conF (.int 3)) (consF (conF (.int 4)) (consF (conF (.int 6)) nilF)))))) lstP) (bd (consF (boxF (varF 1)) (consF (conF (.int 6)) nilF)) (callP 2 F__law_draw))) nilF)) (callP 2 F__law_row)) nilF)) (lwD ns (some (.ow (.lst (rows.map tpI)))) v5 v6 v7 v8 v9 v10 v11) G = some (.nx (lwD ns (some (.ow (.lst ((rows ++ [ws]).map tpI)))) v5 v6 v7 v8 v9 v10 v11) G2) := by
    refine Eq.trans (app_go (i := 4) (δ := lwD ns (some (.ow (.lst (rows.map tpI)))) v5 v6 v7 v8 v9 v10 v11) (δ1 := lwD ns (some (.ow (.lst (rows.map tpI)))) v5 v6 v7 v8 v9 v10 v11) (G := G) (xs := rows.map tpI) rfl rfl (bd_go (cons_go (e := .v (.im (.ref 8))) rfl (cons_go (es := []) e1 rfl)) (call_go rfl rfl e2)) rfl (by rw [List.length_map]; lia)) ?_
    rw [List.map_append]; rfl
  have len1 : ((rows ++ [ws]).length : Nat) = rows.length + 1 := by simp
  obtain ⟨q, G4, e4, a4, b4, W4, _⟩ := W3.draw (many := (((rows ++ [ws]).map tpI).length : Int)) (by rw [List.length_map, len1]; lia) (Int.lt_of_lt_of_le (b := 200) (by rw [List.length_map, len1]; lia) (by decide))
  rw [List.length_map, len1] at b4
  obtain ⟨k, rfl⟩ := Int.eq_ofNat_of_zero_le a4
  have hk : k < (rows ++ [ws]).length := by lia
  have hat : atI ((rows ++ [ws]).map tpI) (k : Int) = some (tpI (rows ++ [ws])[k]) := atI_nat (by rw [List.getElem?_map, List.getElem?_eq_getElem hk]; rfl)
  have R3 : Rw (rows ++ [ws] ++ [(rows ++ [ws])[k]]) := fun x hx => by
    rcases List.mem_append.mp hx with hx | hx
    · exact R2 x hx
    · rw [List.mem_singleton.mp hx]; exact R2 _ (List.getElem_mem hk)
  by_cases z : r3 = 0
  · subst z
    refine ⟨rows ++ [ws] ++ [(rows ++ [ws])[k]], G4, seq_go A1 (ite_t (δ1 := lwD ns (some (.ow (.lst ((rows ++ [ws]).map tpI)))) v5 v6 v7 v8 v9 v10 v11) (G1 := G3) ?_ ?_), W4, R3, by simp, by simp⟩
    · simp_arith [lwD, e3]
    · have hix : opF ixP (varF 4) (bd (consF (boxF (varF 1)) (consF (bd (consF (varF 4) nilF) lenP) nilF)) (callP 2 F__law_draw)) (lwD ns (some (.ow (.lst ((rows ++ [ws]).map tpI)))) v5 v6 v7 v8 v9 v10 v11) G3 = some (.v (.im (tpI (rows ++ [ws])[k])), lwD ns (some (.ow (.lst ((rows ++ [ws]).map tpI)))) v5 v6 v7 v8 v9 v10 v11, G4) := by
        refine op_go (x := .s 4) (δ2 := lwD ns (some (.ow (.lst ((rows ++ [ws]).map tpI)))) v5 v6 v7 v8 v9 v10 v11) rfl (bd_go (cons_go (e := .v (.im (.ref 8))) rfl (cons_go (bd_go (cons_go (e := .s 4) rfl rfl) (r := some (.v (.im (.int (((rows ++ [ws]).map tpI).length : Int))), lwD ns (some (.ow (.lst ((rows ++ [ws]).map tpI)))) v5 v6 v7 v8 v9 v10 v11, G3)) ?_) rfl)) (call_go rfl rfl e4)) ?_
        · rfl
        · show orP ixS ixD [.s 4, .v (.im (.int k))] _ _ = _
          have : sq (lwD ns (some (.ow (.lst ((rows ++ [ws]).map tpI)))) v5 v6 v7 v8 v9 v10 v11) G4 (.s 4) = some ((rows ++ [ws]).map tpI) := rfl
          unfold orP ixS
          simp only [this, hat]
      have := app_go (i := 4) (δ := lwD ns (some (.ow (.lst ((rows ++ [ws]).map tpI)))) v5 v6 v7 v8 v9 v10 v11) (G := G3) (xs := (rows ++ [ws]).map tpI) rfl rfl hix rfl (by rw [List.length_map, len1]; lia)
      rw [this, List.map_append (f := tpI) (l₁ := rows ++ [ws])]; rfl
  · refine ⟨rows ++ [ws], G3, seq_go A1 (ite_f (δ1 := lwD ns (some (.ow (.lst ((rows ++ [ws]).map tpI)))) v5 v6 v7 v8 v9 v10 v11) (G1 := G3) ?_ rfl), W3, R2, by simp, by simp⟩
    simp_arith [lwD, e3, z]
end
end
section
theorem whole_ok {n : Int} {G : List M} : F__law_whole [.im (.int n)] G = some (.im (.bl true), G) := by
  simp_arith [F__law_whole, andV, isinst2P, tyQ, tyIs, notP]
theorem Wd.lt {ts tsO : List Tr} {G : List M} {gs go : List Mk} (W : Wd ts tsO G gs go) : 8 < G.length := W.D.lt.1
theorem Wd.fr {ix : List Nat} {ts tsO : List Tr} {G G' : List M} {gs go : List Mk} (W : Wd ts tsO G gs go) (f : Fr ix G G') (h : ∀ k ∈ ix, 9 ≤ k) : Wd ts tsO G' gs go := by
  have n : ∀ k, k < 9 → k ∉ ix := fun k hk z => by have := h k z; lia
  exact ⟨W.D.fr f (n _ (by decide)) (n _ (by decide)), W.S.fr f (n _ (by decide)) (n _ (by decide)) (n _ (by decide)), W.O.fr f (n _ (by decide)) (n _ (by decide)) (n _ (by decide))⟩
/-- the dict of the trees met, in its slot or in the store -/
noncomputable def Kn (ts : List Tr) (v7 : Option Vl) (G : List M) : Prop := v7 = some (.ow (.dnt ts)) ∨ ∃ K, v7 = some (.im (.ref K)) ∧ G[K]? = some (.dnt ts) ∧ 9 ≤ K
theorem Kn.fr {ix : List Nat} {ts : List Tr} {v7 : Option Vl} {G G' : List M} (k : Kn ts v7 G) (f : Fr ix G G') (h : ∀ k ∈ ix, k < 9) : Kn ts v7 G' := by
  rcases k with k | ⟨K, e, h1, h2⟩
  · exact .inl k
  · exact .inr ⟨K, e, f.at h1 fun z => by have := h K z; lia, h2⟩
section
variable {ts tsO : List Tr} {G : List M} {gs go : List Mk} {ns : List Int} {v4 v5 v6 v7 v8 v9 v10 v11 : Option Vl}
theorem box7 (k : Kn ts v7 G) (hl : 8 < G.length) : ∃ K G', boxF (varF 7) (lwD ns v4 v5 v6 v7 v8 v9 v10 v11) G = some (.v (.im (.ref K)), lwD ns v4 v5 v6 (some (.im (.ref K))) v8 v9 v10 v11, G') ∧ G'[K]? = some (.dnt ts) ∧ 9 ≤ K ∧ Fr [] G G' := by
  rcases k with k | ⟨K, e, h1, h2⟩
  · subst k
    exact ⟨G.length, G ++ [.dnt ts], rfl, by simp, by lia, Fr.app _⟩
  · subst e
    exact ⟨K, G, rfl, h1, h2, Fr.refl _ _⟩
theorem ne_int (x : Int) (δ : De) (G : List M) : neP [.v (.im (.int x)), .v (.im (.int x))] δ G = some (.v (.im (.bl false)), δ, G) := by
  simp [neP, eqE, imE, mixI, eqD, flI, eqFl]
theorem atI_last (xs : List Int) (n : Int) : atI ((xs ++ [n]).map I.int) (-1) = some (.int n) := by
  have h1 : (1 : Int) ≤ (xs.length : Int) + 1 := by lia
  have h2 : (-1 + ((xs.length : Int) + 1)).toNat = xs.length := by lia
  simp [atI, ixN, h1, h2]
theorem w3_turn {R d : Nat} {rows : List (List Int)} {ws seals : List Int} (W : Wd ts tsO G gs go) (tn : ts.Nodup) (has : ∀ t ∈ ts, ∃ n, TrS gs t n) (kn : Kn ts v7 G) (hR : G[R]? = some (.lst (rows.map tpI))) (h9 : 9 ≤ R) (lt : ts.length < 10000) (lo : tsO.length < 10000) (ls : seals.length < 1000) (hw : ws.length = 2 ^ d) (hd : d ≤ 6) :
    ∃ n K tsO' gs' go' G', F_law_w3b (lwD ns v4 v5 (some (.ow (.lst (seals.map I.int)))) v7 (some (.im (tpI ws))) v9 v10 v11) G = some (.nx (lwD ns v4 v5 (some (.ow (.lst ((seals ++ [n]).map I.int)))) (some (.im (.ref K))) (some (.im (tpI ws))) v9 v10 v11) G') ∧
    Wd (addT (mkT d ws) ts) tsO' G' gs' go' ∧ (addT (mkT d ws) ts).Nodup ∧ (∀ t ∈ addT (mkT d ws) ts, ∃ n, TrS gs' t n) ∧ Kn (addT (mkT d ws) ts) (some (.im (.ref K))) G' ∧ G'[R]? = some (.lst (rows.map tpI)) ∧ Ex gs gs' ∧ Sl gs' d n ws ∧ tsO'.length ≤ tsO.length + 1 := by
  have hsz := szT_mkT d ws
  have p7 : 2 ^ (d + 1) ≤ 2 ^ 7 := Nat.pow_le_pow_right (by decide) (by lia)
  have p7 : 2 ^ (d + 1) ≤ 128 := p7
  have W0 := W.add (mkT d ws) (by lia)
  have hm : mkT d ws ∈ addT (mkT d ws) ts := (W.S.sc.mem _ _).mpr (.inr (Sub.refl _))
  obtain ⟨n, gs', G1, e1, W1, x1, sl, f1⟩ := W0.seal hw hd hm
  obtain ⟨w, G2, e2, W2, f2⟩ := W1.word
  obtain ⟨m, go', G3, e3, W3, f3⟩ := W2.leafO (w := w) (by lia)
  have et := tree_ok (G := G3) (n := 8) hw (by lia)
  have kn3 : Kn ts v7 G3 := ((kn.fr f1 (by decide)).fr f2 (by decide)).fr f3 (by decide)
  obtain ⟨K, G4, e4, k4, k9, f4⟩ := box7 (ns := ns) (v4 := v4) (v5 := v5) (v6 := some (.ow (.lst ((seals ++ [n]).map I.int)))) (v8 := some (.im (tpI ws))) (v9 := v9) (v10 := v10) (v11 := v11) kn3 W3.lt
  obtain ⟨G5, e5, k5, o5⟩ := within_ok (t := mkT d ws) k4 (by rw [mkT_dep]; exact hd) (by lia)
  have W5 := (W3.fr f4 (by simp)).fr o5.fr (by intro k hk; simp at hk; lia)
  have R1 := f1.at hR (by simp; lia)
  have R2 := f2.at R1 (by simp; lia)
  have R3 := f3.at R2 (by simp; lia)
  have R4 := f4.at R3 (by simp)
  have hRK : R ≠ K := fun z => by rw [z, k4] at R4; cases R4
  have R5 := o5.fr.at R4 (by simp; exact hRK)
  have tn' := addT_nodup (mkT d ws) tn
  have has' : ∀ t ∈ addT (mkT d ws) ts, ∃ n, TrS gs' t n := fun t ht => by
    rcases (W.S.sc.mem _ _).mp ht with z | z
    · obtain ⟨a, ha⟩ := has t z; exact ⟨a, x1.trs ha⟩
    · exact sl.tr.sub z
  have cnt := count W5.S.hg.nd W5.S.hg.cl has' tn'
  have em := many_ok W5.S.hg
  have ewh := whole_ok (n := n) (G := G5)
  have ewh2 := whole_ok (n := (gs'.length : Int)) (G := G5)
  have hat := atI_last seals n
  refine ⟨n, K, _, gs', go', G5, ?_, W5, tn', has', .inr ⟨K, rfl, k5, k9⟩, R5, x1, sl, by have := addT_len (.lf w) tsO; simp only [szT] at this; lia⟩
  refine seq_go (δ1 := lwD ns v4 v5 (some (.ow (.lst ((seals ++ [n]).map I.int)))) v7 (some (.im (tpI ws))) v9 v10 v11) (G1 := G1) ?_ (seq_go (δ1 := lwD ns v4 v5 (some (.ow (.lst ((seals ++ [n]).map I.int)))) v7 (some (.im (tpI ws))) v9 v10 v11) (G1 := G3) ?_ (seq_go (δ1 := lwD ns v4 v5 (some (.ow (.lst ((seals ++ [n]).map I.int)))) (some (.im (.ref K))) (some (.im (tpI ws))) v9 v10 v11) (G1 := G5) ?_ (ite_f (δ1 := lwD ns v4 v5 (some (.ow (.lst ((seals ++ [n]).map I.int)))) (some (.im (.ref K))) (some (.im (tpI ws))) v9 v10 v11) (G1 := G5) ?_ rfl)))
  · refine Eq.trans (app_go (i := 6) (δ := lwD ns v4 v5 (some (.ow (.lst (seals.map I.int)))) v7 (some (.im (tpI ws))) v9 v10 v11) (δ1 := lwD ns v4 v5 (some (.ow (.lst (seals.map I.int)))) v7 (some (.im (tpI ws))) v9 v10 v11) (G := G) (xs := seals.map I.int) rfl rfl (bd_go (cons_go rfl (cons_go (es := []) rfl rfl)) (call_go rfl rfl e1)) rfl (by rw [List.length_map]; lia)) ?_
    rw [List.map_append]; rfl
  · refine drop_go (e := .v (.im (.int m))) ?_
    simp_arith [lwD, W1.O.hg.ob, W2.O.hg.ob, n_leaf, e2, e3]
  · exact drop_go (e := .v (.im (.ref K))) (bd_go (cons_go (bd_go (cons_go rfl (es := []) rfl) (call_go rfl rfl et)) (cons_go (es := []) e4 rfl)) (call_go rfl rfl e5))
  · refine or_f (δ1 := lwD ns v4 v5 (some (.ow (.lst ((seals ++ [n]).map I.int)))) (some (.im (.ref K))) (some (.im (tpI ws))) v9 v10 v11) (G1 := G5) (tst_go (op_go (x := .v (.im (.int gs'.length))) (y := .v (.im (.int (addT (mkT d ws) ts).length))) (δ1 := lwD ns v4 v5 (some (.ow (.lst ((seals ++ [n]).map I.int)))) (some (.im (.ref K))) (some (.im (tpI ws))) v9 v10 v11) (G1 := G5) (δ2 := lwD ns v4 v5 (some (.ow (.lst ((seals ++ [n]).map I.int)))) (some (.im (.ref K))) (some (.im (tpI ws))) v9 v10 v11) (G2 := G5) ?_ ?_ (by rw [cnt]; exact ne_int _ _ _))) (or_f (δ1 := lwD ns v4 v5 (some (.ow (.lst ((seals ++ [n]).map I.int)))) (some (.im (.ref K))) (some (.im (tpI ws))) v9 v10 v11) (G1 := G5) (not_go (b := true) ?_) (not_go (b := true) ?_))
    · simp_arith [lwD, W5.S.hg.ob, n_many, em]
    · simp_arith [lwD, lenN, k5]
    · have hat' : atI (seals.map I.int ++ [I.int n]) (-1) = some (.int n) := by simpa using hat
      simp_arith [lwD, hat', ewh]
    · simp_arith [lwD, W5.S.hg.ob, n_many, em, ewh2]
end
end
section
theorem eqZ_ints (n : Nat) : ∀ ws vs : List Int, eqZ (eqD n) (ws.map I.int) (vs.map I.int) = some (decide (ws = vs))
  | [], [] => rfl
  | [], _ :: _ => by simp [eqZ]
  | _ :: _, [] => by simp [eqZ]
  | w :: ws, v :: vs => by
    have h : eqD n (.int w) (.int v) = some (decide (w = v)) := by cases n <;> simp [eqD, flI, eqFl] <;> exact (Bool.beq_eq_decide_eq _ _)
    rw [List.map_cons, List.map_cons, eqZ, h, eqZ_ints n ws vs]
    simp [List.cons.injEq, Bool.decide_and]
theorem eq_tp (ws vs : List Int) (δ : De) (G : List M) : eqP [.v (.im (tpI ws)), .v (.im (tpI vs))] δ G = some (.v (.im (.bl (decide (ws = vs)))), δ, G) := by
  have := eqZ_ints 40 ws vs
  have h : eqD 41 (tpI ws) (tpI vs) = some (decide (ws = vs)) := by rw [← this]; rfl
  have hm : mixI (tpI ws) (tpI vs) = false := rfl
  simp only [eqP, eqE, imE, hm, h, Bool.false_eq_true, if_false]
theorem eq_in (a b : Int) (δ : De) (G : List M) : eqP [.v (.im (.int a)), .v (.im (.int b))] δ G = some (.v (.im (.bl (decide (a = b)))), δ, G) := by
  simp [eqP, eqE, imE, mixI, eqD, flI, eqFl]
  try exact Bool.beq_eq_decide_eq _ _
theorem ne_bl (a : Bool) (δ : De) (G : List M) : neP [.v (.im (.bl a)), .v (.im (.bl a))] δ G = some (.v (.im (.bl false)), δ, G) := by
  cases a <;> simp [neP, eqE, imE, mixI, eqD, flI, eqFl]
noncomputable def Sd (gs : List Mk) (rows : List (List Int)) (seals : List Int) : Prop := ∀ (j : Nat) (ws : List Int) (n : Int), rows[j]? = some ws → seals[j]? = some n → ∃ d, d ≤ 6 ∧ ws.length = 2 ^ d ∧ Sl gs d n ws
theorem Sd.ex {gs gs' : List Mk} {rows : List (List Int)} {seals : List Int} (h : Sd gs rows seals) (x : Ex gs gs') : Sd gs' rows seals := fun j ws n h1 h2 => let ⟨d, a, b, c⟩ := h j ws n h1 h2; ⟨d, a, b, x.sl c⟩
theorem Sd.snoc {gs : List Mk} {rows : List (List Int)} {seals : List Int} {ws : List Int} {n : Int} {d : Nat} (h : Sd gs rows seals) (hr : rows[seals.length]? = some ws) (hd : d ≤ 6) (hw : ws.length = 2 ^ d) (hs : Sl gs d n ws) : Sd gs rows (seals ++ [n]) := fun j vs m h1 h2 => by
  by_cases hj : j < seals.length
  · rw [List.getElem?_append_left hj] at h2; exact h j vs m h1 h2
  · have hj' : j < (seals ++ [n]).length := (List.getElem?_eq_some_iff.mp h2).1
    rw [List.length_append, List.length_singleton] at hj'
    obtain rfl : j = seals.length := by lia
    rw [hr] at h1
    cases h1
    simp at h2
    subst h2
    exact ⟨d, hd, hw, hs⟩
theorem Sd.same {gs : List Mk} {rows : List (List Int)} {seals : List Int} (nd : gs.Nodup) (h : Sd gs rows seals) {j k : Nat} {ws vs : List Int} {n m : Int} (h1 : rows[j]? = some ws) (h2 : seals[j]? = some n) (h3 : rows[k]? = some vs) (h4 : seals[k]? = some m) : decide (n = m) = decide (ws = vs) := by
  obtain ⟨d, _, lw, sw⟩ := h j ws n h1 h2
  obtain ⟨c, _, lv, sv⟩ := h k vs m h3 h4
  have key : n = m ↔ ws = vs := by
    constructor
    · intro e
      subst e
      have e := sw.tr.val sv.tr
      have ed : d = c := by have := congrArg Tr.dep e; rw [mkT_dep, mkT_dep] at this; exact this
      subst ed
      exact mkT_inj lw lv e
    · intro e
      subst e
      have ed : d = c := by
        have : 2 ^ d = 2 ^ c := lw.symm.trans lv
        exact (Nat.pow_right_inj (by decide)).mp this
      subst ed
      exact sw.uniq nd sv
  by_cases e : n = m
  · rw [decide_eq_true e, decide_eq_true (key.mp e)]
  · rw [decide_eq_false e, decide_eq_false (fun z => e (key.mpr z))]
theorem Sd.bd {gs : List Mk} {rows : List (List Int)} {seals : List Int} (h : Sd gs rows seals) (hl : seals.length ≤ rows.length) {n : Int} (hn : n ∈ seals) : 1 ≤ n ∧ n ≤ gs.length := by
  obtain ⟨j, hj, e⟩ := List.getElem_of_mem hn
  obtain ⟨d, _, _, s⟩ := h j rows[j] n (List.getElem?_eq_getElem (by lia)) (by rw [List.getElem?_eq_getElem hj, e])
  exact s.tr.bd
theorem maxL_mem : ∀ {ns : List Int}, ns ≠ [] → maxL ns ∈ ns
  | [], h => absurd rfl h
  | [i], _ => by simp [maxL]
  | i :: j :: r, _ => by
    have ih := maxL_mem (ns := j :: r) (by simp)
    show max i (maxL (j :: r)) ∈ _
    rcases Int.le_total i (maxL (j :: r)) with g | g
    · rw [Int.max_eq_right g]; exact List.mem_cons_of_mem _ ih
    · rw [Int.max_eq_left g]; exact List.mem_cons_self
theorem minL_mem : ∀ {ns : List Int}, ns ≠ [] → minL ns ∈ ns
  | [], h => absurd rfl h
  | [i], _ => by simp [minL]
  | i :: j :: r, _ => by
    have ih := minL_mem (ns := j :: r) (by simp)
    show min i (minL (j :: r)) ∈ _
    rcases Int.le_total i (minL (j :: r)) with g | g
    · rw [Int.min_eq_left g]; exact List.mem_cons_self
    · rw [Int.min_eq_right g]; exact List.mem_cons_of_mem _ ih
section
variable {ts tsO : List Tr} {G : List M} {gs go : List Mk} {ns : List Int} {v4 v5 v6 v7 v8 v9 v10 v11 : Option Vl} {rows : List (List Int)} {seals : List Int} {R : Nat}
theorem w1_turn {j k : Nat} (nd : gs.Nodup) (h : Sd gs rows seals) (hR : G[R]? = some (.lst (rows.map tpI))) (hl : seals.length = rows.length) (hj : j < rows.length) (hk : k < rows.length) : F_law_w1b (lwD ns (some (.im (.ref R))) v5 (some (.ow (.lst (seals.map I.int)))) v7 v8 (some (.im (.int k))) (some (.im (.int j))) v11) G = some (.nx (lwD ns (some (.im (.ref R))) v5 (some (.ow (.lst (seals.map I.int)))) v7 v8 (some (.im (.int k))) (some (.im (.int j))) v11) G) := by
  have s1 : seals[j]? = some seals[j] := List.getElem?_eq_getElem (by lia)
  have s2 : seals[k]? = some seals[k] := List.getElem?_eq_getElem (by lia)
  have r1 : rows[j]? = some rows[j] := List.getElem?_eq_getElem hj
  have r2 : rows[k]? = some rows[k] := List.getElem?_eq_getElem hk
  have e := h.same nd r1 s1 r2 s2
  have a1 : atI (seals.map I.int) (j : Int) = some (.int seals[j]) := atI_nat (by rw [List.getElem?_map, s1]; rfl)
  have a2 : atI (seals.map I.int) (k : Int) = some (.int seals[k]) := atI_nat (by rw [List.getElem?_map, s2]; rfl)
  have a3 : atI (rows.map tpI) (j : Int) = some (tpI rows[j]) := atI_nat (by rw [List.getElem?_map, r1]; rfl)
  have a4 : atI (rows.map tpI) (k : Int) = some (tpI rows[k]) := atI_nat (by rw [List.getElem?_map, r2]; rfl)
  have b1 := eq_in seals[j] seals[k]
  have b2 := eq_tp rows[j] rows[k]
  obtain ⟨δ, hδ⟩ : ∃ δ, lwD ns (some (.im (.ref R))) v5 (some (.ow (.lst (seals.map I.int)))) v7 v8 (some (.im (.int k))) (some (.im (.int j))) v11 = δ := ⟨_, rfl⟩
  have i1 : opF ixP (varF 6) (varF 10) δ G = some (.v (.im (.int seals[j])), δ, G) := by subst hδ; simp_arith [lwD, a1]
  have i2 : opF ixP (varF 6) (varF 9) δ G = some (.v (.im (.int seals[k])), δ, G) := by subst hδ; simp_arith [lwD, a2]
  have i3 : opF ixP (varF 4) (varF 10) δ G = some (.v (.im (tpI rows[j])), δ, G) := by subst hδ; simp_arith [lwD, hR, a3]
  have i4 : opF ixP (varF 4) (varF 9) δ G = some (.v (.im (tpI rows[k])), δ, G) := by subst hδ; simp_arith [lwD, hR, a4]
  rw [hδ]
  refine ite_f (δ1 := δ) (G1 := G) (tst_go (op_go (op_go i1 i2 (b1 δ G)) (op_go i3 i4 (b2 δ G)) ?_)) rfl
  rw [e]; exact ne_bl _ _ _
theorem w2_turn {k : Nat} (nd : gs.Nodup) (h : Sd gs rows seals) (hR : G[R]? = some (.lst (rows.map tpI))) (hl : seals.length = rows.length) (hr : rows.length ≤ 1000) (hk : k < rows.length) : ∃ v10', F_law_w2b (lwD ns (some (.im (.ref R))) v5 (some (.ow (.lst (seals.map I.int)))) v7 v8 (some (.im (.int k))) v10 v11) G = some (.nx (lwD ns (some (.im (.ref R))) v5 (some (.ow (.lst (seals.map I.int)))) v7 v8 (some (.im (.int k))) v10' v11) G) := by
  obtain ⟨δ', G', e, v', ed, eg⟩ := fT_inv (w := upW k) (g := gNm 10) (b := F_law_w1b)
    (fun i δ G' => ∃ v', δ = lwD ns (some (.im (.ref R))) v5 (some (.ow (.lst (seals.map I.int)))) v7 v8 (some (.im (.int k))) v' v11 ∧ G' = G)
    (fun i δ Ga hi ⟨v', ed, eg⟩ => by
      have hi : i < k := hi
      subst ed; subst eg
      exact ⟨.int i, _, Ga, _, Ga, rfl, rfl, w1_turn nd h hR hl (j := i) (by lia) hk, _, rfl, rfl⟩)
    (fun _ _ _ => rfl) k 0 (lwD ns (some (.im (.ref R))) v5 (some (.ow (.lst (seals.map I.int)))) v7 v8 (some (.im (.int k))) v10 v11) G (by simp [upW]) ⟨v10, rfl, rfl⟩
  subst ed; subst eg
  exact ⟨v', for_go (rng_it (n := k) (j := k) rfl rfl (by lia)) e⟩
end
end
section
noncomputable def G8 (a : Int) (so le : List Int) : List M := [.lst (so.map I.int), .lst (le.map I.int), .obj "House" (hsI 3 4), .lst [], .dit [], .obj "House" (hsI 6 7), .lst [], .dit [], .dic (dealI a 0 1)]
theorem hs0 {G : List M} {h g s : Nat} (ob : G[h]? = some (.obj "House" (hsI g s))) (gl : G[g]? = some (.lst [])) (sd : G[s]? = some (.dit [])) (n1 : h ≠ g) (n2 : h ≠ s) (n3 : g ≠ s) : Hs [] G h g s [] :=
  ⟨⟨ob, gl, sd, n1, n2, n3, List.nodup_nil, fun j hj => absurd hj (Nat.not_lt_zero _)⟩, (fun s hs => by cases hs), by decide⟩
theorem wd0 {a : Int} {so le : List Int} (a0 : 0 ≤ a) (a1 : a < 2147483647) (hm : ∀ m ∈ le, 0 ≤ m) : Wd [] [] (G8 a so le) [] [] :=
  ⟨⟨a, 0, le, rfl, rfl, by decide, a0, a1, Int.le_refl 0, hm⟩, hs0 rfl rfl rfl (by decide) (by decide) (by decide), hs0 rfl rfl rfl (by decide) (by decide) (by decide)⟩
section
variable {ts tsO : List Tr} {G : List M} {gs go : List Mk} {ns : List Int} {v4 v5 v6 v7 v8 v9 v10 v11 : Option Vl} {rows : List (List Int)} {seals : List Int} {R : Nat}
theorem loop1 {N : Nat} (W : Wd ts tsO G gs go) (hN : N ≤ 6) : ∃ rows v5' G', fTurns (upW N) (gNm 5) F_law_w4b 0 N (lwD ns (some (.ow (.lst []))) v5 v6 v7 v8 v9 v10 v11) G = some (.nx (lwD ns (some (.ow (.lst (rows.map tpI)))) v5' v6 v7 v8 v9 v10 v11) G') ∧ Wd ts tsO G' gs go ∧ Rw rows ∧ rows.length ≤ 12 ∧ (0 < N → 0 < rows.length) := by
  obtain ⟨δ', G', e, rows, v', ed, W', R', l, p⟩ := fT_inv (w := upW N) (g := gNm 5) (b := F_law_w4b)
    (fun i δ G' => ∃ rows v', δ = lwD ns (some (.ow (.lst (rows.map tpI)))) v' v6 v7 v8 v9 v10 v11 ∧ Wd ts tsO G' gs go ∧ Rw rows ∧ rows.length ≤ 2 * i ∧ (0 < i → 0 < rows.length))
    (fun i δ Ga hi ⟨rows, v', ed, W', R', l, p⟩ => by
      have hi : i < N := hi
      subst ed
      obtain ⟨rows', Gb, e, W'', R'', l', p'⟩ := w4_turn (ns := ns) (v5 := some (.im (.int i))) (v6 := v6) (v7 := v7) (v8 := v8) (v9 := v9) (v10 := v10) (v11 := v11) W' R' (by lia)
      exact ⟨.int i, _, Ga, _, Gb, rfl, rfl, e, rows', _, rfl, W'', R'', by lia, fun _ => p'⟩)
    (fun _ _ _ => rfl) N 0 (lwD ns (some (.ow (.lst []))) v5 v6 v7 v8 v9 v10 v11) G (by simp [upW]) ⟨[], v5, rfl, W, (fun x hx => by cases hx), by simp, fun h => absurd h (Nat.lt_irrefl 0)⟩
  subst ed
  have l : rows.length ≤ 2 * N := l
  exact ⟨rows, v', G', e, W', R', by lia, p⟩
/-- what holds from the second loop on -/
structure Wf (R : Nat) (rows : List (List Int)) (seals : List Int) (v7 : Option Vl) (ts tsO : List Tr) (G : List M) (gs go : List Mk) : Prop where
  W : Wd ts tsO G gs go
  tn : ts.Nodup
  has : ∀ t ∈ ts, ∃ n, TrS gs t n
  kn : Kn ts v7 G
  hR : G[R]? = some (.lst (rows.map tpI))
  h9 : 9 ≤ R
  sd : Sd gs rows seals
theorem Wf.cnt (F : Wf R rows seals v7 ts tsO G gs go) : gs.length = ts.length := count F.W.S.hg.nd F.W.S.hg.cl F.has F.tn
theorem loop2 {G : List M} (F : Wf R rows [] v7 [] [] G gs go) (Rr : Rw rows) (hl : rows.length ≤ 12) : ∃ seals v7' v8' ts tsO gs' go' G', fTurns (lsW (.v (.im (.ref R))) rows.length) (gNm 8) F_law_w3b 0 rows.length (lwD ns (some (.im (.ref R))) v5 (some (.ow (.lst []))) v7 v8 v9 v10 v11) G = some (.nx (lwD ns (some (.im (.ref R))) v5 (some (.ow (.lst (seals.map I.int)))) v7' v8' v9 v10 v11) G') ∧
    Wf R rows seals v7' ts tsO G' gs' go' ∧ seals.length = rows.length ∧ ts.length < 10000 ∧ tsO.length < 10000 ∧ ∀ ws ∈ rows, ∃ d, d ≤ 6 ∧ ws.length = 2 ^ d ∧ mkT d ws ∈ ts := by
  obtain ⟨δ', G', e, seals, v', v8', ts, tsO, gs', go', ed, F', l, lt, lo, al⟩ := fT_inv (w := lsW (.v (.im (.ref R))) rows.length) (g := gNm 8) (b := F_law_w3b)
    (fun i δ G' => ∃ seals v' v8' ts tsO gs' go', δ = lwD ns (some (.im (.ref R))) v5 (some (.ow (.lst (seals.map I.int)))) v' v8' v9 v10 v11 ∧ Wf R rows seals v' ts tsO G' gs' go' ∧ seals.length = i ∧ ts.length ≤ 128 * i ∧ tsO.length ≤ i ∧ ∀ j, j < i → ∀ ws, rows[j]? = some ws → ∃ d, d ≤ 6 ∧ ws.length = 2 ^ d ∧ mkT d ws ∈ ts)
    (fun i δ Ga hi ⟨seals, v', v8', ts, tsO, gs', go', ed, F', l, lt, lo, al⟩ => by
      have hi : i < rows.length := hi
      subst ed
      have hr : rows[i]? = some rows[i] := List.getElem?_eq_getElem hi
      obtain ⟨d, hd, hw⟩ := Rr rows[i] (List.getElem_mem hi)
      obtain ⟨n, K, tsO2, gs2, go2, G2, e, W2, tn2, has2, kn2, R2, x2, sl, lo2⟩ := w3_turn (ns := ns) (v4 := some (.im (.ref R))) (v5 := v5) (v9 := v9) (v10 := v10) (v11 := v11) (seals := seals) F'.W F'.tn F'.has F'.kn F'.hR F'.h9 (by lia) (by lia) (by lia) hw hd
      have hat : (lsW (.v (.im (.ref R))) rows.length).at_ i (lwD ns (some (.im (.ref R))) v5 (some (.ow (.lst (seals.map I.int)))) v' v8' v9 v10 v11) Ga = some (tpI rows[i]) := by
        simp [lsW, sq, pk, F'.hR, hi]
      have tl := addT_len (mkT d rows[i]) ts
      have hsz := szT_mkT d rows[i]
      have p7 : 2 ^ (d + 1) ≤ 2 ^ 7 := Nat.pow_le_pow_right (by decide) (by lia)
      have p7 : 2 ^ (d + 1) ≤ 128 := p7
      refine ⟨tpI rows[i], lwD ns (some (.im (.ref R))) v5 (some (.ow (.lst (seals.map I.int)))) v' (some (.im (tpI rows[i]))) v9 v10 v11, Ga, _, G2, hat, rfl, e, seals ++ [n], _, _, _, tsO2, gs2, go2, rfl, ⟨W2, tn2, has2, kn2, R2, F'.h9, (F'.sd.ex x2).snoc (by rw [l]; exact hr) hd hw sl⟩, by simp [l], by lia, by lia, fun j hj ws hws => ?_⟩
      by_cases z : j < i
      · obtain ⟨c, h1, h2, h3⟩ := al j z ws hws
        exact ⟨c, h1, h2, (F'.W.S.sc.mem _ _).mpr (.inl h3)⟩
      · obtain rfl : j = i := by lia
        rw [hr] at hws
        cases hws
        exact ⟨d, hd, hw, (F'.W.S.sc.mem _ _).mpr (.inr (Sub.refl _))⟩)
    (fun δ Ga ⟨seals, v', v8', ts, tsO, gs', go', ed, F', _⟩ => by simp [lsW, sq, pk, F'.hR]) rows.length 0 (lwD ns (some (.im (.ref R))) v5 (some (.ow (.lst []))) v7 v8 v9 v10 v11) G (by simp [lsW]) ⟨[], v7, v8, [], [], gs, go, rfl, F, rfl, by simp, by simp, fun j hj => absurd hj (Nat.not_lt_zero _)⟩
  subst ed
  rw [lsW_n] at l lt lo al
  refine ⟨seals, v', v8', ts, tsO, gs', go', G', e, F', l, by lia, by lia, fun ws hws => ?_⟩
  obtain ⟨j, hj, e⟩ := List.getElem_of_mem hws
  exact al j hj ws (by rw [List.getElem?_eq_getElem hj, e])
theorem loop3 {N : Nat} (F : Wf R rows seals v7 ts tsO G gs go) (hl : seals.length = rows.length) (hr : rows.length ≤ 1000) (hN : N = rows.length) : ∃ v9' v10', fTurns (upW N) (gNm 9) F_law_w2b 0 N (lwD ns (some (.im (.ref R))) v5 (some (.ow (.lst (seals.map I.int)))) v7 v8 v9 v10 v11) G = some (.nx (lwD ns (some (.im (.ref R))) v5 (some (.ow (.lst (seals.map I.int)))) v7 v8 v9' v10' v11) G) := by
  obtain ⟨δ', G', e, v', v'', ed, eg⟩ := fT_inv (w := upW N) (g := gNm 9) (b := F_law_w2b)
    (fun i δ G' => ∃ v' v'', δ = lwD ns (some (.im (.ref R))) v5 (some (.ow (.lst (seals.map I.int)))) v7 v8 v' v'' v11 ∧ G' = G)
    (fun i δ Ga hi ⟨v', v'', ed, eg⟩ => by
      have hi : i < N := hi
      subst ed; subst eg
      obtain ⟨w, e⟩ := w2_turn (ns := ns) (k := i) (v5 := v5) (v7 := v7) (v8 := v8) (v10 := v'') (v11 := v11) F.W.S.hg.nd F.sd F.hR hl hr (by lia)
      exact ⟨.int i, _, Ga, _, Ga, rfl, rfl, e, _, _, rfl, rfl⟩)
    (fun _ _ _ => rfl) N 0 (lwD ns (some (.im (.ref R))) v5 (some (.ow (.lst (seals.map I.int)))) v7 v8 v9 v10 v11) G (by simp [upW]) ⟨v9, v10, rfl, rfl⟩
  subst ed; subst eg
  exact ⟨v', v'', e⟩
/-- the house goes on, or the other one -/
theorem Wf.on {ix : List Nat} {G' : List M} {gs' go' : List Mk} {tsO' : List Tr} (F : Wf R rows seals v7 ts tsO G gs go) (W : Wd ts tsO' G' gs' go') (x : Ex gs gs') (f : Fr ix G G') (h : ∀ k ∈ ix, k < 9) : Wf R rows seals v7 ts tsO' G' gs' go' :=
  ⟨W, F.tn, fun t ht => let ⟨n, a⟩ := F.has t ht; ⟨n, x.trs a⟩, F.kn.fr f h, f.at F.hR (fun z => by have := h _ z; have := F.h9; lia), F.h9, F.sd.ex x⟩
theorem len7 (k : Kn ts v7 G) : bd (consF (varF 7) nilF) lenN (lwD ns v4 v5 v6 v7 v8 v9 v10 v11) G = some (.v (.im (.int ts.length)), lwD ns v4 v5 v6 v7 v8 v9 v10 v11, G) := by
  rcases k with k | ⟨K, e, h1, h2⟩
  · subst k; rfl
  · subst e; simp_arith [lwD, lenN, h1]
theorem many2 (F : Wf R rows seals v7 ts tsO G gs go) : methF "House" "many" 1 F_House_many (varF 2) nilF (lwD ns v4 v5 v6 v7 v8 v9 v10 v11) G = some (.v (.im (.int gs.length)), lwD ns v4 v5 v6 v7 v8 v9 v10 v11, G) := by
  have em := many_ok F.W.S.hg
  simp_arith [lwD, F.W.S.hg.ob, n_many, em]
theorem again (F : Wf R rows seals v7 ts tsO G gs go) (hl : seals.length = rows.length) (hr : rows.length ≤ 1000) (al : ∀ ws ∈ rows, ∃ d, d ≤ 6 ∧ ws.length = 2 ^ d ∧ mkT d ws ∈ ts) : ∃ gs' G', compF (itF (one (boxF (varF 4))) seqP) [2] c1 yesF (bd (consF (varF 1) (consF (varF 0) nilF)) (callP 2 F_seal_of)) (lwD ns (some (.im (.ref R))) v5 v6 v7 v8 v9 v10 v11) G = some (.v (.ow (.lst (seals.map I.int))), lwD ns (some (.im (.ref R))) v5 v6 v7 v8 v9 v10 v11, G') ∧ Wf R rows seals v7 ts tsO G' gs' go := by
  obtain ⟨ds, G', e, gs', F', ed⟩ := cT_inv (w := lsW (.v (.im (.ref R))) rows.length) (c := c1) (tt := yesF) (te := bd (consF (varF 1) (consF (varF 0) nilF)) (callP 2 F_seal_of)) (di := [some (.im (.ref 2))]) (δ := lwD ns (some (.im (.ref R))) v5 v6 v7 v8 v9 v10 v11)
    (fun i acc G' => ∃ gs', Wf R rows seals v7 ts tsO G' gs' go ∧ acc = (seals.take i).map I.int)
    (fun i acc Ga hi ⟨gs', F', ea⟩ => by
      have hi : i < rows.length := hi
      have hr : rows[i]? = some rows[i] := List.getElem?_eq_getElem hi
      have hs : seals[i]? = some seals[i] := List.getElem?_eq_getElem (by lia)
      obtain ⟨d, hd, hw, hm⟩ := al rows[i] (List.getElem_mem hi)
      obtain ⟨n, gs2, G2, e, W2, x2, sl, f2⟩ := F'.W.seal hw hd hm
      have F2 := F'.on W2 x2 f2 (by decide)
      obtain ⟨c, _, hw', sl'⟩ := F2.sd i _ _ hr hs
      obtain rfl : c = d := (Nat.pow_right_inj (by decide)).mp (hw'.symm.trans hw)
      have en : n = seals[i] := sl.uniq W2.S.hg.nd sl'
      refine ⟨tpI rows[i], [tpI rows[i]], [some (.im (tpI rows[i])), some (.im (.ref 2))], Ga, .int seals[i], [some (.im (tpI rows[i])), some (.im (.ref 2))], G2, ?_, rfl, rfl, bd_go (cons_go rfl (cons_go (es := []) rfl rfl)) (call_go rfl rfl (by rw [← en]; exact e)), gs2, F2, ?_⟩
      · simp [lsW, sq, pk, F'.hR, hi]
      · rw [ea, List.take_add_one, hs, List.map_append]; rfl)
    (fun acc Ga ⟨gs', F', _⟩ => by simp [lsW, sq, pk, F'.hR]) rows.length 0 [] G (by simp [lsW]) ⟨gs, F, by simp⟩
  have hn : (lsW (.v (.im (.ref R))) rows.length).n = rows.length := rfl
  rw [hn, ← hl, List.take_length] at ed
  refine ⟨gs', G', ?_, F'⟩
  rw [ed] at e
  refine comp_go (δ0 := lwD ns (some (.im (.ref R))) v5 v6 v7 v8 v9 v10 v11) (G0 := G) (w := lsW (.v (.im (.ref R))) rows.length) (es := [.v (.im (.ref R))]) (δ1 := lwD ns (some (.im (.ref R))) v5 v6 v7 v8 v9 v10 v11) (G1 := G) rfl (seq_it (xs := rows.map tpI) rfl rfl (by simp [sq, pk, F.hR]) (by simp)) ?_ e
  rw [hn]; lia
theorem rights (F : Wf R rows seals v7 ts tsO G gs go) (hr : rows.length ≤ 1000) (al : ∀ ws ∈ rows, ∃ d, d ≤ 6 ∧ ws.length = 2 ^ d ∧ mkT d ws ∈ ts) : ∃ gs' G', compF (itF (one (boxF (varF 4))) seqP) [2] c1 yesF (bd (consF (varF 1) (consF (varF 0) nilF)) (callP 2 F__law_opened_right)) (lwD ns (some (.im (.ref R))) v5 v6 v7 v8 v9 v10 v11) G = some (.v (.ow (.lst ((List.replicate rows.length true).map I.bl))), lwD ns (some (.im (.ref R))) v5 v6 v7 v8 v9 v10 v11, G') ∧ Wf R rows seals v7 ts tsO G' gs' go := by
  obtain ⟨ds, G', e, gs', F', ed⟩ := cT_inv (w := lsW (.v (.im (.ref R))) rows.length) (c := c1) (tt := yesF) (te := bd (consF (varF 1) (consF (varF 0) nilF)) (callP 2 F__law_opened_right)) (di := [some (.im (.ref 2))]) (δ := lwD ns (some (.im (.ref R))) v5 v6 v7 v8 v9 v10 v11)
    (fun i acc G' => ∃ gs', Wf R rows seals v7 ts tsO G' gs' go ∧ acc = (List.replicate i true).map I.bl)
    (fun i acc Ga hi ⟨gs', F', ea⟩ => by
      have hi : i < rows.length := hi
      obtain ⟨d, hd, hw, hm⟩ := al rows[i] (List.getElem_mem hi)
      obtain ⟨gs2, G2, e, W2, x2, f2⟩ := F'.W.right hw hd hm
      have F2 := F'.on W2 x2 f2 (by decide)
      refine ⟨tpI rows[i], [tpI rows[i]], [some (.im (tpI rows[i])), some (.im (.ref 2))], Ga, .bl true, [some (.im (tpI rows[i])), some (.im (.ref 2))], G2, ?_, rfl, rfl, bd_go (cons_go rfl (cons_go (es := []) rfl rfl)) (call_go rfl rfl e), gs2, F2, ?_⟩
      · simp [lsW, sq, pk, F'.hR, hi]
      · rw [ea, List.replicate_succ', List.map_append]; rfl)
    (fun acc Ga ⟨gs', F', _⟩ => by simp [lsW, sq, pk, F'.hR]) rows.length 0 [] G (by simp [lsW]) ⟨gs, F, by simp⟩
  have hn : (lsW (.v (.im (.ref R))) rows.length).n = rows.length := rfl
  rw [hn] at ed
  refine ⟨gs', G', ?_, F'⟩
  rw [ed] at e
  refine comp_go (δ0 := lwD ns (some (.im (.ref R))) v5 v6 v7 v8 v9 v10 v11) (G0 := G) (w := lsW (.v (.im (.ref R))) rows.length) (es := [.v (.im (.ref R))]) (δ1 := lwD ns (some (.im (.ref R))) v5 v6 v7 v8 v9 v10 v11) (G1 := G) rfl (seq_it (xs := rows.map tpI) rfl rfl (by simp [sq, pk, F.hR]) (by simp)) ?_ e
  rw [hn]; lia
end
end
section
theorem law_true (ns : List Int) (h : ns.length ≤ 63) : ∃ G, F_law [.im (.fro (ns.map I.int))] [] = some (.im (.bl true), G) := by
  obtain ⟨a, so, le, e0, a0, a1, hm⟩ := deal_ok (b := 0) (G := []) h (by lia)
  have e0 : F__law_deal [.im (.fro (ns.map I.int)), .im (.int 0)] [] = some (.ow (.dic (dealI a 0 1)), [.lst (so.map I.int), .lst (le.map I.int)]) := e0
  have i1 := init_ok (G := [.lst (so.map I.int), .lst (le.map I.int)])
  have i1 : F_House_init [.im (.ref 2)] [.lst (so.map I.int), .lst (le.map I.int), .obj "House" []] = some (.im .non, [.lst (so.map I.int), .lst (le.map I.int), .obj "House" (hsI 3 4), .lst [], .dit []]) := i1
  have i2 := init_ok (G := [.lst (so.map I.int), .lst (le.map I.int), .obj "House" (hsI 3 4), .lst [], .dit []])
  have i2 : F_House_init [.im (.ref 5)] [.lst (so.map I.int), .lst (le.map I.int), .obj "House" (hsI 3 4), .lst [], .dit [], .obj "House" []] = some (.im .non, [.lst (so.map I.int), .lst (le.map I.int), .obj "House" (hsI 3 4), .lst [], .dit [], .obj "House" (hsI 6 7), .lst [], .dit []]) := i2
  have W0 := wd0 (so := so) a0 a1 hm
  obtain ⟨r1, G1, e1, b0, b1, W1, _⟩ := W0.draw (many := 6) (by decide) (by decide)
  obtain ⟨N0, rfl⟩ := Int.eq_ofNat_of_zero_le b0
  obtain ⟨rows, v5, G2, e2, W2, Rr, lr, pr⟩ := loop1 (ns := ns) (N := N0 + 1) (v5 := none) (v6 := none) (v7 := none) (v8 := none) (v9 := none) (v10 := none) (v11 := none) W1 (by lia)
  have pr := pr (by lia)
  obtain ⟨R, hRe⟩ : ∃ R, G2.length = R := ⟨_, rfl⟩
  have F2 : Wf R rows [] (some (.ow (.dnt []))) [] [] (G2 ++ [.lst (rows.map tpI)]) [] [] :=
    ⟨W2.fr (Fr.app _) (by simp), List.nodup_nil, (fun t ht => by cases ht), .inl rfl, by rw [← hRe]; simp, by have := W2.lt; lia, fun j ws n _ h2 => by simp at h2⟩
  obtain ⟨seals, v7, v8, ts, tsO, gs, go, G3, e3, F3, ls, lt, lo, al⟩ := loop2 (ns := ns) (v5 := v5) (v8 := none) (v9 := none) (v10 := none) (v11 := none) F2 Rr lr
  obtain ⟨v9, v10, e4⟩ := loop3 (N := rows.length) (ns := ns) (v5 := v5) (v8 := v8) (v9 := none) (v10 := none) (v11 := none) F3 ls (by lia) rfl
  obtain ⟨gs5, G5, e5, F5⟩ := again (ns := ns) (v5 := v5) (v6 := some (.ow (.lst (seals.map I.int)))) (v8 := v8) (v9 := v9) (v10 := v10) (v11 := none) F3 ls (by lia) al
  obtain ⟨gs6, G6, e6, F6⟩ := rights (ns := ns) (v5 := v5) (v6 := some (.ow (.lst (seals.map I.int)))) (v8 := v8) (v9 := v9) (v10 := v10) (v11 := none) F5 (by lia) al
  have hr0 : rows[0]? = some rows[0] := List.getElem?_eq_getElem pr
  obtain ⟨d, hd, hw, _⟩ := al rows[0] (List.getElem_mem pr)
  have hsz := szT_mkT d rows[0]
  have p7 : 2 ^ (d + 1) ≤ 2 ^ 7 := Nat.pow_le_pow_right (by decide) (by lia)
  have p7 : 2 ^ (d + 1) ≤ 128 := p7
  have W6 := F6.W.addO (mkT d rows[0]) (by lia)
  have hmO : mkT d rows[0] ∈ addT (mkT d rows[0]) tsO := (F6.W.O.sc.mem _ _).mpr (.inr (Sub.refl _))
  obtain ⟨n7, go7, G7, e7, W7, x7, s7, f7⟩ := W6.sealO hw hd hmO
  have F7 := F6.on W7 (Ex.refl _) f7 (by decide)
  obtain ⟨n8, go8, G8', e8, W8, x8, s8, f8⟩ := W7.sealO hw hd hmO
  have F8 := F7.on W8 (Ex.refl _) f8 (by decide)
  have en : n8 = n7 := s8.uniq W8.O.hg.nd (x8.sl s7)
  obtain ⟨go9, G9, e9, W9, x9, f9⟩ := W8.rightO hw hd hmO
  have F9 := F8.on W9 (Ex.refl _) f9 (by decide)
  have hne : seals ≠ [] := fun z => by rw [z] at ls; simp at ls; lia
  have bmin := F3.sd.bd (by lia) (minL_mem hne)
  have bmax := F3.sd.bd (by lia) (maxL_mem hne)
  have glt := F3.W.S.lt
  have a0' : atI (rows.map tpI) 0 = some (tpI rows[0]) := atI_nat (j := 0) (by rw [List.getElem?_map, hr0]; rfl)
  have ix0 : ∀ {v11 : Option Vl} {G : List M}, G[R]? = some (.lst (rows.map tpI)) → opF ixP (varF 4) (conF (.int 0)) (lwD ns (some (.im (.ref R))) v5 (some (.ow (.lst (seals.map I.int)))) v7 v8 v9 v10 v11) G = some (.v (.im (tpI rows[0])), lwD ns (some (.im (.ref R))) v5 (some (.ow (.lst (seals.map I.int)))) v7 v8 v9 v10 v11, G) := fun hR => by
    simp_arith [lwD, hR, a0']
  refine ⟨G9, run_rt rfl ?_⟩
  refine seq_go (asg_go (x := .ow (.dic (dealI a 0 1))) (δ1 := [some (.im (.fro (ns.map I.int))), none, none, none, none, none, none, none, none, none, none, none]) (G1 := [.lst (so.map I.int), .lst (le.map I.int)]) (bd_go (cons_go rfl (cons_go rfl rfl)) (call_go rfl rfl e0)) rfl) ?_
  refine seq_go (asg_go (x := .im (.ref 2)) (δ1 := [some (.im (.fro (ns.map I.int))), some (.ow (.dic (dealI a 0 1))), none, none, none, none, none, none, none, none, none, none]) (G1 := [.lst (so.map I.int), .lst (le.map I.int), .obj "House" (hsI 3 4), .lst [], .dit []]) (by simp_arith [i1]) rfl) ?_
  refine seq_go (asg_go (x := .im (.ref 5)) (δ1 := [some (.im (.fro (ns.map I.int))), some (.ow (.dic (dealI a 0 1))), some (.im (.ref 2)), none, none, none, none, none, none, none, none, none]) (G1 := [.lst (so.map I.int), .lst (le.map I.int), .obj "House" (hsI 3 4), .lst [], .dit [], .obj "House" (hsI 6 7), .lst [], .dit []]) (by simp_arith [i2]) rfl) ?_
  refine seq_go (δ1 := [some (.im (.fro (ns.map I.int))), some (.ow (.dic (dealI a 0 1))), some (.im (.ref 2)), some (.im (.ref 5)), some (.ow (.lst [])), none, none, none, none, none, none, none]) (G1 := [.lst (so.map I.int), .lst (le.map I.int), .obj "House" (hsI 3 4), .lst [], .dit [], .obj "House" (hsI 6 7), .lst [], .dit []]) rfl ?_
  refine seq_go (for_go (rng_it (n := N0 + 1) (j := 1 + (N0 : Int)) (δ1 := lwD ns (some (.ow (.lst []))) none none none none none none none) (G1 := G1) ?_ (by lia) (by lia)) e2) ?_
  · refine cons_go (e := .v (.im (.int (1 + (N0 : Int))))) (es := []) (op_go (x := .v (.im (.int 1))) (y := .v (.im (.int N0))) (δ2 := lwD ns (some (.ow (.lst []))) none none none none none none none) (G2 := G1) rfl (bd_go (cons_go (e := .v (.im (.ref 8))) (δ1 := lwD ns (some (.ow (.lst []))) none none none none none none none) (G1 := G8 a so le) rfl (cons_go (es := []) rfl rfl)) (call_go rfl rfl e1)) rfl) rfl
  refine seq_go (δ1 := lwD ns (some (.ow (.lst (rows.map tpI)))) v5 (some (.ow (.lst []))) none none none none none) (G1 := G2) rfl ?_
  refine seq_go (δ1 := lwD ns (some (.ow (.lst (rows.map tpI)))) v5 (some (.ow (.lst []))) (some (.ow (.dnt []))) none none none none) (G1 := G2) rfl ?_
  refine seq_go (for_go (seq_it (e := .v (.im (.ref R))) (n := rows.length) (xs := rows.map tpI) (δ1 := lwD ns (some (.im (.ref R))) v5 (some (.ow (.lst []))) (some (.ow (.dnt []))) none none none none) (G1 := G2 ++ [M.lst (rows.map tpI)]) (by rw [← hRe]; rfl) rfl (by simp [sq, pk, ← hRe]) (by simp)) e3) ?_
  refine seq_go (ite_f (δ1 := lwD ns (some (.im (.ref R))) v5 (some (.ow (.lst (seals.map I.int)))) v7 v8 none none none) (G1 := G3) ?_ rfl) ?_
  · have hmi : intsI (seals.map I.int) = some seals := intsI_map seals
    obtain ⟨n0, nr, es⟩ : ∃ n0 nr, seals = n0 :: nr := by
      cases seals with
      | nil => exact absurd rfl hne
      | cons x y => exact ⟨x, y, rfl⟩
    have c1 : decide (minL seals < 1) = false := decide_eq_false (by lia)
    have c2 : decide ((10 : Int) ^ 12 ≤ maxL seals) = false := decide_eq_false (by lia)
    rw [es] at hmi c1 c2 ⊢
    have c1' : ¬ (minL (n0 :: nr) < 1) := of_decide_eq_false c1
    have c2' : ¬ ((1000000000000 : Int) ≤ maxL (n0 :: nr)) := of_decide_eq_false c2
    have hmi' : intsI (I.int n0 :: nr.map I.int) = some (n0 :: nr) := hmi
    refine or_f (δ1 := lwD ns (some (.im (.ref R))) v5 (some (.ow (.lst ((n0 :: nr).map I.int)))) v7 v8 none none none) (G1 := G3) ?_ ?_
    · simp_arith [lwD, min1P, hmi', c1']
    · simp_arith [lwD, max1P, hmi', c2']
  refine seq_go (for_go (rng_it (n := rows.length) (j := rows.length) (δ1 := lwD ns (some (.im (.ref R))) v5 (some (.ow (.lst (seals.map I.int)))) v7 v8 none none none) (G1 := G3) ?_ rfl (by lia)) e4) ?_
  · simp_arith [lwD, F3.hR]
  refine seq_go (ite_f (δ1 := lwD ns (some (.im (.ref R))) v5 (some (.ow (.lst (seals.map I.int)))) v7 v8 v9 v10 none) (G1 := G5) (or_f (δ1 := lwD ns (some (.im (.ref R))) v5 (some (.ow (.lst (seals.map I.int)))) v7 v8 v9 v10 none) (G1 := G5) (tst_go (op_go e5 rfl ?_)) (tst_go (op_go (many2 F5) (len7 F5.kn) (by rw [F5.cnt]; exact ne_int _ _ _)))) rfl) ?_
  · have := eqZ_ints 40 seals seals
    simp [neP, eqE, imE, pk, lwD, this]
  refine seq_go (ite_f (δ1 := lwD ns (some (.im (.ref R))) v5 (some (.ow (.lst (seals.map I.int)))) v7 v8 v9 v10 none) (G1 := G6) (not_go (b := true) (bd_go (bd_go (cons_go (es := []) e6 rfl) (r := some (.v (.im (.bl true)), lwD ns (some (.im (.ref R))) v5 (some (.ow (.lst (seals.map I.int)))) v7 v8 v9 v10 none, G6)) ?_) rfl)) rfl) ?_
  · have hb : blsI ((List.replicate rows.length true).map I.bl) = some (List.replicate rows.length true) := blsI_map _
    have hp : pk (lwD ns (some (.im (.ref R))) v5 (some (.ow (.lst (seals.map I.int)))) v7 v8 v9 v10 none) G6 (.v (.ow (.lst ((List.replicate rows.length true).map I.bl)))) = some (.lst ((List.replicate rows.length true).map I.bl)) := rfl
    have ha : (List.replicate rows.length true).all id = true := by simp
    simp only [allP, hp, hb, ha]
  refine seq_go (asg_go (x := .im (.int n7)) (δ1 := lwD ns (some (.im (.ref R))) v5 (some (.ow (.lst (seals.map I.int)))) v7 v8 v9 v10 none) (G1 := G7) (bd_go (cons_go (e := .v (.im (.ref 5))) rfl (cons_go (es := []) (ix0 F6.hR) rfl)) (call_go rfl rfl e7)) rfl) ?_
  refine ret_go (δ1 := lwD ns (some (.im (.ref R))) v5 (some (.ow (.lst (seals.map I.int)))) v7 v8 v9 v10 (some (.im (.int n7)))) ?_
  refine bd_go (a := .v (.im (.bl true))) (δ1 := lwD ns (some (.im (.ref R))) v5 (some (.ow (.lst (seals.map I.int)))) v7 v8 v9 v10 (some (.im (.int n7)))) (G1 := G8') (op_go (bd_go (cons_go (e := .v (.im (.ref 5))) rfl (cons_go (es := []) (ix0 F7.hR) rfl)) (call_go rfl rfl e8)) rfl ?_) ?_
  · rw [eq_in, decide_eq_true en]
  refine bd_go (a := .v (.im (.bl true))) (δ1 := lwD ns (some (.im (.ref R))) v5 (some (.ow (.lst (seals.map I.int)))) v7 v8 v9 v10 (some (.im (.int n7)))) (G1 := G9) (bd_go (cons_go (e := .v (.im (.ref 5))) rfl (cons_go (es := []) (ix0 F8.hR) rfl)) (call_go rfl rfl e9)) ?_
  refine op_go (many2 F9) (len7 F9.kn) ?_
  rw [eq_in, decide_eq_true (by rw [F9.cnt])]
end
end Q
namespace Q
open PySem PySem.Spec PyProof.Rows L2 B
noncomputable def top (i : Nat) : Stmt := PySem.Challenge.pw_stepcourt_k22_seals_of_trees.main.body.getD i (.Pass ⟨0, 0, 0, 0⟩)
structure Tx (K : PySem.W.Frag) (mg : Str → Option Value) (κ : Str → Addr) : Prop where
  c_House : Cls K (κ "House")
  g_House : mg "House" = some (.ref (κ "House"))
  n_House_given : NoAttr K (κ "House") "given"
  n_House_seals : NoAttr K (κ "House") "seals"
  b_all : mg "all" = none
  b_bool : mg "bool" = none
  b_int : mg "int" = none
  b_isinstance : mg "isinstance" = none
  b_len : mg "len" = none
  b_list : mg "list" = none
  b_max : mg "max" = none
  b_min : mg "min" = none
  b_range : mg "range" = none
  b_reversed : mg "reversed" = none
  b_tuple : mg "tuple" = none
  b_zip : mg "zip" = none
section
variable {P : Program} {w : World} {K : PySem.W.Frag} {mg : Str → Option Value} {base : Heap} {κ : Str → Addr}
theorem sc__law_deal : FnScope ["_law_script", "_law_base", "_law_some", "_law_number", "_law_one"] ["_law_script", "_law_base"] (defScope (top 5)) := mkFS
theorem ok__law_deal {f : Addr} {fd : FuncData} (F : Fun K "_law_deal" "_law_deal" (top 5) f fd) (E : Tx K mg κ) : FnOk P w K mg base CX0 1 f fd ["_law_script", "_law_base"] (UpF K κ 2 F__law_deal) :=
  lift F sc__law_deal rfl rfl fun cdv A outer s H _ hr => (ss_cons (s_comp1 (i := 2) (compOkN_of (osc := (defScope (top 5))) (N := ["_law_script", "_law_base", "_law_some", "_law_number", "_law_one"]) (xs := ["_law_one"]) (ys := []) (ix := []) rfl rfl (by decide +kernel)) (i_seq (e_sli (e_var 0) (po_some' (e_var 1)) (po_some' e_int))) (fun z => i_nil) (fun z => (e_max2 hr E.b_max (a_cons (e_var 0) (a_cons (e_op (q_sub hr) p_sub e_int (e_var 0)) a_nil)))) sc__law_deal.nd)
  (ss_cons (s_set (i := 3) sc__law_deal.nd (e_op (q_add hr) p_add e_int (e_var 1)))
  (ss_cons (s_for (i_seq (e_box (e_var 2))) (g_nm (i := 4) sc__law_deal.nd)
  (ss_one (s_set (i := 3) sc__law_deal.nd (e_op (q_mod hr) p_mod (e_op (q_add hr) p_add (e_op (q_mul hr) p_mul (e_var 3) e_int) (e_op (q_mod hr) p_mod (e_var 4) e_int)) e_int))))
  (ss_one (s_ret (e_dic hr (d_cons e_str (e_var 3) (d_cons e_str e_int (d_cons e_str (e_box (e_lrev E.b_list E.b_reversed (e_comp1 (compOkN_of (osc := (defScope (top 5))) (N := ["_law_script", "_law_base", "_law_some", "_law_number", "_law_one"]) (xs := ["_law_one"]) (ys := []) (ix := []) rfl rfl (by decide +kernel)) (i_seq (e_box (e_var 2))) (fun z => (i_one (t_ge hr (e_var 0) (e_op (q_pow hr) p_pow e_int e_int)))) (fun z => (e_var 0))))) d_nil)))))))))
theorem sc_House_init : FnScope ["self"] ["self"] (defScope (inClass (top 3) 0)) := mkFS
theorem ok_House_init {f : Addr} {fd : FuncData} (F : Fun K "__init__" "House.__init__" (inClass (top 3) 0) f fd) (E : Tx K mg κ) : FnOk P w K mg base CX0 1 f fd ["self"] (UpF K κ 1 F_House_init) :=
  lift F sc_House_init rfl rfl fun cdv A outer s H _ hr => (ss_cons (s_fld E.c_House E.n_House_given (e_var 0) (e_box (e_lst a_nil)))
  (ss_one (s_fld E.c_House E.n_House_seals (e_var 0) (e_box e_dnewT))))
theorem sc_House_seal_for : FnScope ["self", "made"] ["self", "made"] (defScope (inClass (top 3) 1)) := mkFS
theorem ok_House_seal_for {f : Addr} {fd : FuncData} (F : Fun K "seal_for" "House.seal_for" (inClass (top 3) 1) f fd) (E : Tx K mg κ) : FnOk P w K mg base CX0 1 f fd ["self", "made"] (UpF K κ 2 F_House_seal_for) :=
  lift F sc_House_seal_for rfl rfl fun cdv A outer s H _ hr => (ss_cons (s_if (t_nin hr (e_var 1) (e_fld E.c_House E.n_House_seals (e_var 0)))
  (ss_cons (s_expr (e_append1 hr (e_fld E.c_House E.n_House_given (e_var 0)) (a_cons (e_var 1) a_nil)))
  (ss_one (s_put hr (e_fld E.c_House E.n_House_seals (e_var 0)) (e_var 1) (e_len hr E.b_len (a_cons (e_fld E.c_House E.n_House_given (e_var 0)) a_nil)))))
  ss_nil)
  (ss_one (s_ret (e_ix hr (e_fld E.c_House E.n_House_seals (e_var 0)) (e_var 1)))))
theorem sc_House_leaf : FnScope ["self", "word"] ["self", "word"] (defScope (inClass (top 3) 2)) := mkFS
theorem ok_House_leaf {f : Addr} {fd : FuncData} (F : Fun K "leaf" "House.leaf" (inClass (top 3) 2) f fd) (E : Tx K mg κ) (h_House_seal_for : HasM P w K mg base (κ "House") "seal_for" 1 ["self", "made"] (UpF K κ 2 F_House_seal_for)) : FnOk P w K mg base CX0 2 f fd ["self", "word"] (UpF K κ 2 F_House_leaf) :=
  lift F sc_House_leaf rfl rfl fun cdv A outer s H _ hr => (ss_one (s_ret (e_meth h_House_seal_for E.c_House (rm hr) (e_var 0) (a_cons (e_tup (a_cons e_str (a_cons (e_var 1) a_nil))) a_nil))))
theorem sc_House_pair : FnScope ["self", "one", "other"] ["self", "one", "other"] (defScope (inClass (top 3) 3)) := mkFS
theorem ok_House_pair {f : Addr} {fd : FuncData} (F : Fun K "pair" "House.pair" (inClass (top 3) 3) f fd) (E : Tx K mg κ) (h_House_seal_for : HasM P w K mg base (κ "House") "seal_for" 1 ["self", "made"] (UpF K κ 2 F_House_seal_for)) : FnOk P w K mg base CX0 2 f fd ["self", "one", "other"] (UpF K κ 3 F_House_pair) :=
  lift F sc_House_pair rfl rfl fun cdv A outer s H _ hr => (ss_one (s_ret (e_meth h_House_seal_for E.c_House (rm hr) (e_var 0) (a_cons (e_tup (a_cons e_str (a_cons (e_var 1) (a_cons (e_var 2) a_nil)))) a_nil))))
theorem sc_seal_of : FnScope ["house", "words", "seals"] ["house", "words"] (defScope (top 1)) := mkFS
theorem ok_seal_of {f : Addr} {fd : FuncData} (F : Fun K "seal_of" "seal_of" (top 1) f fd) (E : Tx K mg κ) (h_House_pair : HasM P w K mg base (κ "House") "pair" 2 ["self", "one", "other"] (UpF K κ 3 F_House_pair)) (h_House_leaf : HasM P w K mg base (κ "House") "leaf" 2 ["self", "word"] (UpF K κ 2 F_House_leaf)) : FnOk P w K mg base CX0 3 f fd ["house", "words"] (UpF K κ 2 F_seal_of) :=
  lift F sc_seal_of rfl rfl fun cdv A outer s H _ hr => (ss_cons (s_comp1 (i := 2) (compOkN_of (osc := (defScope (top 1))) (N := ["house", "words", "seals"]) (xs := ["word"]) (ys := ["house"]) (ix := [0]) rfl rfl (by decide +kernel)) (i_seq (e_var 1)) (fun z => i_nil) (fun z => (e_meth h_House_leaf E.c_House (rm hr) (e_var 1) (a_cons (e_var 0) a_nil))) sc_seal_of.nd)
  (ss_cons (s_while (t_gt hr (e_len hr E.b_len (a_cons (e_var 2) a_nil)) e_int)
  (ss_one (s_comp2 (i := 2) (compOkN_of (osc := (defScope (top 1))) (N := ["house", "words", "seals"]) (xs := ["one", "other"]) (ys := ["house"]) (ix := [0]) rfl rfl (by decide +kernel)) (i_zip E.b_zip (a_cons (e_box (e_stp (e_var 2) po_none' po_none' e_int)) (a_cons (e_box (e_stp (e_var 2) (po_some' e_int) po_none' e_int)) a_nil))) (fun z => i_nil) (fun z => (e_meth h_House_pair E.c_House (rm hr) (e_var 2) (a_cons (e_var 0) (a_cons (e_var 1) a_nil)))) sc_seal_of.nd)))
  (ss_one (s_ret (e_ix hr (e_var 2) e_int)))))
theorem sc__law_within : FnScope ["_law_tree_here", "_law_found", "_law_left", "_law_one"] ["_law_tree_here", "_law_found"] (defScope (top 11)) := mkFS
theorem ok__law_within {f : Addr} {fd : FuncData} (F : Fun K "_law_within" "_law_within" (top 11) f fd) (E : Tx K mg κ) : FnOk P w K mg base CX0 1 f fd ["_law_tree_here", "_law_found"] (UpF K κ 2 F__law_within) :=
  lift F sc__law_within rfl rfl fun cdv A outer s H _ hr => (ss_cons (s_set (i := 2) sc__law_within.nd (e_lst (a_cons (e_var 0) a_nil)))
  (ss_cons (s_while (t_ne hr (e_var 2) (e_lst a_nil))
  (ss_cons (s_set (i := 3) sc__law_within.nd (e_pop0 (e_var 2)))
  (ss_one (s_if (t_ninN hr (e_var 3) (e_var 1))
  (ss_cons (s_putN hr (e_var 1) (e_var 3) e_bl)
  (ss_one (s_expr (e_extend1 hr (e_var 2) (a_cons (e_comp1 (compOkN_of (osc := (defScope (top 11))) (N := ["_law_tree_here", "_law_found", "_law_left", "_law_one"]) (xs := ["_law_part"]) (ys := []) (ix := []) rfl rfl (by decide +kernel)) (i_seq (e_sli (e_var 3) (po_some' e_int) po_none')) (fun z => (i_one (t_tru (e_isinst2 hr E.b_isinstance (a_cons (e_var 0) (a_cons (e_ty (by rfl) E.b_tuple PyProof.Rows.boot_tuple) a_nil)))))) (fun z => (e_var 0))) a_nil)))))
  ss_nil))))
  (ss_one (s_ret (e_var 1)))))
theorem sc_House_opened : FnScope ["self", "seal"] ["self", "seal"] (defScope (inClass (top 3) 4)) := mkFS
theorem ok_House_opened {f : Addr} {fd : FuncData} (F : Fun K "opened" "House.opened" (inClass (top 3) 4) f fd) (E : Tx K mg κ) : FnOk P w K mg base CX0 1 f fd ["self", "seal"] (UpF K κ 2 F_House_opened) :=
  lift F sc_House_opened rfl rfl fun cdv A outer s H _ hr => (ss_cons (s_if (t_w (w_or (t_lt hr (e_var 1) e_int) (w_or1 (t_gt hr (e_var 1) (e_len hr E.b_len (a_cons (e_fld E.c_House E.n_House_given (e_var 0)) a_nil))))))
  (ss_one (s_ret e_non))
  ss_nil)
  (ss_one (s_ret (e_ix hr (e_fld E.c_House E.n_House_given (e_var 0)) (e_op (q_sub hr) p_sub (e_var 1) e_int)))))
theorem sc__law_opened_right : FnScope ["_law_house", "_law_words", "_law_left", "_law_met", "_law_some", "_law_half", "_law_due"] ["_law_house", "_law_words"] (defScope (top 12)) := mkFS
theorem ok__law_opened_right {f : Addr} {fd : FuncData} (F : Fun K "_law_opened_right" "_law_opened_right" (top 12) f fd) (E : Tx K mg κ) (h_House_opened : HasM P w K mg base (κ "House") "opened" 1 ["self", "seal"] (UpF K κ 2 F_House_opened)) (h_seal_of : Has P w K mg base "seal_of" 3 ["house", "words"] (UpF K κ 2 F_seal_of)) : FnOk P w K mg base CX0 4 f fd ["_law_house", "_law_words"] (UpF K κ 2 F__law_opened_right) :=
  lift F sc__law_opened_right rfl rfl fun cdv A outer s H _ hr => (ss_cons (s_set (i := 2) sc__law_opened_right.nd (e_lst (a_cons (e_var 1) a_nil)))
  (ss_cons (s_set (i := 3) sc__law_opened_right.nd e_dnewT)
  (ss_cons (s_while (t_ne hr (e_var 2) (e_lst a_nil))
  (ss_cons (s_set (i := 4) sc__law_opened_right.nd (e_pop0 (e_var 2)))
  (ss_one (s_if (t_nin hr (e_var 4) (e_var 3))
  (ss_cons (s_put hr (e_var 3) (e_var 4) e_bl)
  (ss_cons (s_set (i := 5) sc__law_opened_right.nd (e_op (q_fdiv hr) p_fdiv (e_len hr E.b_len (a_cons (e_var 4) a_nil)) e_int))
  (ss_cons (s_set (i := 6) sc__law_opened_right.nd (e_tup (a_cons e_str (a_cons (e_ix hr (e_var 4) e_int) a_nil))))
  (ss_cons (s_if (t_gt hr (e_var 5) e_int)
  (ss_cons (s_set (i := 6) sc__law_opened_right.nd (e_tup (a_cons e_str (a_cons (e_call h_seal_of (rm hr) (a_cons (e_var 0) (a_cons (e_sli (e_var 4) po_none' (po_some' (e_var 5))) a_nil))) (a_cons (e_call h_seal_of (rm hr) (a_cons (e_var 0) (a_cons (e_sli (e_var 4) (po_some' (e_var 5)) po_none') a_nil))) a_nil)))))
  (ss_one (s_expr (e_extend1 hr (e_var 2) (a_cons (e_lst (a_cons (e_sli (e_var 4) po_none' (po_some' (e_var 5))) (a_cons (e_sli (e_var 4) (po_some' (e_var 5)) po_none') a_nil))) a_nil)))))
  ss_nil)
  (ss_one (s_if (t_ne hr (e_meth h_House_opened E.c_House (rm hr) (e_var 0) (a_cons (e_call h_seal_of (rm hr) (a_cons (e_var 0) (a_cons (e_var 4) a_nil))) a_nil)) (e_var 6))
  (ss_one (s_ret e_bl))
  ss_nil))))))
  ss_nil))))
  (ss_one (s_ret e_bl)))))
theorem sc__law_draw : FnScope ["_law_deal_here", "_law_many", "_law_number", "_law_one", "_law_other"] ["_law_deal_here", "_law_many"] (defScope (top 6)) := mkFS
theorem ok__law_draw {f : Addr} {fd : FuncData} (F : Fun K "_law_draw" "_law_draw" (top 6) f fd) (E : Tx K mg κ) : FnOk P w K mg base CX0 1 f fd ["_law_deal_here", "_law_many"] (UpF K κ 2 F__law_draw) :=
  lift F sc__law_draw rfl rfl fun cdv A outer s H _ hr => (ss_cons (s_while (t_w (w_and (t_eq hr (e_ix hr (e_var 0) e_str) e_int) (w_and1 (t_gt hr (e_len hr E.b_len (a_cons (e_ix hr (e_var 0) e_str) a_nil)) e_int))))
  (ss_one (s_put hr (e_var 0) e_str (e_pop0 (e_ix hr (e_var 0) e_str)))))
  (ss_cons (s_set (i := 2) sc__law_draw.nd (e_ix hr (e_var 0) e_str))
  (ss_cons (s_if (t_gt hr (e_var 2) e_int)
  (ss_cons (s_put hr (e_var 0) e_str (e_op (q_fdiv hr) p_fdiv (e_var 2) (e_var 1)))
  (ss_one (s_ret (e_op (q_mod hr) p_mod (e_var 2) (e_var 1)))))
  ss_nil)
  (ss_cons (s_set (i := 3) sc__law_draw.nd (e_op (q_mod hr) p_mod (e_op (q_add hr) p_add (e_op (q_mul hr) p_mul (e_ix hr (e_var 0) e_str) e_int) e_int) e_int))
  (ss_cons (s_put hr (e_var 0) e_str (e_op (q_mod hr) p_mod (e_op (q_add hr) p_add (e_op (q_mul hr) p_mul (e_var 3) e_int) e_int) e_int))
  (ss_cons (s_set (i := 4) sc__law_draw.nd (e_op (q_mod hr) p_mod (e_op (q_mul hr) p_mul (e_ix hr (e_var 0) e_str) (e_ix hr (e_var 0) e_str)) e_int))
  (ss_one (s_ret (e_op (q_mod hr) p_mod (e_op (q_add hr) p_add (e_op (q_mul hr) p_mul (e_op (q_mod hr) p_mod (e_op (q_mul hr) p_mul (e_var 3) (e_var 3)) e_int) e_int) (e_var 4)) (e_var 1))))))))))
theorem sc__law_word : FnScope ["_law_deal_here"] ["_law_deal_here"] (defScope (top 7)) := mkFS
theorem ok__law_word {f : Addr} {fd : FuncData} (F : Fun K "_law_word" "_law_word" (top 7) f fd) (E : Tx K mg κ) (h__law_draw : Has P w K mg base "_law_draw" 1 ["_law_deal_here", "_law_many"] (UpF K κ 2 F__law_draw)) : FnOk P w K mg base CX0 2 f fd ["_law_deal_here"] (UpF K κ 1 F__law_word) :=
  lift F sc__law_word rfl rfl fun cdv A outer s H _ hr => (ss_one (s_ret (e_ix hr (e_lst (a_cons (e_call h__law_draw (rm hr) (a_cons (e_var 0) (a_cons e_int a_nil))) (a_cons (e_op (q_sub hr) p_sub (e_op (q_sub hr) p_sub e_int e_int) (e_call h__law_draw (rm hr) (a_cons (e_var 0) (a_cons e_int a_nil)))) (a_cons (e_call h__law_draw (rm hr) (a_cons (e_var 0) (a_cons e_int a_nil))) a_nil)))) (e_call h__law_draw (rm hr) (a_cons (e_var 0) (a_cons e_int a_nil))))))
theorem sc__law_row : FnScope ["_law_deal_here", "_law_depth", "_law_few", "_law_found", "_law_form"] ["_law_deal_here", "_law_depth"] (defScope (top 8)) := mkFS
theorem ok__law_row {f : Addr} {fd : FuncData} (F : Fun K "_law_row" "_law_row" (top 8) f fd) (E : Tx K mg κ) (h__law_draw : Has P w K mg base "_law_draw" 1 ["_law_deal_here", "_law_many"] (UpF K κ 2 F__law_draw)) (h__law_word : Has P w K mg base "_law_word" 2 ["_law_deal_here"] (UpF K κ 1 F__law_word)) : FnOk P w K mg base CX0 3 f fd ["_law_deal_here", "_law_depth"] (UpF K κ 2 F__law_row) :=
  lift F sc__law_row rfl rfl fun cdv A outer s H _ hr => (ss_cons (s_set (i := 2) sc__law_row.nd (e_comp1 (compOkN_of (osc := (defScope (top 8))) (N := ["_law_deal_here", "_law_depth", "_law_few", "_law_found", "_law_form"]) (xs := ["_law_k"]) (ys := ["_law_deal_here"]) (ix := [0]) rfl rfl (by decide +kernel)) (i_rng1 E.b_range (a_cons (e_op (q_add hr) p_add e_int (e_call h__law_draw (rm hr) (a_cons (e_var 0) (a_cons e_int a_nil)))) a_nil)) (fun z => i_nil) (fun z => (e_call h__law_word (rm hr) (a_cons (e_var 1) a_nil)))))
  (ss_cons (s_comp1 (i := 3) (compOkN_of (osc := (defScope (top 8))) (N := ["_law_deal_here", "_law_depth", "_law_few", "_law_found", "_law_form"]) (xs := ["_law_k"]) (ys := ["_law_few", "_law_deal_here"]) (ix := [2, 0]) rfl rfl (by decide +kernel)) (i_rng1 E.b_range (a_cons (e_op (q_shl hr) p_shl e_int (e_var 1)) a_nil)) (fun z => i_nil) (fun z => (e_ix hr (e_var 1) (e_call h__law_draw (rm hr) (a_cons (e_var 2) (a_cons (e_len hr E.b_len (a_cons (e_var 1) a_nil)) a_nil))))) sc__law_row.nd)
  (ss_cons (s_set (i := 4) sc__law_row.nd (e_call h__law_draw (rm hr) (a_cons (e_var 0) (a_cons e_int a_nil))))
  (ss_cons (s_if (t_w (w_and (t_gt hr (e_var 1) e_int) (w_and1 (t_eq hr (e_var 4) e_int))))
  (ss_one (s_set (i := 3) sc__law_row.nd (e_op (q_mul hr) p_mul (e_sli (e_var 3) po_none' (po_some' (e_op (q_fdiv hr) p_fdiv (e_op (q_shl hr) p_shl e_int (e_var 1)) e_int))) e_int)))
  ss_nil)
  (ss_cons (s_if (t_eq hr (e_var 4) e_int)
  (ss_one (s_comp1 (i := 3) (compOkN_of (osc := (defScope (top 8))) (N := ["_law_deal_here", "_law_depth", "_law_few", "_law_found", "_law_form"]) (xs := ["_law_k"]) (ys := ["_law_few"]) (ix := [2]) rfl rfl (by decide +kernel)) (i_rng1 E.b_range (a_cons (e_op (q_shl hr) p_shl e_int (e_var 1)) a_nil)) (fun z => i_nil) (fun z => (e_op (q_mod hr) p_mod (e_op (q_add hr) p_add (e_ix hr (e_var 1) e_int) (e_op (q_mul hr) p_mul e_int (e_var 0))) e_int)) sc__law_row.nd))
  ss_nil)
  (ss_one (s_ret (e_tuple hr E.b_tuple (a_cons (e_var 3) a_nil)))))))))
theorem sc__law_tree : FnScope ["_law_words", "_law_half"] ["_law_words"] (defScope (top 9)) := mkFS
theorem ok__law_tree {f : Addr} {fd : FuncData} {n : Nat} (F : Fun K "_law_tree" "_law_tree" (top 9) f fd) (E : Tx K mg κ) (h__law_tree : Has P w K mg base "_law_tree" (1 + n) ["_law_words"] (UpF K κ 1 (F__law_tree n))) : FnOk P w K mg base CX0 (1 + n + 1) f fd ["_law_words"] (UpF K κ 1 (F__law_tree (n + 1))) := by
  unfold F__law_tree
  exact lift F sc__law_tree rfl rfl fun cdv A outer s H _ hr => (ss_cons (s_if (t_eq hr (e_len hr E.b_len (a_cons (e_var 0) a_nil)) e_int)
  (ss_one (s_ret (e_tup (a_cons e_str (a_cons (e_ix hr (e_var 0) e_int) a_nil)))))
  ss_nil)
  (ss_cons (s_set (i := 1) sc__law_tree.nd (e_op (q_fdiv hr) p_fdiv (e_len hr E.b_len (a_cons (e_var 0) a_nil)) e_int))
  (ss_one (s_ret (e_tup (a_cons e_str (a_cons (e_call h__law_tree (rm hr) (a_cons (e_sli (e_var 0) po_none' (po_some' (e_var 1))) a_nil)) (a_cons (e_call h__law_tree (rm hr) (a_cons (e_sli (e_var 0) (po_some' (e_var 1)) po_none') a_nil)) a_nil))))))))
theorem sc_House_many : FnScope ["self"] ["self"] (defScope (inClass (top 3) 5)) := mkFS
theorem ok_House_many {f : Addr} {fd : FuncData} (F : Fun K "many" "House.many" (inClass (top 3) 5) f fd) (E : Tx K mg κ) : FnOk P w K mg base CX0 1 f fd ["self"] (UpF K κ 1 F_House_many) :=
  lift F sc_House_many rfl rfl fun cdv A outer s H _ hr => (ss_one (s_ret (e_len hr E.b_len (a_cons (e_fld E.c_House E.n_House_given (e_var 0)) a_nil))))
theorem sc__law_whole : FnScope ["_law_thing"] ["_law_thing"] (defScope (top 10)) := mkFS
theorem ok__law_whole {f : Addr} {fd : FuncData} (F : Fun K "_law_whole" "_law_whole" (top 10) f fd) (E : Tx K mg κ) : FnOk P w K mg base CX0 1 f fd ["_law_thing"] (UpF K κ 1 F__law_whole) :=
  lift F sc__law_whole rfl rfl fun cdv A outer s H _ hr => (ss_one (s_ret (e_and (e_isinst2 hr E.b_isinstance (a_cons (e_var 0) (a_cons (e_ty (by rfl) E.b_int PyProof.Rows.boot_int) a_nil))) (e_one (e_notv (e_isinst2 hr E.b_isinstance (a_cons (e_var 0) (a_cons (e_ty (by rfl) E.b_bool PyProof.Rows.boot_bool) a_nil))))))))
theorem sc_law : FnScope ["_law_script", "_law_deal_here", "_law_house", "_law_other", "_law_rows", "_law_turn", "_law_seals", "_law_known", "_law_words", "_law_k", "_law_j", "_law_some"] ["_law_script"] (defScope (top 13)) := mkFS
theorem ok_law {f : Addr} {fd : FuncData} (F : Fun K "law" "law" (top 13) f fd) (E : Tx K mg κ) (h_House_many : HasM P w K mg base (κ "House") "many" 1 ["self"] (UpF K κ 1 F_House_many)) (h__law_opened_right : Has P w K mg base "_law_opened_right" 4 ["_law_house", "_law_words"] (UpF K κ 2 F__law_opened_right)) (h_seal_of : Has P w K mg base "seal_of" 3 ["house", "words"] (UpF K κ 2 F_seal_of)) (h__law_whole : Has P w K mg base "_law_whole" 1 ["_law_thing"] (UpF K κ 1 F__law_whole)) (h__law_tree : Has P w K mg base "_law_tree" 9 ["_law_words"] (UpF K κ 1 (F__law_tree 8))) (h__law_within : Has P w K mg base "_law_within" 1 ["_law_tree_here", "_law_found"] (UpF K κ 2 F__law_within)) (h_House_leaf : HasM P w K mg base (κ "House") "leaf" 2 ["self", "word"] (UpF K κ 2 F_House_leaf)) (h__law_word : Has P w K mg base "_law_word" 2 ["_law_deal_here"] (UpF K κ 1 F__law_word)) (h__law_draw : Has P w K mg base "_law_draw" 1 ["_law_deal_here", "_law_many"] (UpF K κ 2 F__law_draw)) (h__law_row : Has P w K mg base "_law_row" 3 ["_law_deal_here", "_law_depth"] (UpF K κ 2 F__law_row)) (h_House_init : HasI P w K mg base (κ "House") 1 ["self"] (UpF K κ 1 F_House_init)) (h__law_deal : Has P w K mg base "_law_deal" 1 ["_law_script", "_law_base"] (UpF K κ 2 F__law_deal)) : FnOk P w K mg base CX0 10 f fd ["_law_script"] (UpF K κ 1 F_law) :=
  lift F sc_law rfl rfl fun cdv A outer s H _ hr => (ss_cons (s_set (i := 1) sc_law.nd (e_call h__law_deal (rm hr) (a_cons (e_var 0) (a_cons e_int a_nil))))
  (ss_cons (s_set (i := 2) sc_law.nd (e_make0 h_House_init (rm hr) E.g_House))
  (ss_cons (s_set (i := 3) sc_law.nd (e_make0 h_House_init (rm hr) E.g_House))
  (ss_cons (s_set (i := 4) sc_law.nd (e_lst a_nil))
  (ss_cons (s_for (i_rng1 E.b_range (a_cons (e_op (q_add hr) p_add e_int (e_call h__law_draw (rm hr) (a_cons (e_box (e_var 1)) (a_cons e_int a_nil)))) a_nil)) (g_nm (i := 5) sc_law.nd)
  (ss_cons (s_expr (e_append1 hr (e_var 4) (a_cons (e_call h__law_row (rm hr) (a_cons (e_box (e_var 1)) (a_cons (e_ix hr (e_lst (a_cons e_int (a_cons e_int (a_cons e_int (a_cons e_int (a_cons e_int (a_cons e_int a_nil))))))) (e_call h__law_draw (rm hr) (a_cons (e_box (e_var 1)) (a_cons e_int a_nil)))) a_nil))) a_nil)))
  (ss_one (s_if (t_eq hr (e_call h__law_draw (rm hr) (a_cons (e_box (e_var 1)) (a_cons e_int a_nil))) e_int)
  (ss_one (s_expr (e_append1 hr (e_var 4) (a_cons (e_ix hr (e_var 4) (e_call h__law_draw (rm hr) (a_cons (e_box (e_var 1)) (a_cons (e_len hr E.b_len (a_cons (e_var 4) a_nil)) a_nil)))) a_nil))))
  ss_nil))))
  (ss_cons (s_set (i := 6) sc_law.nd (e_lst a_nil))
  (ss_cons (s_set (i := 7) sc_law.nd e_dnewN)
  (ss_cons (s_for (i_seq (e_box (e_var 4))) (g_nm (i := 8) sc_law.nd)
  (ss_cons (s_expr (e_append1 hr (e_var 6) (a_cons (e_call h_seal_of (rm hr) (a_cons (e_var 2) (a_cons (e_var 8) a_nil))) a_nil)))
  (ss_cons (s_expr (e_meth h_House_leaf E.c_House (rm hr) (e_var 3) (a_cons (e_call h__law_word (rm hr) (a_cons (e_box (e_var 1)) a_nil)) a_nil)))
  (ss_cons (s_expr (e_call h__law_within (rm hr) (a_cons (e_call h__law_tree (rm hr) (a_cons (e_var 8) a_nil)) (a_cons (e_box (e_var 7)) a_nil))))
  (ss_one (s_if (t_w (w_or (t_ne hr (e_meth0 h_House_many E.c_House (rm hr) (e_var 2)) (e_lenN hr E.b_len (a_cons (e_var 7) a_nil))) (w_or (t_not (t_tru (e_call h__law_whole (rm hr) (a_cons (e_ix hr (e_var 6) (e_neg e_int)) a_nil)))) (w_or1 (t_not (t_tru (e_call h__law_whole (rm hr) (a_cons (e_meth0 h_House_many E.c_House (rm hr) (e_var 2)) a_nil))))))))
  (ss_one (s_ret e_bl))
  ss_nil))))))
  (ss_cons (s_if (t_w (w_or (t_lt hr (e_min1 hr E.b_min (a_cons (e_var 6) a_nil)) e_int) (w_or1 (t_ge hr (e_max1 hr E.b_max (a_cons (e_var 6) a_nil)) (e_op (q_pow hr) p_pow e_int e_int)))))
  (ss_one (s_ret e_bl))
  ss_nil)
  (ss_cons (s_for (i_rng1 E.b_range (a_cons (e_len hr E.b_len (a_cons (e_var 4) a_nil)) a_nil)) (g_nm (i := 9) sc_law.nd)
  (ss_one (s_for (i_rng1 E.b_range (a_cons (e_var 9) a_nil)) (g_nm (i := 10) sc_law.nd)
  (ss_one (s_if (t_ne hr (e_eq hr (e_ix hr (e_var 6) (e_var 10)) (e_ix hr (e_var 6) (e_var 9))) (e_eq hr (e_ix hr (e_var 4) (e_var 10)) (e_ix hr (e_var 4) (e_var 9))))
  (ss_one (s_ret e_bl))
  ss_nil)))))
  (ss_cons (s_if (t_w (w_or (t_ne hr (e_comp1 (compOkN_of (osc := (defScope (top 13))) (N := ["_law_script", "_law_deal_here", "_law_house", "_law_other", "_law_rows", "_law_turn", "_law_seals", "_law_known", "_law_words", "_law_k", "_law_j", "_law_some"]) (xs := ["_law_words"]) (ys := ["_law_house"]) (ix := [2]) rfl rfl (by decide +kernel)) (i_seq (e_box (e_var 4))) (fun z => i_nil) (fun z => (e_call h_seal_of (rm hr) (a_cons (e_var 1) (a_cons (e_var 0) a_nil))))) (e_var 6)) (w_or1 (t_ne hr (e_meth0 h_House_many E.c_House (rm hr) (e_var 2)) (e_lenN hr E.b_len (a_cons (e_var 7) a_nil))))))
  (ss_one (s_ret e_bl))
  ss_nil)
  (ss_cons (s_if (t_not (t_tru (e_all hr E.b_all (a_cons (e_comp1 (compOkN_of (osc := (defScope (top 13))) (N := ["_law_script", "_law_deal_here", "_law_house", "_law_other", "_law_rows", "_law_turn", "_law_seals", "_law_known", "_law_words", "_law_k", "_law_j", "_law_some"]) (xs := ["_law_words"]) (ys := ["_law_house"]) (ix := [2]) rfl rfl (by decide +kernel)) (i_seq (e_box (e_var 4))) (fun z => i_nil) (fun z => (e_call h__law_opened_right (rm hr) (a_cons (e_var 1) (a_cons (e_var 0) a_nil))))) a_nil))))
  (ss_one (s_ret e_bl))
  ss_nil)
  (ss_cons (s_set (i := 11) sc_law.nd (e_call h_seal_of (rm hr) (a_cons (e_var 3) (a_cons (e_ix hr (e_var 4) e_int) a_nil))))
  (ss_one (s_ret (e_and (e_eq hr (e_call h_seal_of (rm hr) (a_cons (e_var 3) (a_cons (e_ix hr (e_var 4) e_int) a_nil))) (e_var 11)) (e_and (e_call h__law_opened_right (rm hr) (a_cons (e_var 3) (a_cons (e_ix hr (e_var 4) e_int) a_nil))) (e_one (e_eq hr (e_meth0 h_House_many E.c_House (rm hr) (e_var 2)) (e_lenN hr E.b_len (a_cons (e_var 7) a_nil)))))))))))))))))))))
end
end Q
set_option maxHeartbeats 4000000
namespace Q
open PySem PySem.Spec PyProof.Rows L2 B
noncomputable def spLaw (K : PySem.W.Frag) : Sp := fun vs H Q _ => ∃ (a : Addr) (ns : List Int), vs = [.ref a] ∧ Only H ∧ SqL K H a (ns.map V.int) ∧ ns.length ≤ 63 ∧ ∀ H', Q (.bl true) H'
theorem ints_rel {K : PySem.W.Frag} {ι : List Addr} {H : Hp} : ∀ ns : List Int, RpIs K ι H (ns.map V.int) (ns.map I.int)
  | [] => .nil
  | n :: ns => .cons (.int n) (ints_rel ns)
theorem law_sp {P : Program} {w : World} {K : PySem.W.Frag} {mg : Str → Option Value} {base : Heap} {κ : Str → Addr} {f : Addr} {fd : FuncData} (h : FnOk P w K mg base CX0 10 f fd ["_law_script"] (UpF K κ 1 F_law)) : FnOk P w K mg base CX0 10 f fd ["_law_script"] (spLaw K) := by
  refine h.imp fun vs H Q E q => ?_
  obtain ⟨a, ns, rfl, ho, hs, hl, k⟩ := q
  have fr : FrL K H a (ns.map V.int) := by
    rcases hs with (z | ⟨o, z⟩) | z
    · rcases ho a with e | ⟨o, xs, e⟩ <;> (rw [z] at e; cases e)
    · exact .inl ⟨o, z⟩
    · exact .inr (.inr z)
  obtain ⟨G, e⟩ := law_true ns hl
  refine ⟨[], [.im (.fro (ns.map I.int))], [], _, G, rfl, ⟨.cons (.im (.fro fr (ints_rel ns))) .nil, .nil, fun x => ?_⟩, e, fun v ι' H' s st => ?_⟩
  · have : own (List.map some [V.ref a]) (List.map some [Vl.im (.fro (ns.map I.int))]) = [] := by show own1 _ _ ++ [] = []; rw [own1_im]; rfl
    rw [this]; simp
  · have := s.sl
    cases this with
    | cons q _ => cases q with
      | im r => cases r; exact k _
theorem us1 : ∀ (us : List Value), us.length = 1 → ∃ x0, us = [x0]
  | [x0], _ => ⟨x0, rfl⟩
theorem us2 : ∀ (us : List Value), us.length = 2 → ∃ x0 x1, us = [x0, x1]
  | [x0, x1], _ => ⟨x0, x1, rfl⟩
theorem us3 : ∀ (us : List Value), us.length = 3 → ∃ x0 x1 x2, us = [x0, x1, x2]
  | [x0, x1, x2], _ => ⟨x0, x1, x2, rfl⟩
noncomputable def BindP (x q : Str) (st : Stmt) (ps : List Str) : Prop := ∀ (kV doc pm : Value) (an : Option Addr) (cdv ct : Value) (us : List Value), us.length = ps.length → bindArgs (PySem.W.fnOf x q (defArgs st) (defBody st) (defScope st) .none kV doc pm an cdv ct) ⟨us, []⟩ = pure (ps.zip us)
section
variable {K : PySem.W.Frag} {mg : Str → Option Value} {h : Heap} {k : Nat} {ps : List Str} {sp : Sp} {f : Addr} {fd : FuncData} {C : Addr} {x q m : Str} {st : Stmt} (P : Program) (w : World) (base : Heap)
theorem hasFx (X : K.In h) (G : h.Ns mainGlobals mg) (a : PySem.W.nsIn K mainGlobals x = some (some (.ref f))) (F : Fun K m q st f fd) (o : FnOk P w K mg base CX0 k f fd ps sp) (hb : BindP m q st ps := by intro _ _ _ _ _ _ us hl; first | (obtain ⟨_, rfl⟩ := us1 us hl; rfl) | (obtain ⟨_, _, rfl⟩ := us2 us hl; rfl) | (obtain ⟨_, _, _, rfl⟩ := us3 us hl; rfl)) : Has P w K mg base x k ps sp := ⟨f, fd, PySem.W.mg_of X G a, F.kp, F.binds hb, o⟩
theorem hasMx (a : PySem.W.findIn K (.ref C) x = some (some (.ref f))) (i : PySem.W.isFn K (.ref f) = true) (F : Fun K m q st f fd) (o : FnOk P w K mg base CX0 k f fd ps sp) (hb : BindP m q st ps := by intro _ _ _ _ _ _ us hl; first | (obtain ⟨_, rfl⟩ := us1 us hl; rfl) | (obtain ⟨_, _, rfl⟩ := us2 us hl; rfl) | (obtain ⟨_, _, _, rfl⟩ := us3 us hl; rfl)) : HasM P w K mg base C x k ps sp := ⟨f, fd, ⟨a, i, F.kp⟩, F.binds hb, o⟩
theorem hasIx (mk : PySem.W.makesIn K C = true) (a : PySem.W.findIn K (.ref C) "__init__" = some (some (.ref f))) (i : PySem.W.isFn K (.ref f) = true) (kc : PySem.W.keepIn K (.ref C) = true) (F : Fun K m q st f fd) (o : FnOk P w K mg base CX0 k f fd ps sp) (hb : BindP m q st ps := by intro _ _ _ _ _ _ us hl; first | (obtain ⟨_, rfl⟩ := us1 us hl; rfl) | (obtain ⟨_, _, rfl⟩ := us2 us hl; rfl) | (obtain ⟨_, _, _, rfl⟩ := us3 us hl; rfl)) : HasI P w K mg base C k ps sp := ⟨f, fd, ⟨mk, a, i, kc⟩, F.binds hb, o⟩
end
theorem all_mk {l : PySem.W.OpenLaw} {w : World} {K : PySem.W.Frag} {h : Heap} {mg : Str → Option Value} {fa CHouse f1 f2 f3 f4 f5 f6 f7 f8 f9 f10 f11 f12 f13 f14 f15 f16 : Addr} (X : K.In h) (G : h.Ns mainGlobals mg) (hfa : mg "law" = some (.ref fa))
    {d1 d2 d3 d4 d5 d6 d7 d8 d9 d10 d11 d12 d13 d14 d15 d16 : FuncData}
    (aCHouse : PySem.W.nsIn K mainGlobals "House" = some (some (.ref CHouse)))
    (a1 : PySem.W.nsIn K mainGlobals "_law_deal" = some (some (.ref f1)))
    (F1 : Fun K "_law_deal" "_law_deal" (top 5) f1 d1)
    (a2 : PySem.W.findIn K (.ref CHouse) "__init__" = some (some (.ref f2))) (i2 : PySem.W.isFn K (.ref f2) = true)
    (F2 : Fun K "__init__" "House.__init__" (inClass (top 3) 0) f2 d2)
    (a3 : PySem.W.findIn K (.ref CHouse) "seal_for" = some (some (.ref f3))) (i3 : PySem.W.isFn K (.ref f3) = true)
    (F3 : Fun K "seal_for" "House.seal_for" (inClass (top 3) 1) f3 d3)
    (a4 : PySem.W.findIn K (.ref CHouse) "leaf" = some (some (.ref f4))) (i4 : PySem.W.isFn K (.ref f4) = true)
    (F4 : Fun K "leaf" "House.leaf" (inClass (top 3) 2) f4 d4)
    (a5 : PySem.W.findIn K (.ref CHouse) "pair" = some (some (.ref f5))) (i5 : PySem.W.isFn K (.ref f5) = true)
    (F5 : Fun K "pair" "House.pair" (inClass (top 3) 3) f5 d5)
    (a6 : PySem.W.nsIn K mainGlobals "seal_of" = some (some (.ref f6)))
    (F6 : Fun K "seal_of" "seal_of" (top 1) f6 d6)
    (a7 : PySem.W.nsIn K mainGlobals "_law_within" = some (some (.ref f7)))
    (F7 : Fun K "_law_within" "_law_within" (top 11) f7 d7)
    (a8 : PySem.W.findIn K (.ref CHouse) "opened" = some (some (.ref f8))) (i8 : PySem.W.isFn K (.ref f8) = true)
    (F8 : Fun K "opened" "House.opened" (inClass (top 3) 4) f8 d8)
    (a9 : PySem.W.nsIn K mainGlobals "_law_opened_right" = some (some (.ref f9)))
    (F9 : Fun K "_law_opened_right" "_law_opened_right" (top 12) f9 d9)
    (a10 : PySem.W.nsIn K mainGlobals "_law_draw" = some (some (.ref f10)))
    (F10 : Fun K "_law_draw" "_law_draw" (top 6) f10 d10)
    (a11 : PySem.W.nsIn K mainGlobals "_law_word" = some (some (.ref f11)))
    (F11 : Fun K "_law_word" "_law_word" (top 7) f11 d11)
    (a12 : PySem.W.nsIn K mainGlobals "_law_row" = some (some (.ref f12)))
    (F12 : Fun K "_law_row" "_law_row" (top 8) f12 d12)
    (a13 : PySem.W.nsIn K mainGlobals "_law_tree" = some (some (.ref f13)))
    (F13 : Fun K "_law_tree" "_law_tree" (top 9) f13 d13)
    (a14 : PySem.W.findIn K (.ref CHouse) "many" = some (some (.ref f14))) (i14 : PySem.W.isFn K (.ref f14) = true)
    (F14 : Fun K "many" "House.many" (inClass (top 3) 5) f14 d14)
    (a15 : PySem.W.nsIn K mainGlobals "_law_whole" = some (some (.ref f15)))
    (F15 : Fun K "_law_whole" "_law_whole" (top 10) f15 d15)
    (a16 : PySem.W.nsIn K mainGlobals "law" = some (some (.ref f16)))
    (F16 : Fun K "law" "law" (top 13) f16 d16)
    (pgHouse : PySem.W.plainGet K CHouse Str.empty = true) (hdHouse : PySem.W.hasDictIn K CHouse = true) (poHouse : PySem.W.plainOver K CHouse = true) (saHouse : PySem.W.findIn K (.ref CHouse) "__setattr__" = some (some (.builtin "object.__setattr__"))) (mkHouse : PySem.W.makesIn K CHouse = true) (kcHouse : PySem.W.keepIn K (.ref CHouse) = true)
    (nf0 : PySem.W.findIn K (.ref CHouse) "given" = some none)
    (nf1 : PySem.W.findIn K (.ref CHouse) "seals" = some none)
    (z0 : PySem.W.nsIn K mainGlobals "all" = some none)
    (z1 : PySem.W.nsIn K mainGlobals "bool" = some none)
    (z2 : PySem.W.nsIn K mainGlobals "int" = some none)
    (z3 : PySem.W.nsIn K mainGlobals "isinstance" = some none)
    (z4 : PySem.W.nsIn K mainGlobals "len" = some none)
    (z5 : PySem.W.nsIn K mainGlobals "list" = some none)
    (z6 : PySem.W.nsIn K mainGlobals "max" = some none)
    (z7 : PySem.W.nsIn K mainGlobals "min" = some none)
    (z8 : PySem.W.nsIn K mainGlobals "range" = some none)
    (z9 : PySem.W.nsIn K mainGlobals "reversed" = some none)
    (z10 : PySem.W.nsIn K mainGlobals "tuple" = some none)
    (z11 : PySem.W.nsIn K mainGlobals "zip" = some none)
    : ∃ fd : FuncData, (∀ (s : Shared) (v : Value), BindsTo s fd ⟨[v], []⟩ [("_law_script", v)]) ∧ ∀ base : Heap, K.In base → base.Ns mainGlobals mg → FnOk l.prog w K mg base CX0 10 fa fd ["_law_script"] (spLaw K) := by
  have e := hfa.symm.trans (PySem.W.mg_of X G a16)
  cases e
  obtain ⟨κ, hκ⟩ : ∃ κ : Str → Addr, κ "House" = CHouse := ⟨fun c : Str => if c = "House" then CHouse else 0, if_pos rfl⟩
  subst hκ
  have E : Tx K mg κ := ⟨⟨pgHouse, hdHouse, poHouse, saHouse⟩, PySem.W.mg_of X G aCHouse, nf0, nf1, PySem.W.mg_none_of X G z0, PySem.W.mg_none_of X G z1, PySem.W.mg_none_of X G z2, PySem.W.mg_none_of X G z3, PySem.W.mg_none_of X G z4, PySem.W.mg_none_of X G z5, PySem.W.mg_none_of X G z6, PySem.W.mg_none_of X G z7, PySem.W.mg_none_of X G z8, PySem.W.mg_none_of X G z9, PySem.W.mg_none_of X G z10, PySem.W.mg_none_of X G z11⟩
  obtain ⟨_, _, kV, dc, pm, an, cd, ct, _, rfl, _, _⟩ := F16.ex
  refine ⟨PySem.W.fnOf "law" "law" (defArgs (top 13)) (defBody (top 13)) (defScope (top 13)) .none kV dc pm an cd ct, fun s v => .of_eq rfl, fun base _ _ => ?_⟩
  have h__law_deal := hasFx l.prog w base X G a1 F1 (ok__law_deal F1 E )
  have h_House_init := hasIx l.prog w base mkHouse a2 i2 kcHouse F2 (ok_House_init F2 E )
  have h_House_seal_for := hasMx l.prog w base a3 i3 F3 (ok_House_seal_for F3 E )
  have h_House_leaf := hasMx l.prog w base a4 i4 F4 (ok_House_leaf F4 E h_House_seal_for)
  have h_House_pair := hasMx l.prog w base a5 i5 F5 (ok_House_pair F5 E h_House_seal_for)
  have h_seal_of := hasFx l.prog w base X G a6 F6 (ok_seal_of F6 E h_House_pair h_House_leaf)
  have h__law_within := hasFx l.prog w base X G a7 F7 (ok__law_within F7 E )
  have h_House_opened := hasMx l.prog w base a8 i8 F8 (ok_House_opened F8 E )
  have h__law_opened_right := hasFx l.prog w base X G a9 F9 (ok__law_opened_right F9 E h_House_opened h_seal_of)
  have h__law_draw := hasFx l.prog w base X G a10 F10 (ok__law_draw F10 E )
  have h__law_word := hasFx l.prog w base X G a11 F11 (ok__law_word F11 E h__law_draw)
  have h__law_row := hasFx l.prog w base X G a12 F12 (ok__law_row F12 E h__law_draw h__law_word)
  have r__law_tree : ∀ n : Nat, FnOk l.prog w K mg base CX0 (1 + n) f13 _ ["_law_words"] (UpF K κ 1 (F__law_tree n)) := fun n => by
    induction n with
    | zero => exact (by unfold F__law_tree; exact none_ok)
    | succ n ih => exact ok__law_tree F13 E (hasFx l.prog w base X G a13 F13 (ih))
  have h__law_tree := (hasFx l.prog w base X G a13 F13 ((r__law_tree 8)))
  have h_House_many := hasMx l.prog w base a14 i14 F14 (ok_House_many F14 E )
  have h__law_whole := hasFx l.prog w base X G a15 F15 (ok__law_whole F15 E )
  exact law_sp (κ := κ) (ok_law F16 E h_House_many h__law_opened_right h_seal_of h__law_whole h__law_tree h__law_within h_House_leaf h__law_word h__law_draw h__law_row h_House_init h__law_deal)
theorem walk {l : PySem.W.OpenLaw} {q : Program} {loose : List Str} {XP : (Str → Option Value) → Heap → Prop} {YP : World → Heap → Prop} {d : DefRec} {K : Params → PySem.W.Frag} (hn : l.most = some 63) (hdf : d.params.defaults = [])
    (hY : ∀ (w : World) (h : Heap), YP w h → (K w.params).In h)
    (F : ∀ (w : World) (mg : Str → Option Value) (fa : Addr) (h : Heap), (K w.params).In h → h.Ns mainGlobals mg → mg d.name = some (.ref fa) →
      ∃ fd : FuncData, (∀ (s : Shared) (u : Value), BindsTo s fd ⟨[u], []⟩ [("_law_script", u)]) ∧ ∀ base : Heap, (K w.params).In base → base.Ns mainGlobals mg → FnOk l.prog w (K w.params) mg base CX0 10 fa fd ["_law_script"] (spLaw (K w.params))) :
    PySem.W.WalkO q loose XP YP l.row.toRowW d [] (fun f vs => PySem.call f vs) :=
  L2.walk_of (n := 63) (k := 10) (x := "_law_script") (CX := fun _ => CX0) (sp := fun w => spLaw (K w.params)) hn (by decide) hdf ⟨rfl, by decide, by decide, rfl⟩ hY F (fun _ _ a ns hl ho hS => ⟨a, ns, rfl, ho, hS, hl, fun _ => rfl⟩) fun _ _ _ _ _ z => z
end Q
open PySem PySem.W PyProof.Rows
set_option maxRecDepth 100000 in
set_option maxHeartbeats 0 in
theorem PySem.Challenge.cw_stepcourt_k22_seals_of_trees_holds : PySem.Challenge.rw_stepcourt_k22_seals_of_trees.Holds := by
  w_on; o_law; k_head; (case hw => w_witness2)
  k_fill
  refine Q.walk (l := PySem.Challenge.rw_stepcourt_k22_seals_of_trees) rfl rfl (fun w h Y => PySem.W.kIn_of Y) ?F
  case F =>
    intro w mg fa h KX G hmg
    refine' Q.all_mk KX G hmg ?aCHouse ?a1 (L2.fun_mk ?l1 ?c1 ?k1) ?a2 ?i2 (L2.fun_mk ?l2 ?c2 ?k2) ?a3 ?i3 (L2.fun_mk ?l3 ?c3 ?k3) ?a4 ?i4 (L2.fun_mk ?l4 ?c4 ?k4) ?a5 ?i5 (L2.fun_mk ?l5 ?c5 ?k5) ?a6 (L2.fun_mk ?l6 ?c6 ?k6) ?a7 (L2.fun_mk ?l7 ?c7 ?k7) ?a8 ?i8 (L2.fun_mk ?l8 ?c8 ?k8) ?a9 (L2.fun_mk ?l9 ?c9 ?k9) ?a10 (L2.fun_mk ?l10 ?c10 ?k10) ?a11 (L2.fun_mk ?l11 ?c11 ?k11) ?a12 (L2.fun_mk ?l12 ?c12 ?k12) ?a13 (L2.fun_mk ?l13 ?c13 ?k13) ?a14 ?i14 (L2.fun_mk ?l14 ?c14 ?k14) ?a15 (L2.fun_mk ?l15 ?c15 ?k15) ?a16 (L2.fun_mk ?l16 ?c16 ?k16) ?pgHouse ?hdHouse ?poHouse ?saHouse ?mkHouse ?kcHouse ?nf0 ?nf1 ?z0 ?z1 ?z2 ?z3 ?z4 ?z5 ?z6 ?z7 ?z8 ?z9 ?z10 ?z11
    case aCHouse | a1 | l1 | c1 | k1 | a2 | i2 | l2 | c2 | k2 | a3 | i3 | l3 | c3 | k3 | a4 | i4 | l4 | c4 | k4 | a5 | i5 | l5 | c5 | k5 | a6 | l6 | c6 | k6 | a7 | l7 | c7 | k7 | a8 | i8 | l8 | c8 | k8 | a9 | l9 | c9 | k9 | a10 | l10 | c10 | k10 | a11 | l11 | c11 | k11 | a12 | l12 | c12 | k12 | a13 | l13 | c13 | k13 | a14 | i14 | l14 | c14 | k14 | a15 | l15 | c15 | k15 | a16 | l16 | c16 | k16 | pgHouse | hdHouse | poHouse | saHouse | mkHouse | kcHouse | nf0 | nf1 | z0 | z1 | z2 | z3 | z4 | z5 | z6 | z7 | z8 | z9 | z10 | z11 => k_is
