/- Plain laws on maps: in words and back; with a span more. Own work; no statement. -/
import Derived.Test.YtndhkbmgpjjepaaDoorM14
import Derived.Test.YtndhkbmgpjjepaaDoorRW2
set_option linter.unusedSimpArgs false
set_option linter.unusedVariables false
namespace Go.Proofs.YtndhkbmgpjjepaaDoor

theorem rng8 {n : Int} (h : (Lit.int .u8 n).wf = true) : 0 ≤ n ∧ n ≤ 255 := by
  have h' : (decide (IntKind.u8.min ≤ n) && decide (n ≤ IntKind.u8.max)) = true := h
  simp only [Bool.and_eq_true, decide_eq_true_eq] at h'
  exact h'
theorem rng16 {n : Int} (h : (Lit.int .u16 n).wf = true) : 0 ≤ n ∧ n ≤ 65535 := by
  have h' : (decide (IntKind.u16.min ≤ n) && decide (n ≤ IntKind.u16.max)) = true := h
  simp only [Bool.and_eq_true, decide_eq_true_eq] at h'
  exact h'
theorem rng64 {n : Int} (h : (Lit.int .i64 n).wf = true) : -9223372036854775808 ≤ n ∧ n ≤ 9223372036854775807 := by
  have h' : (decide (IntKind.i64.min ≤ n) && decide (n ≤ IntKind.i64.max)) = true := h
  simp only [Bool.and_eq_true, decide_eq_true_eq] at h'
  exact h'
/-- A map's numbers may stand in words. -/
def MapS (m : MapD) : Prop := ∀ x ∈ m, (0 ≤ x.1 ∧ x.1 ≤ 2147483647) ∧ (0 ≤ x.2 ∧ x.2 ≤ 2147483647)
theorem MapS.r {m : MapD} (h : MapS m) : MapR m := fun x hx => by have := h x hx; omega

theorem span_text {x : Int × Int} (h : (0 ≤ x.1 ∧ x.1 ≤ 2147483647) ∧ (0 ≤ x.2 ∧ x.2 ≤ 2147483647)) : spanL (spanB x) = (x, true) := by
  have hc : cutL (spanB x) 47 = (Lib.itoa x.1, Lib.itoa x.2, true) := cut_at (Lib.itoa x.1) (Lib.itoa x.2) 47 (itoa_ne h.1.1 (by decide))
  unfold spanL
  rw [hc]
  dsimp only
  rw [numL_itoa h.1.1 h.1.2, numL_itoa h.2.1 h.2.2]
  rfl
theorem text_span {l : List UInt8} (h : (spanL l).2 = true) : spanB (spanL l).1 = l ∧ (0 ≤ (spanL l).1.1 ∧ (spanL l).1.1 ≤ 2147483647) ∧ (0 ≤ (spanL l).1.2 ∧ (spanL l).1.2 ≤ 2147483647) := by
  unfold spanL at h ⊢
  by_cases hn : (numL (cutL l 47).1).2 = true ∧ (numL (cutL l 47).2.1).2 = true
  · rw [if_pos hn]
    obtain ⟨t1, r1, r2⟩ := numL_text hn.1
    obtain ⟨t2, r3, r4⟩ := numL_text hn.2
    refine ⟨?_, ⟨r1, r2⟩, r3, r4⟩
    have hc : (cutL l 47).2.2 = true := by
      cases hb : (cutL l 47).2.2 with
      | true => rfl
      | false =>
        have : (cutL l 47).2.1 = [] := by
          unfold cutL at hb ⊢
          split
          · rfl
          · rename_i hi
            rw [if_neg hi] at hb
            cases hb
        rw [this] at hn
        exact absurd hn.2 (by decide)
    have hf := cut_form hc
    unfold spanB
    dsimp only
    rw [t1, t2]
    exact hf.symm
  · rw [if_neg hn] at h
    cases h
theorem span_no32 {x : Int × Int} (h : 0 ≤ x.1 ∧ 0 ≤ x.2) : ∀ c ∈ spanB x, c ≠ 32 := by
  intro c hc
  unfold spanB at hc
  simp only [List.mem_append, List.mem_cons, List.not_mem_nil, or_false] at hc
  rcases hc with hc | rfl | hc
  · exact itoa_ne h.1 (by decide) c hc
  · decide
  · exact itoa_ne h.2 (by decide) c hc
theorem split_spans {m : MapD} (h : ∀ x ∈ m, 0 ≤ x.1 ∧ 0 ≤ x.2) : ∀ k, k < m.length → splitL (spansTo m (k + 1)) = (m.take (k + 1)).map spanB
  | 0, hk => by
    have hx := h _ (List.getElem_mem hk)
    rw [spansTo, spansTo, if_pos rfl, List.nil_append, List.nil_append, List.take_add_one, List.getElem?_eq_getElem hk, List.getD_eq_getElem?_getD, List.getElem?_eq_getElem hk]
    exact splitL_word _ (span_no32 hx)
  | k + 1, hk => by
    have hx := h _ (List.getElem_mem hk)
    have ih := split_spans h k (by omega)
    rw [spansTo, if_neg (by omega), List.singleton_append, splitL_append, ih, List.take_add_one (i := k + 1), List.getElem?_eq_getElem hk, List.getD_eq_getElem?_getD, List.getElem?_eq_getElem hk]
    simp only [Option.getD_some, Option.toList_some, List.map_append, List.map_cons, List.map_nil]
    rw [splitL_word _ (span_no32 hx)]
theorem split_textM {m : MapD} (h : ∀ x ∈ m, 0 ≤ x.1 ∧ 0 ≤ x.2) (h0 : 0 < m.length) : splitL (textM m) = m.map spanB := by
  obtain ⟨k, hk⟩ : ∃ k, m.length = k + 1 := ⟨m.length - 1, by omega⟩
  unfold textM
  have := split_spans h k (by omega)
  rw [hk, this, ← hk, List.take_length]
theorem textM_ne {m : MapD} (h : ∀ x ∈ m, 0 ≤ x.1 ∧ 0 ≤ x.2) (h0 : 0 < m.length) : textM m ≠ [] := by
  intro e
  have := split_textM h h0
  rw [e] at this
  cases m with
  | nil => simp at h0
  | cons x r =>
    rw [List.map_cons, show splitL [] = [[]] from rfl, List.cons.injEq] at this
    have h1 := this.1
    unfold spanB at h1
    simp at h1
theorem parse_textM {m : MapD} (hs : MapS m) (hok : okMap m = true) : parseM (textM m) = (m, 0) := by
  have h : ∀ x ∈ m, 0 ≤ x.1 ∧ 0 ≤ x.2 := fun x hx => ⟨(hs x hx).1.1, (hs x hx).2.1⟩
  have h0 := okMap_pos hok
  have e1 : spansB (m.map spanB) = true := by
    unfold spansB
    rw [List.all_eq_true]
    intro y hy
    obtain ⟨x, hx, rfl⟩ := List.mem_map.1 hy
    rw [span_text (hs x hx)]
  have e2 : spansOf (m.map spanB) = m := by
    unfold spansOf
    rw [List.map_map]
    conv => rhs; rw [← List.map_id m]
    apply List.map_congr_left
    intro x hx
    simp only [Function.comp]
    rw [span_text (hs x hx)]
    rfl
  have e3 : parseT (textM m) = (m, true) := by
    unfold parseT
    rw [if_neg (textM_ne h h0), split_textM h h0, parseW, if_pos e1, e2]
  unfold parseM
  rw [e3, if_pos rfl, if_pos hok]
theorem parseM_some {s : List UInt8} (h : (parseM s).2 = 0) : okMap (parseM s).1 = true ∧ MapS (parseM s).1 ∧ textM (parseM s).1 = s := by
  unfold parseM at h ⊢
  by_cases h1 : (parseT s).2 = true
  · rw [if_pos h1] at h ⊢
    by_cases h2 : okMap (parseT s).1 = true
    · rw [if_pos h2]
      unfold parseT at h1 h2 ⊢
      by_cases h3 : s = []
      · rw [if_pos h3] at h2
        cases h2
      · rw [if_neg h3] at h1 h2 ⊢
        unfold parseW at h1 h2 ⊢
        by_cases h4 : spansB (splitL s) = true
        · rw [if_pos h4] at h2 ⊢
          dsimp only at h2 ⊢
          rw [spansB, List.all_eq_true] at h4
          have hS : MapS (spansOf (splitL s)) := by
            intro y hy
            obtain ⟨x, hx, rfl⟩ := List.mem_map.1 hy
            exact (text_span (h4 x hx)).2
          refine ⟨h2, hS, splitL_inj ?_⟩
          rw [split_textM (fun x hx => ⟨(hS x hx).1.1, (hS x hx).2.1⟩) (okMap_pos h2)]
          unfold spansOf
          rw [List.map_map]
          conv => rhs; rw [← List.map_id (splitL s)]
          apply List.map_congr_left
          intro x hx
          exact (text_span (h4 x hx)).1
        · rw [if_neg h4] at h1
          cases h1
    · rw [if_neg h2] at h
      cases h
  · rw [if_neg h1] at h
    cases h

theorem okFrom_snoc : ∀ (m : MapD) (a f n : Int), okFrom a m = true → a ≤ f → (∀ x ∈ m, x.1 ≤ f) → 1 ≤ n → n ≤ 8 → okFrom a (m ++ [(f, n)]) = true
  | [], a, f, n, _, h1, _, h2, h3 => by simp [okFrom, h1, h2, h3]
  | x :: r, a, f, n, h, h1, hx, h2, h3 => by
    rw [okFrom_cons] at h
    simp only [Bool.and_eq_true, decide_eq_true_eq] at h
    rw [List.cons_append, okFrom_cons, okFrom_snoc r x.1 f n h.2 (hx x (by simp)) (fun y hy => hx y (by simp [hy])) h2 h3]
    simp [h.1.1.1, h.1.1.2, h.1.2]
theorem okMap_snoc {m : MapD} {f n : Int} (h : okMap m = true) (hx : ∀ x ∈ m, x.1 ≤ f) (h1 : 1 ≤ n) (h2 : n ≤ 8) : okMap (m ++ [(f, n)]) = true := by
  have hf := okMap_from h
  cases m with
  | nil => simp [okMap] at h
  | cons x r =>
    have hz := okMap_zero h
    simp only [List.getElem_cons_zero] at hz
    have := okFrom_snoc (x :: r) 0 f n hf (by have := hx x (by simp); omega) hx h1 h2
    rw [List.cons_append] at this ⊢
    simp only [okMap, hz, decide_true, Bool.true_and]
    exact this
theorem getD_app (m r : MapD) (k : Nat) (h : k < m.length) : (m ++ r).getD k (0, 0) = m.getD k (0, 0) := by
  rw [List.getD_eq_getElem?_getD, List.getD_eq_getElem?_getD, List.getElem?_append_left h]
theorem epochM_app (m r : MapD) (p : Int) : ∀ k, k ≤ m.length → epochM (m ++ r) p k = epochM m p k
  | 0, _ => rfl
  | k + 1, h => by
    unfold epochM
    rw [getD_app m r k (by omega), epochM_app m r p k (by omega)]
theorem find_snoc {m : MapD} {f n p : Int} (h : okMap m = true) (h' : okMap (m ++ [(f, n)]) = true) (h0 : 0 ≤ p) (hp : p < f) : findM (m ++ [(f, n)]) p = findM m p := by
  have hg : (m ++ [(f, n)]).getD m.length (0, 0) = (f, n) := by
    rw [List.getD_eq_getElem?_getD, List.getElem?_append_right (Nat.le_refl _)]
    simp
  have he : epochM (m ++ [(f, n)]) p (m ++ [(f, n)]).length = epochM m p m.length := by
    rw [List.length_append, List.length_singleton, epochM, hg, if_neg (by omega), epochM_app m _ p _ (Nat.le_refl _)]
  have h1 := epochM_pos h h0 m.length (okMap_pos h)
  have h2 := epochM_le m p m.length
  unfold findM
  rw [if_pos ⟨h0, h'⟩, if_pos ⟨h0, h⟩, he, getD_app m _ _ (by omega)]
theorem find_last {m : MapD} {f n : Int} (h' : okMap (m ++ [(f, n)]) = true) (h0 : 0 ≤ f) : findM (m ++ [(f, n)]) f = ((m.length : Int) + 1, 0, 0) := by
  have hg : (m ++ [(f, n)]).getD m.length (0, 0) = (f, n) := by
    rw [List.getD_eq_getElem?_getD, List.getElem?_append_right (Nat.le_refl _)]
    simp
  unfold findM
  rw [if_pos ⟨h0, h'⟩, List.length_append, List.length_singleton, epochM, hg, if_pos (Int.le_refl _), Nat.add_sub_cancel, hg]
  simp

end Go.Proofs.YtndhkbmgpjjepaaDoor
