/- Own work: the parts Words of the proof, laid together. -/
import Derived.Test.YtdkpbfigjdmfpaaPartTokenChain2
/- Plain laws on vectors in words: what is told is read again. Own work; no statement. -/
set_option linter.unusedSimpArgs false
set_option linter.unusedVariables false
namespace Go.Proofs.Ytdkpbfigjdmfpaa

theorem digit_val (d : Nat) (h : d < 10) : (UInt8.ofNat (48 + d)).toNat = 48 + d := by
  rw [UInt8.toNat_ofNat']; omega
theorem decDigits_all (u : Nat) : ∀ c ∈ Lib.decDigits u, digB c = true := by
  induction u using Nat.strongRecOn with
  | _ u ih =>
    rw [Lib.decDigits]
    split
    · intro c hc
      rw [List.mem_singleton] at hc
      subst hc
      unfold digB
      rw [digit_val u (by omega)]
      simp; omega
    · intro c hc
      rcases List.mem_append.1 hc with h | h
      · exact ih (u / 10) (by omega) c h
      · rw [List.mem_singleton] at h
        subst h
        unfold digB
        rw [digit_val (u % 10) (by omega)]
        simp; omega
theorem decDigits_ne (u : Nat) : Lib.decDigits u ≠ [] := by
  rw [Lib.decDigits]; split <;> simp
theorem decDigits_head (u : Nat) : u ≠ 0 → (Lib.decDigits u).head? ≠ some 48 := by
  induction u using Nat.strongRecOn with
  | _ u ih =>
    intro h0
    rw [Lib.decDigits]
    split
    · rename_i h
      intro e
      have e2 : UInt8.ofNat (48 + u) = 48 := by simpa using e
      have e3 := congrArg UInt8.toNat e2
      rw [digit_val u h] at e3
      have e4 : (48 : UInt8).toNat = 48 := rfl
      omega
    · have h1 := ih (u / 10) (by omega) (by omega)
      cases h : Lib.decDigits (u / 10) with
      | nil => exact absurd h (decDigits_ne _)
      | cons c r => rw [h] at h1; exact h1
theorem decOk_digits (u : Nat) : decOk (Lib.decDigits u) = true := by
  unfold decOk
  have h1 : (Lib.decDigits u).isEmpty = false := by
    cases h : Lib.decDigits u with
    | nil => exact absurd h (decDigits_ne u)
    | cons _ _ => rfl
  have h2 : (Lib.decDigits u).all digB = true := List.all_eq_true.2 (decDigits_all u)
  rw [h1, h2]
  by_cases h0 : u = 0
  · subst h0
    have : Lib.decDigits 0 = [48] := by rw [Lib.decDigits]; rfl
    rw [this]; rfl
  · have := decDigits_head u h0
    have h3 : ((Lib.decDigits u).head? == some 48) = false := by simpa using this
    rw [h3]; simp
theorem decTo_digits (u : Nat) : decTo (Lib.decDigits u) 0 = min (u : Int) 1048577 := by
  induction u using Nat.strongRecOn with
  | _ u ih =>
    rw [Lib.decDigits]
    split
    · rename_i h
      simp only [decTo]
      rw [digit_val u h]
      omega
    · rw [decTo_snoc, ih (u / 10) (by omega), digit_val (u % 10) (by omega)]
      omega
theorem itoa_nat (x : Int) (h : 0 ≤ x) : Lib.itoa x = Lib.decDigits x.toNat := by unfold Lib.itoa; rw [if_neg (by omega)]
theorem no_blank (u : Nat) : ∀ c ∈ Lib.decDigits u, c ≠ 32 := by
  intro c hc e
  have := decDigits_all u c hc
  subst e
  revert this
  decide

theorem splitL_word : ∀ (l : List UInt8), (∀ c ∈ l, c ≠ 32) → splitL l = [l]
  | [], _ => rfl
  | c :: r, h => by
    simp only [splitL]
    rw [if_neg (h c (by simp)), splitL_word r (fun d hd => h d (by simp [hd]))]
theorem splitL_append : ∀ (a b : List UInt8), splitL (a ++ 32 :: b) = splitL a ++ splitL b
  | [], b => by simp [splitL]
  | c :: r, b => by
    simp only [List.cons_append, splitL]
    rw [splitL_append r b]
    split
    · simp
    · cases h : splitL r with
      | nil => exact absurd h (splitL_ne r)
      | cons x xs => simp

/-- The numbers are such as a vector may have. -/
def InS (l : List Int) : Prop := ∀ x ∈ l, 0 ≤ x ∧ x ≤ 1048576
theorem getD_inS {l : List Int} (h : InS l) (k : Nat) : 0 ≤ l.getD k 0 ∧ l.getD k 0 ≤ 1048576 := by
  by_cases hk : k < l.length
  · exact h _ (getD_mem l k hk)
  · rw [getD_out l k (by omega)]; omega
def wordsTo (l : List Int) (k : Nat) : List (List UInt8) := (List.range k).map fun i => Lib.itoa (l.getD i 0)
theorem wordsTo_succ (l : List Int) (k : Nat) : wordsTo l (k + 1) = wordsTo l k ++ [Lib.itoa (l.getD k 0)] := by simp [wordsTo, List.range_succ]
theorem split_nums {l : List Int} (h : InS l) : ∀ k, splitL (numsTo l (k + 1)) = wordsTo l (k + 1)
  | 0 => by
    simp only [numsTo]
    rw [itoa_nat _ (getD_inS h 0).1]
    simp only [if_true, List.nil_append]
    rw [splitL_word _ (no_blank _), wordsTo_succ, itoa_nat _ (getD_inS h 0).1]
    rfl
  | k + 1 => by
    rw [numsTo, if_neg (by omega)]
    simp only [List.cons_append, List.nil_append]
    rw [splitL_append, split_nums h k, wordsTo_succ l (k + 1), itoa_nat _ (getD_inS h (k + 1)).1, splitL_word _ (no_blank _)]
theorem words_ok {l : List Int} (h : InS l) (k : Nat) : (wordsTo l k).all decOk = true := by
  rw [List.all_eq_true]
  intro x hx
  obtain ⟨i, -, rfl⟩ := List.mem_map.1 hx
  rw [itoa_nat _ (getD_inS h i).1]
  exact decOk_digits _
theorem dec_itoa {x : Int} (h0 : 0 ≤ x) (h1 : x ≤ 1048577) : decTo (Lib.itoa x) 0 = x := by
  rw [itoa_nat _ h0, decTo_digits]; omega
theorem st_words {l : List Int} (h : InS l) (h8 : l.length ≤ 8) : ∀ k, k < l.length → stOf (wordsTo l (k + 1)) = (l.take (k + 1), l.getD k 0, false)
  | 0, hk => by
    have hx := getD_inS h 0
    rw [wordsTo_succ, stOf_snoc, take_snoc_getD l 0 hk]
    simp only [wordsTo, List.range_zero, List.map_nil, stOf, List.foldl_nil, stepW, dec_itoa hx.1 (by omega : l.getD 0 0 ≤ 1048577)]
    rw [if_neg (by rintro (h | h); · omega
                   · simp at h)]
    simp
  | k + 1, hk => by
    have hx := getD_inS h (k + 1)
    rw [wordsTo_succ, stOf_snoc, st_words h h8 k (by omega), take_snoc_getD l (k + 1) hk]
    simp only [stepW, dec_itoa hx.1 (by omega : l.getD (k + 1) 0 ≤ 1048577)]
    rw [if_neg (by rw [List.length_take]; omega)]

theorem writtenL_last (l : List Int) : ∀ k, writtenL l = k + 1 → l.getD k 0 ≠ 0 := by
  obtain ⟨r, rfl⟩ : ∃ r : List Int, l = r.reverse := ⟨l.reverse, by simp⟩
  induction r with
  | nil => intro k h; simp [writtenL] at h
  | cons x r ih =>
    intro k h
    rw [List.reverse_cons] at h ⊢
    generalize r.reverse = l at ih h ⊢
    by_cases hx : x = 0
    · subst hx
      rw [writtenL_snoc_zero] at h
      have hl := writtenL_le l
      have := ih k h
      rw [List.getD, List.getElem?_append_left (by omega)]
      exact this
    · rw [writtenL_snoc l x hx] at h
      obtain rfl : k = l.length := by omega
      rw [List.getD, List.getElem?_append_right (Nat.le_refl _)]
      simpa using hx
theorem writtenL_past (l : List Int) : ∀ i, writtenL l ≤ i → l.getD i 0 = 0 := by
  obtain ⟨r, rfl⟩ : ∃ r : List Int, l = r.reverse := ⟨l.reverse, by simp⟩
  induction r with
  | nil => intro i _; exact getD_out [] i (by simp)
  | cons x r ih =>
    intro i h
    rw [List.reverse_cons] at h ⊢
    generalize r.reverse = l at ih h ⊢
    by_cases hx : x = 0
    · subst hx
      rw [writtenL_snoc_zero] at h
      by_cases hi : i < l.length
      · rw [List.getD, List.getElem?_append_left hi]; exact ih i h
      · rw [List.getD, List.getElem?_append_right (by omega)]
        by_cases h2 : i - l.length = 0
        · rw [h2]; rfl
        · rw [List.getElem?_eq_none (by simp; omega)]; rfl
    · rw [writtenL_snoc l x hx] at h
      exact getD_out _ i (by simp; omega)

theorem inner_text (x : List UInt8) : bracketB (91 :: (x ++ [93])) = true ∧ innerL (91 :: (x ++ [93])) = x := by
  have h1 : Lib.hasPrefix (91 :: (x ++ [93])) [91] = true := by simp [Lib.hasPrefix]
  have h2 : Lib.trimPrefix (91 :: (x ++ [93])) [91] = x ++ [93] := by unfold Lib.trimPrefix; rw [if_pos h1]; rfl
  have h3 : Lib.hasSuffix (x ++ [93]) [93] = true := by unfold Lib.hasSuffix; rw [List.isSuffixOf_iff_suffix]; exact List.suffix_append _ _
  refine ⟨by unfold bracketB; rw [h1, h2, h3]; rfl, ?_⟩
  unfold innerL
  rw [h2]
  unfold Lib.trimSuffix
  rw [if_pos h3]
  simp
theorem numsTo_ne (l : List Int) (h : InS l) (k : Nat) : numsTo l (k + 1) ≠ [] := by
  rw [numsTo, itoa_nat _ (getD_inS h k).1]
  intro e
  have := (List.append_eq_nil_iff.1 (List.append_eq_nil_iff.1 e).2).2
  exact decDigits_ne _ this
/-- What is told of a vector that may be is read again, down to its last number that is not 0. -/
theorem parse_text (l : List Int) (h : InS l) (h8 : l.length ≤ 8) : parseL (textL l) = (l.take (writtenL l), 0) := by
  obtain ⟨hb, hi⟩ := inner_text (numsTo l (writtenL l))
  have hle := writtenL_le l
  have hlast := writtenL_last l
  unfold parseL textL
  rw [hb, hi, if_pos rfl]
  cases hw : writtenL l with
  | zero => simp [numsTo]
  | succ k =>
    rw [if_neg (numsTo_ne l h k), split_nums h k]
    unfold parseN
    rw [words_ok h, if_pos rfl, st_words h h8 k (by omega)]
    rw [if_neg (hlast k hw), if_neg (by simp)]
theorem same_written (l : List Int) : everyB eqB l (l.take (writtenL l)) = true := by
  rw [same_iff]
  intro i
  by_cases hi : i < writtenL l
  · rw [List.getD, List.getD, List.getElem?_take, if_pos hi]
  · rw [writtenL_past l i (by omega), getD_out _ i (by rw [List.length_take]; omega)]
theorem check_ok (l : List Int) (h : InS l) (h8 : l.length ≤ 8) : checkL l 8 = 0 := by
  unfold checkL
  rw [if_neg (by omega), if_neg (by omega)]
  clear h8
  induction l with
  | nil => rfl
  | cons x r ih =>
    have := h x (by simp)
    simp only [checkN]
    rw [if_neg (by omega), if_neg (by omega)]
    exact ih (fun y hy => h y (by simp [hy]))
theorem inS_take (l : List Int) (h : InS l) (k : Nat) : InS (l.take k) := fun x hx => h x (List.mem_of_mem_take hx)

end Go.Proofs.Ytdkpbfigjdmfpaa
