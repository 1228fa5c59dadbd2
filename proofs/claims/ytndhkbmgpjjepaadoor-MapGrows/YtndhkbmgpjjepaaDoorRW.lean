/- Plain laws: a record in words is read again as it was. Own work; no statement. -/
import Derived.Test.YtndhkbmgpjjepaaDoorR7
import Derived.Test.YtndhkbmgpjjepaaDoorWords
import Derived.Test.YtndhkbmgpjjepaaDoorWords2
set_option linter.unusedSimpArgs false
set_option linter.unusedVariables false
namespace Go.Proofs.YtndhkbmgpjjepaaDoor

theorem index_at : ∀ (a b : List UInt8) (x : UInt8), (∀ c ∈ a, c ≠ x) → Lib.indexByte (a ++ x :: b) x = a.length
  | [], b, x, _ => by simp [Lib.indexByte]
  | c :: a, b, x, h => by
    have ih := index_at a b x (fun d hd => h d (by simp [hd]))
    have hc : (c == x) = false := by simpa using h c (by simp)
    have hn : ¬ (a.length : Int) = -1 := by omega
    simp [Lib.indexByte, hc, ih, hn]

theorem cut_at (a b : List UInt8) (x : UInt8) (h : ∀ c ∈ a, c ≠ x) : cutL (a ++ x :: b) x = (a, b, true) := by
  unfold cutL
  rw [index_at a b x h, if_neg (by omega)]
  simp

theorem dig_ne {c x : UInt8} (h : digB c = true) (hx : x.toNat < 48 ∨ 57 < x.toNat) : c ≠ x := by
  intro e
  subst e
  simp only [digB, decide_eq_true_eq] at h
  omega

theorem decToM_val {m : Int} (hm : 0 ≤ m) : ∀ (l : List UInt8) (n : Int), (∀ c ∈ l, digB c = true) → 0 ≤ n → decToM m l (min n (m + 1)) = min (valTo l n) (m + 1)
  | [], n, _, _ => rfl
  | c :: l, n, h, h0 => by
    have hc := dig_range (h c (by simp))
    have ih := decToM_val hm l (10 * n + ((c.toNat : Int) - 48)) (fun d hd => h d (by simp [hd])) (by omega)
    simp only [decToM, valTo]
    rw [← ih]
    congr 1
    omega

theorem valTo_digits (u : Nat) : valTo (Lib.decDigits u) 0 = u := by
  induction u using Nat.strongRecOn with
  | _ u ih =>
    rw [Lib.decDigits]
    split
    · rename_i h
      simp only [valTo]
      rw [digit_val u h]
      omega
    · rename_i h
      rw [valTo_snoc, ih (u / 10) (by omega), digit_val (u % 10) (by omega)]
      omega

theorem numL_itoa {x : Int} (h0 : 0 ≤ x) (h1 : x ≤ 2147483647) : numL (Lib.itoa x) = (x, true) := by
  rw [itoa_nat x h0]
  have hv : decToM 2147483647 (Lib.decDigits x.toNat) 0 = x := by
    have := decToM_val (m := 2147483647) (by omega) (Lib.decDigits x.toNat) 0 (decDigits_all _) (Int.le_refl _)
    rw [show min (0 : Int) (2147483647 + 1) = 0 by omega, valTo_digits] at this
    rw [this]
    omega
  unfold numL
  rw [decOk_digits, hv, if_pos ⟨rfl, h1⟩]

theorem nums_no93 {l : List Int} (h : InS l) : ∀ k, ∀ c ∈ numsTo l k, c ≠ 93
  | 0 => by simp [numsTo]
  | k + 1 => by
    intro c hc
    simp only [numsTo, List.mem_append] at hc
    rcases hc with hc | hc | hc
    · exact nums_no93 h k c hc
    · split at hc
      · simp at hc
      · simp at hc
        subst hc
        decide
    · rw [itoa_nat _ (getD_inS h k).1] at hc
      exact dig_ne (decDigits_all _ c hc) (by decide)

theorem key_ne {l : List UInt8} (h : isKeyL l = true) : ∀ c ∈ l, c ≠ 61 := by
  intro c hc e
  subst e
  unfold isKeyL at h
  simp only [Bool.and_eq_true, List.all_eq_true] at h
  have := h.2 61 hc
  revert this
  decide

theorem itoa_ne {x : Int} (h : 0 ≤ x) {y : UInt8} (hy : y.toNat < 48 ∨ 57 < y.toNat) : ∀ c ∈ Lib.itoa x, c ≠ y := by
  intro c hc
  rw [itoa_nat x h] at hc
  exact dig_ne (decDigits_all _ c hc) hy

theorem textR_list (r : RecD) : (textR r).data.toList = Lib.itoa r.site ++ 58 :: (Lib.itoa r.seq ++ 32 :: (textL r.dep ++ 32 :: (r.key.data.toList ++ 61 :: r.val.data.toList))) := by
  unfold textR
  simp [ByteArray.data_append]

theorem split_text (r : RecD) (h0 : 0 ≤ r.site) (h1 : 0 ≤ r.seq) (hd : InS r.dep) (hk : isKeyL r.key.data.toList = true) :
    splitR (textR r).data.toList = some ⟨Lib.itoa r.site, Lib.itoa r.seq, textL r.dep, r.key.data.toList, r.val.data.toList⟩ := by
  rw [textR_list]
  unfold splitR
  rw [cut_at _ _ 58 (itoa_ne h0 (by decide))]
  dsimp only
  rw [cut_at _ _ 32 (itoa_ne h1 (by decide))]
  dsimp only
  have hix : Lib.indexByte (textL r.dep ++ 32 :: (r.key.data.toList ++ 61 :: r.val.data.toList)) 93 = (numsTo r.dep (writtenL r.dep)).length + 1 := by
    have := index_at (91 :: numsTo r.dep (writtenL r.dep)) (32 :: (r.key.data.toList ++ 61 :: r.val.data.toList)) 93 (by
      intro c hc
      rcases List.mem_cons.1 hc with rfl | hc
      · decide
      · exact nums_no93 hd _ c hc)
    unfold textL
    simpa using this
  rw [hix]
  have hlen : (textL r.dep).length = (numsTo r.dep (writtenL r.dep)).length + 2 := by simp [textL]
  have he : (((numsTo r.dep (writtenL r.dep)).length : Int) + 1 + 1).toNat = (textL r.dep).length := by rw [hlen]; omega
  rw [he, List.drop_left, List.take_left]
  have hp : Lib.hasPrefix (32 :: (r.key.data.toList ++ 61 :: r.val.data.toList)) [32] = true := by simp [Lib.hasPrefix, List.isPrefixOf]
  have ht : Lib.trimPrefix (32 :: (r.key.data.toList ++ 61 :: r.val.data.toList)) [32] = r.key.data.toList ++ 61 :: r.val.data.toList := by unfold Lib.trimPrefix; rw [hp]; simp
  rw [ht, hp, cut_at _ _ 61 (key_ne hk)]
  rw [if_pos ⟨rfl, rfl, by omega, rfl, rfl⟩]

theorem check_inS {l : List Int} {s : Int} (h : checkL l s = 0) : 1 ≤ s ∧ s ≤ 8 ∧ (l.length : Int) ≤ s ∧ InS l := by
  unfold checkL at h
  split at h
  · cases h
  · split at h
    · cases h
    · refine ⟨by omega, by omega, by omega, ?_⟩
      have : ∀ l : List Int, checkN l = 0 → InS l := by
        intro l
        induction l with
        | nil => intro _ x hx; simp at hx
        | cons n l ih =>
          intro h x hx
          simp only [checkN] at h
          split at h
          · cases h
          · split at h
            · cases h
            · rcases List.mem_cons.1 hx with rfl | hx
              · omega
              · exact ih h x hx
      exact this l h

theorem check_parts {r : RecD} {s : Int} (h : checkR r s = 0) : 1 ≤ s ∧ s ≤ 8 ∧ 0 ≤ r.site ∧ r.site < s ∧ 1 ≤ r.seq ∧ r.seq ≤ 1048576 ∧ (r.dep.length : Int) ≤ s ∧ InS r.dep ∧ geti r.dep r.site < r.seq ∧ isKeyL r.key.data.toList = true ∧ checkValL r.val.data.toList = 0 := by
  unfold checkR at h
  split at h
  · cases h
  · split at h
    · rename_i h1 h2
      split at h
      · cases h
      · split at h
        · rename_i h3 h4
          obtain ⟨a1, a2, a3, a4⟩ := check_inS h2
          exact ⟨by omega, by omega, by omega, by omega, by omega, by omega, a3, a4, by omega, h4, h⟩
        · cases h
    · rename_i h2
      exact absurd h h2

/-- What is read of a record's words. -/
def backR (r : RecD) : RecD := ⟨r.site, r.seq, r.dep.take (writtenL r.dep), r.key, r.val⟩

theorem geti_written (l : List Int) (i : Int) : geti (l.take (writtenL l)) i = geti l i := by
  have hs := same_written l
  rw [same_iff] at hs
  by_cases h : 0 ≤ i
  · obtain ⟨n, rfl⟩ := Int.eq_ofNat_of_zero_le h
    rw [geti_nat, geti_nat]
    exact (hs n).symm
  · unfold geti
    rw [if_pos (by omega), if_pos (by omega)]

theorem back_check {r : RecD} {s : Int} (h : checkR r s = 0) : checkR (backR r) 8 = 0 := by
  obtain ⟨a1, a2, a3, a4, a5, a6, a7, a8, a9, a10, a11⟩ := check_parts h
  unfold checkR backR
  dsimp only
  rw [if_neg (by omega), if_pos (check_ok _ (inS_take _ a8 _) (by rw [List.length_take]; omega)), geti_written, if_neg (by omega), if_pos a10]
  exact a11

theorem parse_textR {r : RecD} {s : Int} (h : checkR r s = 0) : parseR (textR r).data.toList = (backR r, 0) := by
  obtain ⟨a1, a2, a3, a4, a5, a6, a7, a8, a9, a10, a11⟩ := check_parts h
  have hb := back_check h
  unfold parseR
  rw [split_text r a3 (by omega) a8 a10]
  dsimp only
  unfold parseP
  rw [numL_itoa a3 (by omega), numL_itoa (by omega) (by omega), parse_text _ a8 (by omega)]
  dsimp only
  rw [if_pos ⟨rfl, rfl, rfl⟩, if_pos rfl]
  have e : (⟨r.site, r.seq, r.dep.take (writtenL r.dep), ⟨r.key.data.toList.toArray⟩, ⟨r.val.data.toList.toArray⟩⟩ : RecD) = backR r := by simp [backR]
  rw [e, hb, if_pos rfl]

theorem back_same (r : RecD) : sameR (backR r) r = true := by
  unfold sameR backR
  simp only [decide_true, Bool.true_and]
  have hs := same_written r.dep
  rw [same_iff] at hs ⊢
  exact fun i => (hs i).symm

end Go.Proofs.YtndhkbmgpjjepaaDoor
