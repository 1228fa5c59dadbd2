/- Plain laws: what is read as a record is told just so; records that are the same are told the same. Own work; no statement. -/
import Derived.Test.YtndhkbmgpjjepaaDoorRW
set_option linter.unusedSimpArgs false
set_option linter.unusedVariables false
namespace Go.Proofs.YtndhkbmgpjjepaaDoor

theorem numL_text {x : List UInt8} (h : (numL x).2 = true) : Lib.itoa (numL x).1 = x ∧ 0 ≤ (numL x).1 ∧ (numL x).1 ≤ 2147483647 := by
  have hv : numL x = if decOk x = true ∧ valTo x 0 ≤ 2147483647 then (valTo x 0, true) else (0, false) := by
    unfold numL
    cases hd : decOk x with
    | false => simp
    | true =>
      have hm := decToM_val (m := 2147483647) (by omega) x 0 (decOk_parts hd).2.2 (Int.le_refl _)
      rw [show min (0 : Int) (2147483647 + 1) = 0 by omega] at hm
      rw [hm]
      by_cases hv : valTo x 0 ≤ 2147483647
      · rw [if_pos ⟨rfl, by omega⟩, if_pos ⟨rfl, hv⟩, show min (valTo x 0) (2147483647 + 1) = valTo x 0 by omega]
      · rw [if_neg (by omega), if_neg (by omega)]
  rw [hv] at h ⊢
  split at h
  · rename_i hh
    rw [if_pos hh]
    dsimp only
    have hge := valTo_ge x 0 (decOk_parts hh.1).2.2 (Int.le_refl _)
    refine ⟨?_, hge, hh.2⟩
    rw [itoa_nat _ hge]
    have := digits_val x.reverse (by rw [List.reverse_reverse]; exact hh.1)
    rwa [List.reverse_reverse] at this
  · cases h

theorem cut_form {l : List UInt8} {c : UInt8} (h : (cutL l c).2.2 = true) : l = (cutL l c).1 ++ c :: (cutL l c).2.1 := by
  unfold cutL at *
  by_cases hi : Lib.indexByte l c = -1
  · rw [if_pos hi] at h
    cases h
  · rw [if_neg hi]
    dsimp only
    have hge := Lib.indexByte_ge l c
    have hlt := indexByte_lt l c
    obtain ⟨k, hk⟩ := Int.eq_ofNat_of_zero_le (show 0 ≤ Lib.indexByte l c by omega)
    rw [hk, Int.toNat_natCast]
    have hkl : k < l.length := by omega
    have hat : ∀ (l : List UInt8) (k : Nat), Lib.indexByte l c = k → l[k]? = some c := by
      intro l
      induction l with
      | nil => intro k h; simp [Lib.indexByte] at h
      | cons x l ih =>
        intro k h
        simp only [Lib.indexByte] at h
        split at h
        · rename_i hx
          have : k = 0 := by omega
          subst this
          simpa using hx
        · split at h
          · omega
          · cases k with
            | zero => have := Lib.indexByte_ge l c; rename_i h1 h2; simp at h2; omega
            | succ k => simpa using ih k (by omega)
    have hc := hat l k hk
    conv => lhs; rw [← List.take_append_drop k l]
    congr 1
    rw [List.drop_eq_getElem_cons hkl]
    congr 1
    rw [List.getElem?_eq_getElem hkl] at hc
    exact Option.some.inj hc

theorem split_form {s : List UInt8} {p : Parts} (h : splitR s = some p) : s = p.site ++ 58 :: (p.seq ++ 32 :: (p.dep ++ 32 :: (p.key ++ 61 :: p.val))) := by
  unfold splitR at h
  dsimp only at h
  have f1 := @cut_form s 58
  generalize cutL s 58 = c1 at *
  have f2 := @cut_form c1.2.1 32
  generalize cutL c1.2.1 32 = c2 at *
  generalize (Lib.indexByte c2.2.1 93 + 1).toNat = e at *
  have f3 := @cut_form (Lib.trimPrefix (c2.2.1.drop e) [32]) 61
  split at h
  · rename_i hh
    obtain ⟨g1, g2, g3, g4, g5⟩ := hh
    have e1 := Option.some.inj h
    subst e1
    dsimp only
    have hr : c2.2.1.drop e = 32 :: Lib.trimPrefix (c2.2.1.drop e) [32] := by
      unfold Lib.trimPrefix
      rw [g4, if_pos rfl]
      generalize c2.2.1.drop e = r at *
      cases r with
      | nil => simp [Lib.hasPrefix, List.isPrefixOf] at g4
      | cons x r =>
        simp [Lib.hasPrefix, List.isPrefixOf] at g4
        simp [g4]
    rw [← f3 g5, ← hr, List.take_append_drop, ← f2 g2, ← f1 g1]
  · cases h

theorem text_parseR {s : List UInt8} (h : (parseR s).2 = 0) : (textR (parseR s).1).data.toList = s := by
  unfold parseR at h ⊢
  cases hs : splitR s with
  | none =>
    rw [hs] at h
    exact absurd h (by decide +kernel : ¬ (parseP false [] [] [] [] []).2 = 0)
  | some p =>
    rw [hs] at h
    have hf := split_form hs
    dsimp only at h ⊢
    unfold parseP at h ⊢
    split at h
    · rename_i hh
      obtain ⟨-, n1, n2⟩ := hh
      rw [if_pos ⟨rfl, n1, n2⟩]
      split at h
      · rename_i h0
        rw [if_pos h0]
        split at h
        · rename_i hc
          rw [if_pos hc]
          dsimp only
          rw [textR_list]
          dsimp only
          rw [(numL_text n1).1, (numL_text n2).1, text_parse h0, hf]
        · rename_i hc
          exact absurd h hc
      · rename_i h0
        exact absurd h h0
    · cases h

theorem written_same {a b : List Int} (h : ∀ i, a.getD i 0 = b.getD i 0) : writtenL a = writtenL b := by
  have one : ∀ {a b : List Int}, (∀ i, a.getD i 0 = b.getD i 0) → writtenL a ≤ writtenL b := by
    intro a b h
    rcases Nat.lt_or_ge (writtenL b) (writtenL a) with hlt | hge
    · exfalso
      obtain ⟨k, hk⟩ : ∃ k, writtenL a = k + 1 := ⟨writtenL a - 1, by omega⟩
      exact writtenL_last a k hk (by rw [h k]; exact writtenL_past b k (by omega))
    · exact hge
  have h1 := one h
  have h2 := one (fun i => (h i).symm)
  omega
theorem nums_same {a b : List Int} (h : ∀ i, a.getD i 0 = b.getD i 0) : ∀ k, numsTo a k = numsTo b k
  | 0 => rfl
  | k + 1 => by simp only [numsTo]; rw [nums_same h k, h k]
theorem same_text {a b : RecD} (h : sameR a b = true) : textR a = textR b := by
  unfold sameR at h
  simp only [Bool.and_eq_true, decide_eq_true_eq] at h
  obtain ⟨h1, h2, h3, h4, h5⟩ := h
  rw [same_iff] at h5
  unfold textR textL
  rw [h1, h2, h3, h4, written_same h5, nums_same h5]

theorem nought_parse (r : RecD) (h0 : 0 ≤ r.site) : (parseR (48 :: (textR r).data.toList)).2 = 2 := by
  rw [textR_list]
  have hsite : ∀ c ∈ 48 :: Lib.itoa r.site, c ≠ 58 := by
    intro c hc
    rcases List.mem_cons.1 hc with rfl | hc
    · decide
    · exact itoa_ne h0 (by decide) c hc
  have hcut := cut_at (48 :: Lib.itoa r.site) (Lib.itoa r.seq ++ 32 :: (textL r.dep ++ 32 :: (r.key.data.toList ++ 61 :: r.val.data.toList))) 58 hsite
  have hne : Lib.itoa r.site ≠ [] := by rw [itoa_nat _ h0]; exact decDigits_ne _
  have hok : decOk (48 :: Lib.itoa r.site) = false := by
    unfold decOk
    have : 1 < (48 :: Lib.itoa r.site).length := by
      have := List.length_pos_iff.2 hne
      simp only [List.length_cons]
      omega
    rw [decide_eq_true this]
    simp
  have hnum : (numL (48 :: Lib.itoa r.site)).2 = false := by
    unfold numL
    rw [hok]
    simp
  unfold parseR
  cases hs : splitR (48 :: (Lib.itoa r.site ++ 58 :: (Lib.itoa r.seq ++ 32 :: (textL r.dep ++ 32 :: (r.key.data.toList ++ 61 :: r.val.data.toList))))) with
  | none => decide +kernel
  | some p =>
    dsimp only
    have hp : p.site = 48 :: Lib.itoa r.site := by
      unfold splitR at hs
      rw [← List.cons_append, hcut] at hs
      dsimp only at hs
      split at hs
      · have := Option.some.inj hs
        rw [← this]
      · cases hs
    unfold parseP
    rw [hp, hnum, if_neg (by simp)]

end Go.Proofs.YtndhkbmgpjjepaaDoor
