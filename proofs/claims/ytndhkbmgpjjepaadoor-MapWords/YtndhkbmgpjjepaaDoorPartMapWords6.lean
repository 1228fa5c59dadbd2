/- Own work: the parts RW, RW2, M15, M16, WMapGrows, M17, R8, M18, M19g of the proof, laid together. -/
import Derived.Test.YtndhkbmgpjjepaaDoorPartMapWords2
import Derived.Test.YtndhkbmgpjjepaaDoorPartMapWords5
import Derived.Deep.RegionLaw
/- Plain laws: a record in words is read again as it was. Own work; no statement. -/
set_option linter.unusedSimpArgs false
set_option linter.unusedVariables false
namespace Go.Proofs.YtndhkbmgpjjepaaDoor

theorem index_at : ∀ (a b : List UInt8) (x : UInt8), (∀ c ∈ a, c ≠ x) → Lib.indexByte (a ++ x :: b) x = a.length
  | [], b, x, _ => by simp [Lib.indexByte]
  | c :: a, b, x, h => by
    have ih := index_at a b x (fun d hd => h d (by simp [hd]))
    have hc : (c == x) = false := by simpa using h c (by simp)
    have hn : ¬ (a.length : Int) = -1 := by omega
    simp [Lib.indexByte, hc, ih, hn]

theorem cut_at (a b : List UInt8) (x : UInt8) (h : ∀ c ∈ a, c ≠ x) : cutL (a ++ x :: b) x = (a, b, true) := by
  unfold cutL
  rw [index_at a b x h, if_neg (by omega)]
  simp

theorem dig_ne {c x : UInt8} (h : digB c = true) (hx : x.toNat < 48 ∨ 57 < x.toNat) : c ≠ x := by
  intro e
  subst e
  simp only [digB, decide_eq_true_eq] at h
  omega

theorem decToM_val {m : Int} (hm : 0 ≤ m) : ∀ (l : List UInt8) (n : Int), (∀ c ∈ l, digB c = true) → 0 ≤ n → decToM m l (min n (m + 1)) = min (valTo l n) (m + 1)
  | [], n, _, _ => rfl
  | c :: l, n, h, h0 => by
    have hc := dig_range (h c (by simp))
    have ih := decToM_val hm l (10 * n + ((c.toNat : Int) - 48)) (fun d hd => h d (by simp [hd])) (by omega)
    simp only [decToM, valTo]
    rw [← ih]
    congr 1
    omega

theorem valTo_digits (u : Nat) : valTo (Lib.decDigits u) 0 = u := by
  induction u using Nat.strongRecOn with
  | _ u ih =>
    rw [Lib.decDigits]
    split
    · rename_i h
      simp only [valTo]
      rw [digit_val u h]
      omega
    · rename_i h
      rw [valTo_snoc, ih (u / 10) (by omega), digit_val (u % 10) (by omega)]
      omega

theorem numL_itoa {x : Int} (h0 : 0 ≤ x) (h1 : x ≤ 2147483647) : numL (Lib.itoa x) = (x, true) := by
  rw [itoa_nat x h0]
  have hv : decToM 2147483647 (Lib.decDigits x.toNat) 0 = x := by
    have := decToM_val (m := 2147483647) (by omega) (Lib.decDigits x.toNat) 0 (decDigits_all _) (Int.le_refl _)
    rw [show min (0 : Int) (2147483647 + 1) = 0 by omega, valTo_digits] at this
    rw [this]
    omega
  unfold numL
  rw [decOk_digits, hv, if_pos ⟨rfl, h1⟩]

theorem nums_no93 {l : List Int} (h : InS l) : ∀ k, ∀ c ∈ numsTo l k, c ≠ 93
  | 0 => by simp [numsTo]
  | k + 1 => by
    intro c hc
    simp only [numsTo, List.mem_append] at hc
    rcases hc with hc | hc | hc
    · exact nums_no93 h k c hc
    · split at hc
      · simp at hc
      · simp at hc
        subst hc
        decide
    · rw [itoa_nat _ (getD_inS h k).1] at hc
      exact dig_ne (decDigits_all _ c hc) (by decide)

theorem key_ne {l : List UInt8} (h : isKeyL l = true) : ∀ c ∈ l, c ≠ 61 := by
  intro c hc e
  subst e
  unfold isKeyL at h
  simp only [Bool.and_eq_true, List.all_eq_true] at h
  have := h.2 61 hc
  revert this
  decide

theorem itoa_ne {x : Int} (h : 0 ≤ x) {y : UInt8} (hy : y.toNat < 48 ∨ 57 < y.toNat) : ∀ c ∈ Lib.itoa x, c ≠ y := by
  intro c hc
  rw [itoa_nat x h] at hc
  exact dig_ne (decDigits_all _ c hc) hy

theorem textR_list (r : RecD) : (textR r).data.toList = Lib.itoa r.site ++ 58 :: (Lib.itoa r.seq ++ 32 :: (textL r.dep ++ 32 :: (r.key.data.toList ++ 61 :: r.val.data.toList))) := by
  unfold textR
  simp [ByteArray.data_append]

theorem split_text (r : RecD) (h0 : 0 ≤ r.site) (h1 : 0 ≤ r.seq) (hd : InS r.dep) (hk : isKeyL r.key.data.toList = true) :
    splitR (textR r).data.toList = some ⟨Lib.itoa r.site, Lib.itoa r.seq, textL r.dep, r.key.data.toList, r.val.data.toList⟩ := by
  rw [textR_list]
  unfold splitR
  rw [cut_at _ _ 58 (itoa_ne h0 (by decide))]
  dsimp only
  rw [cut_at _ _ 32 (itoa_ne h1 (by decide))]
  dsimp only
  have hix : Lib.indexByte (textL r.dep ++ 32 :: (r.key.data.toList ++ 61 :: r.val.data.toList)) 93 = (numsTo r.dep (writtenL r.dep)).length + 1 := by
    have := index_at (91 :: numsTo r.dep (writtenL r.dep)) (32 :: (r.key.data.toList ++ 61 :: r.val.data.toList)) 93 (by
      intro c hc
      rcases List.mem_cons.1 hc with rfl | hc
      · decide
      · exact nums_no93 hd _ c hc)
    unfold textL
    simpa using this
  rw [hix]
  have hlen : (textL r.dep).length = (numsTo r.dep (writtenL r.dep)).length + 2 := by simp [textL]
  have he : (((numsTo r.dep (writtenL r.dep)).length : Int) + 1 + 1).toNat = (textL r.dep).length := by rw [hlen]; omega
  rw [he, List.drop_left, List.take_left]
  have hp : Lib.hasPrefix (32 :: (r.key.data.toList ++ 61 :: r.val.data.toList)) [32] = true := by simp [Lib.hasPrefix, List.isPrefixOf]
  have ht : Lib.trimPrefix (32 :: (r.key.data.toList ++ 61 :: r.val.data.toList)) [32] = r.key.data.toList ++ 61 :: r.val.data.toList := by unfold Lib.trimPrefix; rw [hp]; simp
  rw [ht, hp, cut_at _ _ 61 (key_ne hk)]
  rw [if_pos ⟨rfl, rfl, by omega, rfl, rfl⟩]

theorem check_inS {l : List Int} {s : Int} (h : checkL l s = 0) : 1 ≤ s ∧ s ≤ 8 ∧ (l.length : Int) ≤ s ∧ InS l := by
  unfold checkL at h
  split at h
  · cases h
  · split at h
    · cases h
    · refine ⟨by omega, by omega, by omega, ?_⟩
      have : ∀ l : List Int, checkN l = 0 → InS l := by
        intro l
        induction l with
        | nil => intro _ x hx; simp at hx
        | cons n l ih =>
          intro h x hx
          simp only [checkN] at h
          split at h
          · cases h
          · split at h
            · cases h
            · rcases List.mem_cons.1 hx with rfl | hx
              · omega
              · exact ih h x hx
      exact this l h

theorem check_parts {r : RecD} {s : Int} (h : checkR r s = 0) : 1 ≤ s ∧ s ≤ 8 ∧ 0 ≤ r.site ∧ r.site < s ∧ 1 ≤ r.seq ∧ r.seq ≤ 1048576 ∧ (r.dep.length : Int) ≤ s ∧ InS r.dep ∧ geti r.dep r.site < r.seq ∧ isKeyL r.key.data.toList = true ∧ checkValL r.val.data.toList = 0 := by
  unfold checkR at h
  split at h
  · cases h
  · split at h
    · rename_i h1 h2
      split at h
      · cases h
      · split at h
        · rename_i h3 h4
          obtain ⟨a1, a2, a3, a4⟩ := check_inS h2
          exact ⟨by omega, by omega, by omega, by omega, by omega, by omega, a3, a4, by omega, h4, h⟩
        · cases h
    · rename_i h2
      exact absurd h h2

/-- What is read of a record's words. -/
def backR (r : RecD) : RecD := ⟨r.site, r.seq, r.dep.take (writtenL r.dep), r.key, r.val⟩

theorem geti_written (l : List Int) (i : Int) : geti (l.take (writtenL l)) i = geti l i := by
  have hs := same_written l
  rw [same_iff] at hs
  by_cases h : 0 ≤ i
  · obtain ⟨n, rfl⟩ := Int.eq_ofNat_of_zero_le h
    rw [geti_nat, geti_nat]
    exact (hs n).symm
  · unfold geti
    rw [if_pos (by omega), if_pos (by omega)]

theorem back_check {r : RecD} {s : Int} (h : checkR r s = 0) : checkR (backR r) 8 = 0 := by
  obtain ⟨a1, a2, a3, a4, a5, a6, a7, a8, a9, a10, a11⟩ := check_parts h
  unfold checkR backR
  dsimp only
  rw [if_neg (by omega), if_pos (check_ok _ (inS_take _ a8 _) (by rw [List.length_take]; omega)), geti_written, if_neg (by omega), if_pos a10]
  exact a11

theorem parse_textR {r : RecD} {s : Int} (h : checkR r s = 0) : parseR (textR r).data.toList = (backR r, 0) := by
  obtain ⟨a1, a2, a3, a4, a5, a6, a7, a8, a9, a10, a11⟩ := check_parts h
  have hb := back_check h
  unfold parseR
  rw [split_text r a3 (by omega) a8 a10]
  dsimp only
  unfold parseP
  rw [numL_itoa a3 (by omega), numL_itoa (by omega) (by omega), parse_text _ a8 (by omega)]
  dsimp only
  rw [if_pos ⟨rfl, rfl, rfl⟩, if_pos rfl]
  have e : (⟨r.site, r.seq, r.dep.take (writtenL r.dep), ⟨r.key.data.toList.toArray⟩, ⟨r.val.data.toList.toArray⟩⟩ : RecD) = backR r := by simp [backR]
  rw [e, hb, if_pos rfl]

theorem back_same (r : RecD) : sameR (backR r) r = true := by
  unfold sameR backR
  simp only [decide_true, Bool.true_and]
  have hs := same_written r.dep
  rw [same_iff] at hs ⊢
  exact fun i => (hs i).symm

end Go.Proofs.YtndhkbmgpjjepaaDoor

/- Plain laws: what is read as a record is told just so; records that are the same are told the same. Own work; no statement. -/
set_option linter.unusedSimpArgs false
set_option linter.unusedVariables false
namespace Go.Proofs.YtndhkbmgpjjepaaDoor

theorem numL_text {x : List UInt8} (h : (numL x).2 = true) : Lib.itoa (numL x).1 = x ∧ 0 ≤ (numL x).1 ∧ (numL x).1 ≤ 2147483647 := by
  have hv : numL x = if decOk x = true ∧ valTo x 0 ≤ 2147483647 then (valTo x 0, true) else (0, false) := by
    unfold numL
    cases hd : decOk x with
    | false => simp
    | true =>
      have hm := decToM_val (m := 2147483647) (by omega) x 0 (decOk_parts hd).2.2 (Int.le_refl _)
      rw [show min (0 : Int) (2147483647 + 1) = 0 by omega] at hm
      rw [hm]
      by_cases hv : valTo x 0 ≤ 2147483647
      · rw [if_pos ⟨rfl, by omega⟩, if_pos ⟨rfl, hv⟩, show min (valTo x 0) (2147483647 + 1) = valTo x 0 by omega]
      · rw [if_neg (by omega), if_neg (by omega)]
  rw [hv] at h ⊢
  split at h
  · rename_i hh
    rw [if_pos hh]
    dsimp only
    have hge := valTo_ge x 0 (decOk_parts hh.1).2.2 (Int.le_refl _)
    refine ⟨?_, hge, hh.2⟩
    rw [itoa_nat _ hge]
    have := digits_val x.reverse (by rw [List.reverse_reverse]; exact hh.1)
    rwa [List.reverse_reverse] at this
  · cases h

theorem cut_form {l : List UInt8} {c : UInt8} (h : (cutL l c).2.2 = true) : l = (cutL l c).1 ++ c :: (cutL l c).2.1 := by
  unfold cutL at *
  by_cases hi : Lib.indexByte l c = -1
  · rw [if_pos hi] at h
    cases h
  · rw [if_neg hi]
    dsimp only
    have hge := Lib.indexByte_ge l c
    have hlt := indexByte_lt l c
    obtain ⟨k, hk⟩ := Int.eq_ofNat_of_zero_le (show 0 ≤ Lib.indexByte l c by omega)
    rw [hk, Int.toNat_natCast]
    have hkl : k < l.length := by omega
    have hat : ∀ (l : List UInt8) (k : Nat), Lib.indexByte l c = k → l[k]? = some c := by
      intro l
      induction l with
      | nil => intro k h; simp [Lib.indexByte] at h
      | cons x l ih =>
        intro k h
        simp only [Lib.indexByte] at h
        split at h
        · rename_i hx
          have : k = 0 := by omega
          subst this
          simpa using hx
        · split at h
          · omega
          · cases k with
            | zero => have := Lib.indexByte_ge l c; rename_i h1 h2; simp at h2; omega
            | succ k => simpa using ih k (by omega)
    have hc := hat l k hk
    conv => lhs; rw [← List.take_append_drop k l]
    congr 1
    rw [List.drop_eq_getElem_cons hkl]
    congr 1
    rw [List.getElem?_eq_getElem hkl] at hc
    exact Option.some.inj hc

theorem split_form {s : List UInt8} {p : Parts} (h : splitR s = some p) : s = p.site ++ 58 :: (p.seq ++ 32 :: (p.dep ++ 32 :: (p.key ++ 61 :: p.val))) := by
  unfold splitR at h
  dsimp only at h
  have f1 := @cut_form s 58
  generalize cutL s 58 = c1 at *
  have f2 := @cut_form c1.2.1 32
  generalize cutL c1.2.1 32 = c2 at *
  generalize (Lib.indexByte c2.2.1 93 + 1).toNat = e at *
  have f3 := @cut_form (Lib.trimPrefix (c2.2.1.drop e) [32]) 61
  split at h
  · rename_i hh
    obtain ⟨g1, g2, g3, g4, g5⟩ := hh
    have e1 := Option.some.inj h
    subst e1
    dsimp only
    have hr : c2.2.1.drop e = 32 :: Lib.trimPrefix (c2.2.1.drop e) [32] := by
      unfold Lib.trimPrefix
      rw [g4, if_pos rfl]
      generalize c2.2.1.drop e = r at *
      cases r with
      | nil => simp [Lib.hasPrefix, List.isPrefixOf] at g4
      | cons x r =>
        simp [Lib.hasPrefix, List.isPrefixOf] at g4
        simp [g4]
    rw [← f3 g5, ← hr, List.take_append_drop, ← f2 g2, ← f1 g1]
  · cases h

theorem text_parseR {s : List UInt8} (h : (parseR s).2 = 0) : (textR (parseR s).1).data.toList = s := by
  unfold parseR at h ⊢
  cases hs : splitR s with
  | none =>
    rw [hs] at h
    exact absurd h (by decide +kernel : ¬ (parseP false [] [] [] [] []).2 = 0)
  | some p =>
    rw [hs] at h
    have hf := split_form hs
    dsimp only at h ⊢
    unfold parseP at h ⊢
    split at h
    · rename_i hh
      obtain ⟨-, n1, n2⟩ := hh
      rw [if_pos ⟨rfl, n1, n2⟩]
      split at h
      · rename_i h0
        rw [if_pos h0]
        split at h
        · rename_i hc
          rw [if_pos hc]
          dsimp only
          rw [textR_list]
          dsimp only
          rw [(numL_text n1).1, (numL_text n2).1, text_parse h0, hf]
        · rename_i hc
          exact absurd h hc
      · rename_i h0
        exact absurd h h0
    · cases h

theorem written_same {a b : List Int} (h : ∀ i, a.getD i 0 = b.getD i 0) : writtenL a = writtenL b := by
  have one : ∀ {a b : List Int}, (∀ i, a.getD i 0 = b.getD i 0) → writtenL a ≤ writtenL b := by
    intro a b h
    rcases Nat.lt_or_ge (writtenL b) (writtenL a) with hlt | hge
    · exfalso
      obtain ⟨k, hk⟩ : ∃ k, writtenL a = k + 1 := ⟨writtenL a - 1, by omega⟩
      exact writtenL_last a k hk (by rw [h k]; exact writtenL_past b k (by omega))
    · exact hge
  have h1 := one h
  have h2 := one (fun i => (h i).symm)
  omega
theorem nums_same {a b : List Int} (h : ∀ i, a.getD i 0 = b.getD i 0) : ∀ k, numsTo a k = numsTo b k
  | 0 => rfl
  | k + 1 => by simp only [numsTo]; rw [nums_same h k, h k]
theorem same_text {a b : RecD} (h : sameR a b = true) : textR a = textR b := by
  unfold sameR at h
  simp only [Bool.and_eq_true, decide_eq_true_eq] at h
  obtain ⟨h1, h2, h3, h4, h5⟩ := h
  rw [same_iff] at h5
  unfold textR textL
  rw [h1, h2, h3, h4, written_same h5, nums_same h5]

theorem nought_parse (r : RecD) (h0 : 0 ≤ r.site) : (parseR (48 :: (textR r).data.toList)).2 = 2 := by
  rw [textR_list]
  have hsite : ∀ c ∈ 48 :: Lib.itoa r.site, c ≠ 58 := by
    intro c hc
    rcases List.mem_cons.1 hc with rfl | hc
    · decide
    · exact itoa_ne h0 (by decide) c hc
  have hcut := cut_at (48 :: Lib.itoa r.site) (Lib.itoa r.seq ++ 32 :: (textL r.dep ++ 32 :: (r.key.data.toList ++ 61 :: r.val.data.toList))) 58 hsite
  have hne : Lib.itoa r.site ≠ [] := by rw [itoa_nat _ h0]; exact decDigits_ne _
  have hok : decOk (48 :: Lib.itoa r.site) = false := by
    unfold decOk
    have : 1 < (48 :: Lib.itoa r.site).length := by
      have := List.length_pos_iff.2 hne
      simp only [List.length_cons]
      omega
    rw [decide_eq_true this]
    simp
  have hnum : (numL (48 :: Lib.itoa r.site)).2 = false := by
    unfold numL
    rw [hok]
    simp
  unfold parseR
  cases hs : splitR (48 :: (Lib.itoa r.site ++ 58 :: (Lib.itoa r.seq ++ 32 :: (textL r.dep ++ 32 :: (r.key.data.toList ++ 61 :: r.val.data.toList))))) with
  | none => decide +kernel
  | some p =>
    dsimp only
    have hp : p.site = 48 :: Lib.itoa r.site := by
      unfold splitR at hs
      rw [← List.cons_append, hcut] at hs
      dsimp only at hs
      split at hs
      · have := Option.some.inj hs
        rw [← this]
      · cases hs
    unfold parseP
    rw [hp, hnum, if_neg (by simp)]

end Go.Proofs.YtndhkbmgpjjepaaDoor

/- Plain laws on maps: in words and back; with a span more. Own work; no statement. -/
set_option linter.unusedSimpArgs false
set_option linter.unusedVariables false
namespace Go.Proofs.YtndhkbmgpjjepaaDoor

theorem rng8 {n : Int} (h : (Lit.int .u8 n).wf = true) : 0 ≤ n ∧ n ≤ 255 := by
  have h' : (decide (IntKind.u8.min ≤ n) && decide (n ≤ IntKind.u8.max)) = true := h
  simp only [Bool.and_eq_true, decide_eq_true_eq] at h'
  exact h'
theorem rng16 {n : Int} (h : (Lit.int .u16 n).wf = true) : 0 ≤ n ∧ n ≤ 65535 := by
  have h' : (decide (IntKind.u16.min ≤ n) && decide (n ≤ IntKind.u16.max)) = true := h
  simp only [Bool.and_eq_true, decide_eq_true_eq] at h'
  exact h'
theorem rng64 {n : Int} (h : (Lit.int .i64 n).wf = true) : -9223372036854775808 ≤ n ∧ n ≤ 9223372036854775807 := by
  have h' : (decide (IntKind.i64.min ≤ n) && decide (n ≤ IntKind.i64.max)) = true := h
  simp only [Bool.and_eq_true, decide_eq_true_eq] at h'
  exact h'
/-- A map's numbers may stand in words. -/
def MapS (m : MapD) : Prop := ∀ x ∈ m, (0 ≤ x.1 ∧ x.1 ≤ 2147483647) ∧ (0 ≤ x.2 ∧ x.2 ≤ 2147483647)
theorem MapS.r {m : MapD} (h : MapS m) : MapR m := fun x hx => by have := h x hx; omega

theorem span_text {x : Int × Int} (h : (0 ≤ x.1 ∧ x.1 ≤ 2147483647) ∧ (0 ≤ x.2 ∧ x.2 ≤ 2147483647)) : spanL (spanB x) = (x, true) := by
  have hc : cutL (spanB x) 47 = (Lib.itoa x.1, Lib.itoa x.2, true) := cut_at (Lib.itoa x.1) (Lib.itoa x.2) 47 (itoa_ne h.1.1 (by decide))
  unfold spanL
  rw [hc]
  dsimp only
  rw [numL_itoa h.1.1 h.1.2, numL_itoa h.2.1 h.2.2]
  rfl
theorem text_span {l : List UInt8} (h : (spanL l).2 = true) : spanB (spanL l).1 = l ∧ (0 ≤ (spanL l).1.1 ∧ (spanL l).1.1 ≤ 2147483647) ∧ (0 ≤ (spanL l).1.2 ∧ (spanL l).1.2 ≤ 2147483647) := by
  unfold spanL at h ⊢
  by_cases hn : (numL (cutL l 47).1).2 = true ∧ (numL (cutL l 47).2.1).2 = true
  · rw [if_pos hn]
    obtain ⟨t1, r1, r2⟩ := numL_text hn.1
    obtain ⟨t2, r3, r4⟩ := numL_text hn.2
    refine ⟨?_, ⟨r1, r2⟩, r3, r4⟩
    have hc : (cutL l 47).2.2 = true := by
      cases hb : (cutL l 47).2.2 with
      | true => rfl
      | false =>
        have : (cutL l 47).2.1 = [] := by
          unfold cutL at hb ⊢
          split
          · rfl
          · rename_i hi
            rw [if_neg hi] at hb
            cases hb
        rw [this] at hn
        exact absurd hn.2 (by decide)
    have hf := cut_form hc
    unfold spanB
    dsimp only
    rw [t1, t2]
    exact hf.symm
  · rw [if_neg hn] at h
    cases h
theorem span_no32 {x : Int × Int} (h : 0 ≤ x.1 ∧ 0 ≤ x.2) : ∀ c ∈ spanB x, c ≠ 32 := by
  intro c hc
  unfold spanB at hc
  simp only [List.mem_append, List.mem_cons, List.not_mem_nil, or_false] at hc
  rcases hc with hc | rfl | hc
  · exact itoa_ne h.1 (by decide) c hc
  · decide
  · exact itoa_ne h.2 (by decide) c hc
theorem split_spans {m : MapD} (h : ∀ x ∈ m, 0 ≤ x.1 ∧ 0 ≤ x.2) : ∀ k, k < m.length → splitL (spansTo m (k + 1)) = (m.take (k + 1)).map spanB
  | 0, hk => by
    have hx := h _ (List.getElem_mem hk)
    rw [spansTo, spansTo, if_pos rfl, List.nil_append, List.nil_append, List.take_add_one, List.getElem?_eq_getElem hk, List.getD_eq_getElem?_getD, List.getElem?_eq_getElem hk]
    exact splitL_word _ (span_no32 hx)
  | k + 1, hk => by
    have hx := h _ (List.getElem_mem hk)
    have ih := split_spans h k (by omega)
    rw [spansTo, if_neg (by omega), List.singleton_append, splitL_append, ih, List.take_add_one (i := k + 1), List.getElem?_eq_getElem hk, List.getD_eq_getElem?_getD, List.getElem?_eq_getElem hk]
    simp only [Option.getD_some, Option.toList_some, List.map_append, List.map_cons, List.map_nil]
    rw [splitL_word _ (span_no32 hx)]
theorem split_textM {m : MapD} (h : ∀ x ∈ m, 0 ≤ x.1 ∧ 0 ≤ x.2) (h0 : 0 < m.length) : splitL (textM m) = m.map spanB := by
  obtain ⟨k, hk⟩ : ∃ k, m.length = k + 1 := ⟨m.length - 1, by omega⟩
  unfold textM
  have := split_spans h k (by omega)
  rw [hk, this, ← hk, List.take_length]
theorem textM_ne {m : MapD} (h : ∀ x ∈ m, 0 ≤ x.1 ∧ 0 ≤ x.2) (h0 : 0 < m.length) : textM m ≠ [] := by
  intro e
  have := split_textM h h0
  rw [e] at this
  cases m with
  | nil => simp at h0
  | cons x r =>
    rw [List.map_cons, show splitL [] = [[]] from rfl, List.cons.injEq] at this
    have h1 := this.1
    unfold spanB at h1
    simp at h1
theorem parse_textM {m : MapD} (hs : MapS m) (hok : okMap m = true) : parseM (textM m) = (m, 0) := by
  have h : ∀ x ∈ m, 0 ≤ x.1 ∧ 0 ≤ x.2 := fun x hx => ⟨(hs x hx).1.1, (hs x hx).2.1⟩
  have h0 := okMap_pos hok
  have e1 : spansB (m.map spanB) = true := by
    unfold spansB
    rw [List.all_eq_true]
    intro y hy
    obtain ⟨x, hx, rfl⟩ := List.mem_map.1 hy
    rw [span_text (hs x hx)]
  have e2 : spansOf (m.map spanB) = m := by
    unfold spansOf
    rw [List.map_map]
    conv => rhs; rw [← List.map_id m]
    apply List.map_congr_left
    intro x hx
    simp only [Function.comp]
    rw [span_text (hs x hx)]
    rfl
  have e3 : parseT (textM m) = (m, true) := by
    unfold parseT
    rw [if_neg (textM_ne h h0), split_textM h h0, parseW, if_pos e1, e2]
  unfold parseM
  rw [e3, if_pos rfl, if_pos hok]
theorem parseM_some {s : List UInt8} (h : (parseM s).2 = 0) : okMap (parseM s).1 = true ∧ MapS (parseM s).1 ∧ textM (parseM s).1 = s := by
  unfold parseM at h ⊢
  by_cases h1 : (parseT s).2 = true
  · rw [if_pos h1] at h ⊢
    by_cases h2 : okMap (parseT s).1 = true
    · rw [if_pos h2]
      unfold parseT at h1 h2 ⊢
      by_cases h3 : s = []
      · rw [if_pos h3] at h2
        cases h2
      · rw [if_neg h3] at h1 h2 ⊢
        unfold parseW at h1 h2 ⊢
        by_cases h4 : spansB (splitL s) = true
        · rw [if_pos h4] at h2 ⊢
          dsimp only at h2 ⊢
          rw [spansB, List.all_eq_true] at h4
          have hS : MapS (spansOf (splitL s)) := by
            intro y hy
            obtain ⟨x, hx, rfl⟩ := List.mem_map.1 hy
            exact (text_span (h4 x hx)).2
          refine ⟨h2, hS, splitL_inj ?_⟩
          rw [split_textM (fun x hx => ⟨(hS x hx).1.1, (hS x hx).2.1⟩) (okMap_pos h2)]
          unfold spansOf
          rw [List.map_map]
          conv => rhs; rw [← List.map_id (splitL s)]
          apply List.map_congr_left
          intro x hx
          exact (text_span (h4 x hx)).1
        · rw [if_neg h4] at h1
          cases h1
    · rw [if_neg h2] at h
      cases h
  · rw [if_neg h1] at h
    cases h

theorem okFrom_snoc : ∀ (m : MapD) (a f n : Int), okFrom a m = true → a ≤ f → (∀ x ∈ m, x.1 ≤ f) → 1 ≤ n → n ≤ 8 → okFrom a (m ++ [(f, n)]) = true
  | [], a, f, n, _, h1, _, h2, h3 => by simp [okFrom, h1, h2, h3]
  | x :: r, a, f, n, h, h1, hx, h2, h3 => by
    rw [okFrom_cons] at h
    simp only [Bool.and_eq_true, decide_eq_true_eq] at h
    rw [List.cons_append, okFrom_cons, okFrom_snoc r x.1 f n h.2 (hx x (by simp)) (fun y hy => hx y (by simp [hy])) h2 h3]
    simp [h.1.1.1, h.1.1.2, h.1.2]
theorem okMap_snoc {m : MapD} {f n : Int} (h : okMap m = true) (hx : ∀ x ∈ m, x.1 ≤ f) (h1 : 1 ≤ n) (h2 : n ≤ 8) : okMap (m ++ [(f, n)]) = true := by
  have hf := okMap_from h
  cases m with
  | nil => simp [okMap] at h
  | cons x r =>
    have hz := okMap_zero h
    simp only [List.getElem_cons_zero] at hz
    have := okFrom_snoc (x :: r) 0 f n hf (by have := hx x (by simp); omega) hx h1 h2
    rw [List.cons_append] at this ⊢
    simp only [okMap, hz, decide_true, Bool.true_and]
    exact this
theorem getD_app (m r : MapD) (k : Nat) (h : k < m.length) : (m ++ r).getD k (0, 0) = m.getD k (0, 0) := by
  rw [List.getD_eq_getElem?_getD, List.getD_eq_getElem?_getD, List.getElem?_append_left h]
theorem epochM_app (m r : MapD) (p : Int) : ∀ k, k ≤ m.length → epochM (m ++ r) p k = epochM m p k
  | 0, _ => rfl
  | k + 1, h => by
    unfold epochM
    rw [getD_app m r k (by omega), epochM_app m r p k (by omega)]
theorem find_snoc {m : MapD} {f n p : Int} (h : okMap m = true) (h' : okMap (m ++ [(f, n)]) = true) (h0 : 0 ≤ p) (hp : p < f) : findM (m ++ [(f, n)]) p = findM m p := by
  have hg : (m ++ [(f, n)]).getD m.length (0, 0) = (f, n) := by
    rw [List.getD_eq_getElem?_getD, List.getElem?_append_right (Nat.le_refl _)]
    simp
  have he : epochM (m ++ [(f, n)]) p (m ++ [(f, n)]).length = epochM m p m.length := by
    rw [List.length_append, List.length_singleton, epochM, hg, if_neg (by omega), epochM_app m _ p _ (Nat.le_refl _)]
  have h1 := epochM_pos h h0 m.length (okMap_pos h)
  have h2 := epochM_le m p m.length
  unfold findM
  rw [if_pos ⟨h0, h'⟩, if_pos ⟨h0, h⟩, he, getD_app m _ _ (by omega)]
theorem find_last {m : MapD} {f n : Int} (h' : okMap (m ++ [(f, n)]) = true) (h0 : 0 ≤ f) : findM (m ++ [(f, n)]) f = ((m.length : Int) + 1, 0, 0) := by
  have hg : (m ++ [(f, n)]).getD m.length (0, 0) = (f, n) := by
    rw [List.getD_eq_getElem?_getD, List.getElem?_append_right (Nat.le_refl _)]
    simp
  unfold findM
  rw [if_pos ⟨h0, h'⟩, List.length_append, List.length_singleton, epochM, hg, if_pos (Int.le_refl _), Nat.add_sub_cancel, hg]
  simp

end Go.Proofs.YtndhkbmgpjjepaaDoor

/- Plain laws on Positions: just those of a stripe, rising. Own work; no statement. -/
set_option linter.unusedSimpArgs false
set_option linter.unusedVariables false
namespace Go.Proofs.YtndhkbmgpjjepaaDoor

theorem rising_eq : ∀ (a b : List Int), a.Pairwise (· < ·) → b.Pairwise (· < ·) → (∀ x, x ∈ a ↔ x ∈ b) → a = b
  | [], [], _, _, _ => rfl
  | [], y :: b, _, _, h => absurd ((h y).2 (by simp)) (by simp)
  | x :: a, [], _, _, h => absurd ((h x).1 (by simp)) (by simp)
  | x :: a, y :: b, ha, hb, h => by
    rw [List.pairwise_cons] at ha hb
    have e : x = y := by
      have h1 := (h x).1 (by simp)
      have h2 := (h y).2 (by simp)
      simp only [List.mem_cons] at h1 h2
      rcases h1 with h1 | h1
      · exact h1
      · rcases h2 with h2 | h2
        · exact h2.symm
        · have := hb.1 x h1
          have := ha.1 y h2
          omega
    subst e
    rw [rising_eq a b ha.2 hb.2 fun z => ?_]
    have hz := h z
    simp only [List.mem_cons] at hz
    constructor
    · intro hm
      rcases hz.1 (.inr hm) with rfl | h'
      · exact absurd (ha.1 z hm) (by omega)
      · exact h'
    · intro hm
      rcases hz.2 (.inr hm) with rfl | h'
      · exact absurd (hb.1 z hm) (by omega)
      · exact h'

theorem stepL_ge {N e : Int} (hN : 1 ≤ N) : ∀ (f : Nat) (left : Int), ∀ x ∈ stepL N e f left, e - left ≤ x ∧ x < e
  | 0, _, x, h => by simp [stepL] at h
  | f + 1, left, x, h => by
    unfold stepL at h
    split at h
    · simp at h
    · rw [List.mem_cons] at h
      rcases h with rfl | h
      · omega
      · have := stepL_ge hN f (left - N) x h
        omega
theorem stepL_rising {N e : Int} (hN : 1 ≤ N) : ∀ (f : Nat) (left : Int), (stepL N e f left).Pairwise (· < ·)
  | 0, _ => by simp [stepL]
  | f + 1, left => by
    unfold stepL
    split
    · simp
    · rw [List.pairwise_cons]
      refine ⟨fun y hy => ?_, stepL_rising hN f (left - N)⟩
      have := stepL_ge hN f (left - N) y hy
      omega
theorem stepL_mem {N e : Int} (hN : 1 ≤ N) (hN8 : N ≤ 8) : ∀ (f : Nat) (left : Int), left ≤ f → ∀ x, x ∈ stepL N e f left ↔ (e - left ≤ x ∧ x < e ∧ (x - (e - left)) % N = 0)
  | 0, left, h, x => by
    simp only [stepL, List.not_mem_nil, false_iff]
    omega
  | f + 1, left, h, x => by
    have hc : N = 1 ∨ N = 2 ∨ N = 3 ∨ N = 4 ∨ N = 5 ∨ N = 6 ∨ N = 7 ∨ N = 8 := by omega
    unfold stepL
    split
    · simp only [List.not_mem_nil, false_iff]
      omega
    · rw [List.mem_cons, stepL_mem hN hN8 f (left - N) (by omega) x]
      rcases hc with rfl | rfl | rfl | rfl | rfl | rfl | rfl | rfl <;> omega
theorem dealtL_mem {F N k a e : Int} (hN : 1 ≤ N) (hN8 : N ≤ 8) (x : Int) : x ∈ dealtL (F, N) k a e ↔ (a ≤ x ∧ F ≤ x ∧ x < e ∧ 0 ≤ k ∧ k < N ∧ (x - F) % N = k) := by
  have hc : N = 1 ∨ N = 2 ∨ N = 3 ∨ N = 4 ∨ N = 5 ∨ N = 6 ∨ N = 7 ∨ N = 8 := by omega
  unfold dealtL
  split
  · rename_i h
    simp only [List.not_mem_nil, false_iff]
    dsimp only at h
    omega
  · rename_i h
    dsimp only at h
    rw [stepL_mem hN hN8 _ _ (by omega)]
    unfold leftL
    dsimp only
    generalize hs : max a F = s at *
    have h1 : a ≤ x ∧ F ≤ x ↔ s ≤ x := by omega
    have h2 : F ≤ s := by omega
    rcases hc with rfl | rfl | rfl | rfl | rfl | rfl | rfl | rfl <;> omega
theorem dealtL_rising {F N k a e : Int} (hN : 1 ≤ N) : (dealtL (F, N) k a e).Pairwise (· < ·) := by
  unfold dealtL
  split
  · simp
  · exact stepL_rising hN _ _

theorem getD_get (m : MapD) (j : Nat) (h : j < m.length) : m.getD j (0, 0) = m[j] := by rw [List.getD_eq_getElem?_getD, List.getElem?_eq_getElem h]; rfl
theorem epochM_at {m : MapD} {x : Int} {j : Nat} (hok : okMap m = true) (hj : j < m.length) (h1 : m[j].1 ≤ x) (h2 : ∀ h : j + 1 < m.length, x < m[j + 1].1) : ∀ n, j < n → n ≤ m.length → epochM m x n = j + 1
  | 0, h, _ => by omega
  | n + 1, h, hn => by
    unfold epochM
    rw [getD_get m n (by omega)]
    by_cases e : n = j
    · subst e
      rw [if_pos h1]
    · have hs : m[j + 1].1 ≤ m[n].1 := by
        by_cases e' : n = j + 1
        · subst e'
          exact Int.le_refl _
        · exact okMap_sorted hok (j + 1) n (by omega) (by omega)
      have := h2 (by omega)
      rw [if_neg (by omega), epochM_at hok hj h1 h2 n (by omega) (by omega)]
/-- The stripe of a position. -/
def stripeM (m : MapD) (x : Int) : Int := (findM m x).2.1
theorem stripe_at {m : MapD} {x : Int} {j : Nat} (hok : okMap m = true) (hj : j < m.length) (h0 : 0 ≤ x) (h1 : m[j].1 ≤ x) (h2 : ∀ h : j + 1 < m.length, x < m[j + 1].1) : stripeM m x = (x - m[j].1) % m[j].2 := by
  unfold stripeM findM
  rw [if_pos ⟨h0, hok⟩, epochM_at hok hj h1 h2 m.length hj (Nat.le_refl _), Nat.add_sub_cancel, getD_get m j hj]
theorem epoch_next {m : MapD} {x : Int} : ∀ n, ∀ i, epochM m x n ≤ i → i < n → x < (m.getD i (0, 0)).1
  | 0, i, _, h => by omega
  | n + 1, i, h1, h2 => by
    unfold epochM at h1
    split at h1
    · omega
    · rename_i hx
      by_cases e : i = n
      · subst e
        omega
      · exact epoch_next n i h1 (by omega)

theorem part_mem {m : MapD} (hok : okMap m = true) (k a e x : Int) (j : Nat) (hj : j < m.length) : x ∈ dealtL (m.getD j (0, 0)) k a (endM m e j) ↔ (a ≤ x ∧ m[j].1 ≤ x ∧ x < e ∧ (∀ h : j + 1 < m.length, x < m[j + 1].1) ∧ 0 ≤ k ∧ k < m[j].2 ∧ (x - m[j].1) % m[j].2 = k) := by
  have hN := okMap_get hok j hj
  rw [getD_get m j hj, show m[j] = (m[j].1, m[j].2) from rfl, dealtL_mem hN.2.1 hN.2.2]
  dsimp only
  unfold endM
  split
  · rename_i h
    rw [getD_get m (j + 1) h]
    constructor
    · rintro ⟨h1, h2, h3, h4, h5, h6⟩
      exact ⟨h1, h2, by omega, fun _ => by omega, h4, h5, h6⟩
    · rintro ⟨h1, h2, h3, h4, h5, h6, h7⟩
      have := h4 h
      exact ⟨h1, h2, by omega, h5, h6, h7⟩
  · rename_i h
    constructor
    · rintro ⟨h1, h2, h3, h4, h5, h6⟩
      exact ⟨h1, h2, h3, fun h' => absurd h' h, h4, h5, h6⟩
    · rintro ⟨h1, h2, h3, h4, h5, h6, h7⟩
      exact ⟨h1, h2, h3, h5, h6, h7⟩
theorem posL_mem {m : MapD} (hok : okMap m = true) {k a e : Int} (ha : 0 ≤ a) (x : Int) : x ∈ posL m k a e ↔ (a ≤ x ∧ x < e ∧ stripeM m x = k) := by
  unfold posL partsL
  rw [List.mem_flatten]
  constructor
  · rintro ⟨l, hl, hx⟩
    rw [List.mem_map] at hl
    obtain ⟨y, hy, rfl⟩ := hl
    obtain ⟨j, hj, rfl⟩ := List.mem_iff_getElem.1 hy
    have hjm : j < m.length := by rw [endedL_length] at hj; exact hj
    rw [endedL_get] at hx
    dsimp only at hx
    rw [part_mem hok k a e x j hjm] at hx
    obtain ⟨h1, h2, h3, h4, h5, h6, h7⟩ := hx
    exact ⟨h1, h3, by rw [stripe_at hok hjm (by omega) h2 h4]; exact h7⟩
  · rintro ⟨h1, h2, h3⟩
    have hp := epochM_pos (pos := x) hok (by omega) m.length (okMap_pos hok)
    have hle := epochM_le m x m.length
    have hfr := epochM_from (m := m) (pos := x) m.length hp
    obtain ⟨j, hj⟩ : ∃ j, epochM m x m.length = j + 1 := ⟨epochM m x m.length - 1, by omega⟩
    rw [hj, Nat.add_sub_cancel] at hfr
    have hjm : j < m.length := by omega
    rw [getD_get m j hjm] at hfr
    have h4 : ∀ h : j + 1 < m.length, x < m[j + 1].1 := fun h => by
      have := epoch_next (m := m) (x := x) m.length (j + 1) (by omega) h
      rwa [getD_get m (j + 1) h] at this
    have hN := okMap_get hok j hjm
    have hst := stripe_at hok hjm (by omega) hfr h4
    refine ⟨_, List.mem_map.2 ⟨(m.getD j (0, 0), endM m e j), ?_, rfl⟩, ?_⟩
    · have hjl : j < (endedL m e).length := by rw [endedL_length]; exact hjm
      have := List.getElem_mem hjl
      rwa [endedL_get] at this
    · dsimp only
      rw [part_mem hok k a e x j hjm]
      rw [hst] at h3
      have m1 := Int.emod_nonneg (x - m[j].1) (show m[j].2 ≠ 0 by omega)
      have m2 := Int.emod_lt_of_pos (x - m[j].1) (show 0 < m[j].2 by omega)
      exact ⟨h1, hfr, h2, h4, by omega, by omega, h3⟩
theorem posL_rising {m : MapD} (hok : okMap m = true) (k a e : Int) : (posL m k a e).Pairwise (· < ·) := by
  unfold posL
  rw [List.pairwise_flatten]
  constructor
  · intro l hl
    unfold partsL at hl
    rw [List.mem_map] at hl
    obtain ⟨y, hy, rfl⟩ := hl
    obtain ⟨j, hj, rfl⟩ := List.mem_iff_getElem.1 hy
    have hjm : j < m.length := by rw [endedL_length] at hj; exact hj
    rw [endedL_get]
    dsimp only
    rw [getD_get m j hjm]
    exact dealtL_rising (okMap_get hok j hjm).2.1
  · rw [List.pairwise_iff_getElem]
    intro i j hi hj hij x hx y hy
    have hi' : i < m.length := by rw [partsL_length, endedL_length] at hi; exact hi
    have hj' : j < m.length := by rw [partsL_length, endedL_length] at hj; exact hj
    simp only [partsL, List.getElem_map, endedL_get] at hx hy
    rw [part_mem hok k a e x i hi'] at hx
    rw [part_mem hok k a e y j hj'] at hy
    have h1 := hx.2.2.2.1 (by omega)
    have h2 := hy.2.1
    have hs : m[i + 1].1 ≤ m[j].1 := by
      by_cases e' : j = i + 1
      · subst e'
        exact Int.le_refl _
      · exact okMap_sorted hok (i + 1) j (by omega) hj'
    omega

/-- The positions of [a, a + n) of a stripe, one by one. -/
def wantL (m : MapD) (k a : Int) : Nat → List Int
  | 0 => []
  | n + 1 => wantL m k a n ++ (if stripeM m (a + n) = k then [a + n] else [])
theorem wantL_mem (m : MapD) (k a x : Int) : ∀ n : Nat, x ∈ wantL m k a n ↔ (a ≤ x ∧ x < a + n ∧ stripeM m x = k)
  | 0 => by simp [wantL]; omega
  | n + 1 => by
    rw [wantL, List.mem_append, wantL_mem m k a x n]
    by_cases hs : stripeM m (a + n) = k
    · rw [if_pos hs, List.mem_singleton]
      constructor
      · rintro (h | rfl)
        · exact ⟨h.1, by omega, h.2.2⟩
        · exact ⟨by omega, by omega, hs⟩
      · rintro ⟨h1, h2, h3⟩
        by_cases e : x = a + n
        · exact .inr e
        · exact .inl ⟨h1, by omega, h3⟩
    · rw [if_neg hs]
      constructor
      · rintro (h | h)
        · exact ⟨h.1, by omega, h.2.2⟩
        · simp at h
      · rintro ⟨h1, h2, h3⟩
        by_cases e : x = a + n
        · subst e
          exact absurd h3 hs
        · exact .inl ⟨h1, by omega, h3⟩
theorem wantL_rising (m : MapD) (k a : Int) : ∀ n : Nat, (wantL m k a n).Pairwise (· < ·)
  | 0 => by simp [wantL]
  | n + 1 => by
    rw [wantL, List.pairwise_append]
    refine ⟨wantL_rising m k a n, by split <;> simp, fun x hx y hy => ?_⟩
    rw [wantL_mem] at hx
    split at hy
    · rw [List.mem_singleton] at hy
      omega
    · simp at hy
theorem wantL_length (m : MapD) (k a : Int) : ∀ n : Nat, (wantL m k a n).length ≤ n
  | 0 => by simp [wantL]
  | n + 1 => by
    have := wantL_length m k a n
    rw [wantL, List.length_append]
    split <;> simp <;> omega
theorem posL_want {m : MapD} (hok : okMap m = true) (k a : Int) (n : Nat) (ha : 0 ≤ a) : posL m k a (a + n) = wantL m k a n :=
  rising_eq _ _ (posL_rising hok k a _) (wantL_rising m k a n) fun x => (posL_mem hok ha x).trans (wantL_mem m k a x n).symm

end Go.Proofs.YtndhkbmgpjjepaaDoor

/- The walk of MapGrows. Own work; no statement. -/
set_option linter.unusedSimpArgs false
set_option linter.unusedVariables false
namespace Go.Proofs.YtndhkbmgpjjepaaDoor
open Go.RowKit Go.Shelf

/-- Where the i-th epoch more begins. -/
def fromG (l : List Int) : Nat → Int
  | 0 => 0
  | i + 1 => fromG l i + l.getD i 0 / 8 % 9
/-- The map with i epochs more. -/
def growM (l : List Int) : Nat → MapD
  | 0 => [(0, 3)]
  | i + 1 => growM l i ++ [(fromG l (i + 1), 1 + l.getD i 0 % 8)]

theorem fromG_step (l : List Int) (i : Nat) : fromG l i ≤ fromG l (i + 1) ∧ fromG l (i + 1) ≤ fromG l i + 8 := by
  have h := Int.emod_nonneg (l.getD i 0 / 8) (show (9 : Int) ≠ 0 by decide)
  have h' := Int.emod_lt_of_pos (l.getD i 0 / 8) (show (0 : Int) < 9 by decide)
  simp only [fromG]
  omega
theorem fromG_range (l : List Int) : ∀ i : Nat, 0 ≤ fromG l i ∧ fromG l i ≤ 8 * i
  | 0 => by simp [fromG]
  | i + 1 => by
    have := fromG_range l i
    have := fromG_step l i
    omega
theorem growM_length (l : List Int) : ∀ i, (growM l i).length = i + 1
  | 0 => rfl
  | i + 1 => by simp [growM, growM_length l i]
theorem growM_mem (l : List Int) : ∀ i, ∀ x ∈ growM l i, (0 ≤ x.1 ∧ x.1 ≤ fromG l i) ∧ (1 ≤ x.2 ∧ x.2 ≤ 8)
  | 0 => by
    intro x hx
    simp only [growM, List.mem_singleton] at hx
    subst hx
    simp [fromG]
  | i + 1 => by
    intro x hx
    have h1 := fromG_step l i
    have h2 := fromG_range l (i + 1)
    simp only [growM, List.mem_append, List.mem_singleton] at hx
    rcases hx with hx | rfl
    · have := growM_mem l i x hx
      omega
    · have := Int.emod_nonneg (l.getD i 0) (show (8 : Int) ≠ 0 by decide)
      have := Int.emod_lt_of_pos (l.getD i 0) (show (0 : Int) < 8 by decide)
      dsimp only
      omega
theorem growM_ok (l : List Int) : ∀ i, okMap (growM l i) = true
  | 0 => rfl
  | i + 1 => by
    have := Int.emod_nonneg (l.getD i 0) (show (8 : Int) ≠ 0 by decide)
    have := Int.emod_lt_of_pos (l.getD i 0) (show (0 : Int) < 8 by decide)
    have h1 := fromG_step l i
    exact okMap_snoc (growM_ok l i) (fun x hx => by have := growM_mem l i x hx; omega) (by omega) (by omega)
theorem growM_S (l : List Int) (i : Nat) (hi : i ≤ 12) : MapS (growM l i) := fun x hx => by
  have := growM_mem l i x hx
  have := fromG_range l i
  omega

set_option maxRecDepth 100000 in
set_option maxHeartbeats 4000000 in
theorem mapGrows_main (v : Value) (l : List Int) (w : World) (hv : IsNums .u8 w v l) (hw : ∀ n ∈ l, (Lit.int .u8 n).wf = true) (hp : Pow w) :
    Calls Tryd.prog 6 #[v] w fun e w' => e = .returned (.bool true) ∧ Below w.heap.size w w' := by
  have K := hide (known5_calls w hp)
  have Hv := hide hv
  obtain ⟨a, cap, rfl, hcap, -⟩ := id hv
  have hw' : ∀ t, t < l.length → 0 ≤ l.getD t 0 ∧ l.getD t 0 ≤ 255 := by
    intro t ht
    rw [List.getD_eq_getElem?_getD, List.getElem?_eq_getElem ht]
    exact rng8 (hw _ (List.getElem_mem ht))
  have Hw := hide hw'
  clear hv hw hw'
  by_cases hl : 12 < l.length
  · have hlI : (12 : Int) < (l.length : Int) := by omega
    go_enter Tryd.func6, Tryd.ntmps6
    go_wp2_with (go_at_call 8; refine K.out.mono ?_; rintro e w1 ⟨rfl, hB1⟩)
    go_ret
    exact ⟨rfl, hB1⟩
  · have hlI : ¬ (12 : Int) < (l.length : Int) := by omega
    go_enter Tryd.func6, Tryd.ntmps6
    go_wp2_with (go_at_call 8; refine K.out.mono ?_; rintro e w1 ⟨rfl, hB1⟩)
    obtain ⟨w2, hw2⟩ : ∃ w2, w1.alloc (.cells #[.int .i64 0, .int .i64 3] 48) = w2 := ⟨_, rfl⟩
    have hB2 : Below w.heap.size w w2 := by rw [← hw2]; exact hB1.alloc hB1.size _
    have hb0 : w2.heap[w1.heap.size]? = some (.cells #[.int .i64 0, .int .i64 3] 48 (0, 0)) := by rw [← hw2]; exact World.alloc_heap_new w1 _
    have hm0 : IsMap w2 (.slice (some ⟨w1.heap.size, 0, none⟩) 1 1) [(0, 3)] := ⟨_, 1, rfl, (fun e => by cases e), fun t ht => by
      have e : t = 0 := by simpa using ht
      subst e
      exact ⟨w1.heap.size, 0, rfl, by simpa using cellsAt hb0 0, by simpa using cellsAt hb0 1⟩⟩
    rw [hw2]
    clear hw2 hb0 K
    go_loopw [3, 4, 5] (fun vm f i wr => ∃ k : Nat, i = .int .i64 (k : Int) ∧ k ≤ l.length ∧ f = .int .i64 (fromG l k) ∧ IsMap wr vm (growM l k) ∧ Below w.heap.size w wr) (fun _ _ i _ => l.length - (intOf i).toNat)
    case atStart => exact ⟨0, rfl, Nat.zero_le _, rfl, hm0, hB2⟩
    case round =>
      clear hm0 hB2 hB1
      obtain ⟨k, rfl, hk, rfl, hm, hB⟩ := hrel
      have hmlen : (growM l k).length ≤ 1000 := by rw [growM_length]; omega
      have hfr := fromG_range l k
      have hP : Pow wr := hp.below hB
      obtain ⟨am, cm, rfl⟩ := hm.slice
      by_cases hkl : k < l.length
      · have hklI : (k : Int) < (l.length : Int) := by omega
        obtain ⟨b, o, rfl, hc⟩ : ∃ b o, a = some ⟨b, o, none⟩ ∧ wr.cell? ⟨b, o + k, none⟩ = some (.int .u8 (l.getD k 0)) := by
          obtain ⟨a', cap', e, _, h⟩ := Hv.out.below hB
          cases e
          exact h k hkl
        have hx := Hw.out k hkl
        have hst := fromG_step l k
        have hfs : fromG l (k + 1) = fromG l k + l.getD k 0 / 8 % 9 := rfl
        have hgs : growM l (k + 1) = growM l k ++ [(fromG l (k + 1), 1 + l.getD k 0 % 8)] := rfl
        have hok := growM_ok l k
        have hok1 := growM_ok l (k + 1)
        have hfr1 := fromG_range l (k + 1)
        have hmlen1 : ((growM l (k + 1)).length : Int) = ((growM l k).length : Int) + 1 := by rw [growM_length, growM_length]; omega
        have hmk : ((growM l k).length : Int) = (k : Int) + 1 := by rw [growM_length]; omega
        have hS := hide (growM_S l (k + 1) (by omega))
        generalize l.getD k 0 = x at *
        generalize fromG l k = f at *
        generalize hFe : fromG l (k + 1) = f1 at *
        generalize growM l k = m at *
        generalize hMe : growM l (k + 1) = m1 at *
        have HF := hide hFe
        have HM := hide hMe
        clear hFe hMe
        have hck : checkM m1 = 0 := by rw [checkM, if_pos hok1]
        have A := hide (mapAdd_calls _ m f1 (1 + x % 8) wr hm (by omega))
        have Hf := hide hfs
        unfold addM at A
        rw [← hgs, if_pos hok1, hck, hfs] at A
        have Hgs := hide hgs
        have Hmk := hide hmk
        have Hl1 := hide hmlen1
        clear hgs hmk hmlen1 hck
        go_wp2_with (go_at_call 12; refine A.out.mono ?_; rintro e w3 ⟨v1, rfl, hown1, hB3⟩; have hm1 := OwnsM.map hown1; obtain ⟨a1, c1, rfl⟩ := ownsRow_slice hown1; have hl1 := Hl1.out; have hl1' : ((m1.length : Int) == (m.length : Int) + 1) = true := by rw [beq_iff_eq]; exact hl1)
        rw [← Hf.out]
        have hB1 : Below w.heap.size w w3 := hB.trans (hB3.mono hB.size)
        have hm3 := hm.below hB3
        clear hown1 hB3 hm A hl1 hl1' hc hfs hst
        go_loopw [8] (fun pv wi => ∃ j : Nat, pv = .int .i64 (j : Int) ∧ (j : Int) ≤ f1 ∧ IsMap wi (.slice am m.length cm) m ∧ IsMap wi (.slice a1 m1.length c1) m1 ∧ Below w.heap.size w wi) (fun pv _ => (f1 - intOf pv).toNat)
        case atStart => exact ⟨0, rfl, by omega, hm3, hm1, hB1⟩
        case round =>
          clear hm3 hm1 hB1
          obtain ⟨j, rfl, hj, hm3, hm1, hB1⟩ := hrel
          by_cases hjf : (j : Int) < f1
          · have F1 := hide fun W (h : Below wr.heap.size wr W) => mapFind_calls _ m j W (hm3.below h) (by omega) (by omega)
            have hfe : findM m1 j = findM m j := by rw [Hgs.out]; exact find_snoc hok (Hgs.out ▸ hok1) (by omega) hjf
            have F2 := hide fun W (h : Below wr.heap.size wr W) => mapFind_calls _ m1 j W (hm1.below h) (by have := Hl1.out; omega) (by omega)
            rw [hfe] at F2
            have he0 : (findM m j).2.2 = 0 := by unfold findM; rw [if_pos ⟨by omega, hok⟩]
            generalize findM m j = r at *
            obtain ⟨r1, r2, r3⟩ := r
            dsimp only at *
            subst he0
            clear hfe
            go_wp2_with fail
            refine (F1.out wr (Below.refl _ _)).mono ?_
            rintro e w4 ⟨rfl, hB4⟩
            go_wp2_with fail
            refine (F2.out w4 hB4).mono ?_
            rintro e w5 ⟨rfl, hB5⟩
            have hB6 := hB4.trans (hB5.mono hB4.size)
            clear F1 F2
            go_wp2_with fail
            exact ⟨⟨j + 1, by go_num, by omega, hm3.below hB6, hm1.below hB6, hB1.trans (hB6.mono hB1.size)⟩, by simp [intOf]; omega⟩
          · have hjf' : (j : Int) = f1 := by omega
            have F3 := hide (mapFind_calls _ m1 f1 wr hm1 (by have := Hl1.out; omega) (by omega))
            have hfl : findM m1 f1 = ((k : Int) + 2, 0, 0) := by rw [Hgs.out, find_last (Hgs.out ▸ hok1) (by omega), Hmk.out, Int.add_assoc]; rfl
            rw [hfl] at F3
            go_wp2_with fail
            refine F3.out.mono ?_
            rintro e w4 ⟨rfl, hB4⟩
            clear F3 hfl
            go_wp2_with fail
            exact ⟨⟨k + 1, by go_num, by omega, by rw [HF.out], by rw [HM.out]; exact hm1.below hB4, hB1.trans (hB4.mono hB1.size)⟩, by simp [intOf]; omega⟩
      · have hkl' : k = l.length := by omega
        have hS := growM_S l k (by omega)
        have hok := growM_ok l k
        have hP : Pow wr := hp.below hB
        have T := hide (mapText_calls _ (growM l k) wr hm (by omega) hS.r hP)
        have hlt := spansTo_length hS.r (growM l k).length
        have PP := hide fun W => mapParse_calls (textM (growM l k)) W (by unfold textM; omega)
        rw [parse_textM hS hok] at PP
        generalize textM (growM l k) = tx at *
        clear hS hok
        generalize growM l k = m at *
        go_wp2_with fail
        refine T.out.mono ?_
        rintro e w4 ⟨rfl, hB4⟩
        go_wp2_with fail
        refine (PP.out w4).mono ?_
        rintro e w5 ⟨v5, rfl, hown5, hB5⟩
        obtain ⟨a5, c5, rfl⟩ := ownsRow_slice hown5
        clear T PP
        go_wp2
        go_ret
        exact ⟨by simp, (hB.trans (hB4.mono hB.size)).trans (hB5.mono (hB.trans (hB4.mono hB.size)).size)⟩

end Go.Proofs.YtndhkbmgpjjepaaDoor

/- Plain laws: how often each position has been seen; maps of spans laid one behind the other. Own work; no statement. -/
set_option linter.unusedSimpArgs false
set_option linter.unusedVariables false
namespace Go.Proofs.YtndhkbmgpjjepaaDoor

theorem stripe_range {m : MapD} (hok : okMap m = true) {x : Int} (h0 : 0 ≤ x) : 0 ≤ stripeM m x ∧ stripeM m x < 8 := by
  have hp := epochM_pos (pos := x) hok h0 m.length (okMap_pos hok)
  have hle := epochM_le m x m.length
  have hN := okMap_get hok (epochM m x m.length - 1) (by omega)
  unfold stripeM findM
  rw [if_pos ⟨h0, hok⟩, getD_get m _ (by omega)]
  dsimp only
  have m1 := Int.emod_nonneg (x - m[epochM m x m.length - 1].1) (show m[epochM m x m.length - 1].2 ≠ 0 by omega)
  have m2 := Int.emod_lt_of_pos (x - m[epochM m x m.length - 1].1) (show 0 < m[epochM m x m.length - 1].2 by omega)
  omega

/-- How often p has been seen when s stripes are told, and j positions of the next. -/
def seenF (m : MapD) (k : Nat) (s j p : Nat) : Int := (if stripeM m p < s then 1 else 0) + (if (p : Int) ∈ (posL m s 0 k).take j then 1 else 0)
def seenA (m : MapD) (k s j : Nat) : List Int := (List.range k).map fun p => seenF m k s j p
theorem seenA_length (m : MapD) (k s j : Nat) : (seenA m k s j).length = k := by simp [seenA]
theorem seenA_get (m : MapD) (k s j p : Nat) (h : p < k) : (seenA m k s j).getD p 0 = seenF m k s j p := by
  rw [List.getD_eq_getElem?_getD, List.getElem?_eq_getElem (by rw [seenA_length]; exact h)]
  simp [seenA]
theorem seen_start {m : MapD} (hok : okMap m = true) (k : Nat) : seenA m k 0 0 = List.replicate k 0 := by
  apply List.ext_getElem (by simp [seenA])
  intro p h1 h2
  have := stripe_range hok (x := p) (by omega)
  simp only [seenA, List.getElem_map, List.getElem_range, List.getElem_replicate, seenF, List.take_zero, List.not_mem_nil, if_false]
  rw [if_neg (by omega)]
  rfl
theorem seen_end {m : MapD} (hok : okMap m = true) (k : Nat) : seenA m k 8 0 = List.replicate k 1 := by
  apply List.ext_getElem (by simp [seenA])
  intro p h1 h2
  have := stripe_range hok (x := p) (by omega)
  simp only [seenA, List.getElem_map, List.getElem_range, List.getElem_replicate, seenF, List.take_zero, List.not_mem_nil, if_false]
  rw [if_pos (by omega)]
  rfl
theorem seen_next {m : MapD} (hok : okMap m = true) (k s : Nat) : seenA m k s (posL m s 0 k).length = seenA m k (s + 1) 0 := by
  apply List.ext_getElem (by simp [seenA])
  intro p h1 h2
  have hpk : p < k := by simpa [seenA] using h1
  have hm := posL_mem hok (k := s) (a := 0) (e := k) (Int.le_refl 0) (x := p)
  simp only [seenA, List.getElem_map, List.getElem_range, seenF, List.take_zero, List.not_mem_nil, if_false, List.take_length]
  by_cases h1 : stripeM m p < s
  · have h2 : ¬ (p : Int) ∈ posL m s 0 k := fun h => by have := (hm.1 h).2.2; omega
    rw [if_pos h1, if_neg h2, if_pos (by omega)]
  · by_cases h2 : stripeM m p = s
    · have h3 : (p : Int) ∈ posL m s 0 k := hm.2 ⟨by omega, by omega, h2⟩
      rw [if_neg h1, if_pos h3, if_pos (by omega)]
      rfl
    · have h3 : ¬ (p : Int) ∈ posL m s 0 k := fun h => h2 (hm.1 h).2.2
      rw [if_neg h1, if_neg h3, if_neg (by omega)]
theorem seen_at {m : MapD} (hok : okMap m = true) (k s j : Nat) (hj : j < (posL m s 0 k).length) : ∃ x : Nat, (posL m s 0 k)[j] = (x : Int) ∧ x < k ∧ (seenA m k s j).set x ((seenA m k s j).getD x 0 + 1) = seenA m k s (j + 1) := by
  have hr := posL_rising hok s 0 k
  have hx := (posL_mem hok (k := s) (a := 0) (e := k) (Int.le_refl 0) _).1 (List.getElem_mem hj)
  obtain ⟨x, hxe⟩ := Int.eq_ofNat_of_zero_le hx.1
  refine ⟨x, hxe, by omega, ?_⟩
  have hxk : x < k := by omega
  have hnot : ¬ (x : Int) ∈ (posL m s 0 k).take j := by
    intro hm
    obtain ⟨i, hi, he⟩ := List.mem_iff_getElem.1 hm
    rw [List.length_take] at hi
    rw [List.getElem_take] at he
    have := (List.pairwise_iff_getElem.1 hr) i j (by omega) hj (by omega)
    omega
  have htk : (posL m s 0 k).take (j + 1) = (posL m s 0 k).take j ++ [(x : Int)] := by
    rw [List.take_add_one, List.getElem?_eq_getElem hj, hxe]
    rfl
  rw [seenA_get m k s j x hxk]
  apply List.ext_getElem (by simp [seenA])
  intro p h1 h2
  have hpk : p < k := by simpa [seenA] using h2
  rw [List.getElem_set]
  by_cases e : x = p
  · subst e
    rw [if_pos rfl]
    simp only [seenA, List.getElem_map, List.getElem_range, seenF, htk]
    rw [if_neg hnot, if_pos (show (x : Int) ∈ (posL m s 0 k).take j ++ [(x : Int)] by simp)]
    omega
  · rw [if_neg e]
    simp only [seenA, List.getElem_map, List.getElem_range, seenF, htk]
    by_cases hin : (p : Int) ∈ (posL m s 0 k).take j
    · rw [if_pos hin, if_pos (show (p : Int) ∈ (posL m s 0 k).take j ++ [(x : Int)] by simp [hin])]
    · have hin2 : ¬ (p : Int) ∈ (posL m s 0 k).take j ++ [(x : Int)] := by
        simp only [List.mem_append, List.mem_singleton, not_or]
        exact ⟨hin, by omega⟩
      rw [if_neg hin, if_neg hin2]

/-- The map of the first i spans laid one behind the other. -/
def mapP (l : List Int) : Nat → MapD
  | 0 => []
  | i + 1 => mapP l i ++ [(fromG l i, 1 + l.getD i 0 % 8)]
theorem mapP_length (l : List Int) : ∀ i, (mapP l i).length = i
  | 0 => rfl
  | i + 1 => by simp [mapP, mapP_length l i]
theorem mapP_mem (l : List Int) : ∀ i, ∀ x ∈ mapP l i, (0 ≤ x.1 ∧ x.1 ≤ fromG l i) ∧ (1 ≤ x.2 ∧ x.2 ≤ 8)
  | 0 => by simp [mapP]
  | i + 1 => by
    intro x hx
    have h1 := fromG_step l i
    have h2 := fromG_range l i
    simp only [mapP, List.mem_append, List.mem_singleton] at hx
    rcases hx with hx | rfl
    · have := mapP_mem l i x hx
      omega
    · have := Int.emod_nonneg (l.getD i 0) (show (8 : Int) ≠ 0 by decide)
      have := Int.emod_lt_of_pos (l.getD i 0) (show (0 : Int) < 8 by decide)
      dsimp only
      omega
theorem mapP_ok (l : List Int) : ∀ i, 0 < i → okMap (mapP l i) = true
  | 1, _ => by
    have := Int.emod_nonneg (l.getD 0 0) (show (8 : Int) ≠ 0 by decide)
    have := Int.emod_lt_of_pos (l.getD 0 0) (show (0 : Int) < 8 by decide)
    simp only [mapP, fromG, List.nil_append, okMap, okFrom]
    simp
    omega
  | i + 2, _ => by
    have := Int.emod_nonneg (l.getD (i + 1) 0) (show (8 : Int) ≠ 0 by decide)
    have := Int.emod_lt_of_pos (l.getD (i + 1) 0) (show (0 : Int) < 8 by decide)
    exact okMap_snoc (mapP_ok l (i + 1) (by omega)) (fun x hx => (mapP_mem l (i + 1) x hx).1.2) (by omega) (by omega)
theorem mapP_nums (l : List Int) (i : Nat) (hi : i ≤ 8) : ∀ j (h : j < (mapP l i).length), 0 ≤ (mapP l i)[j].1 ∧ (mapP l i)[j].1 ≤ 9223372036854775807 ∧ 1 ≤ (mapP l i)[j].2 ∧ (mapP l i)[j].2 ≤ 8 := fun j h => by
  have := mapP_mem l i _ (List.getElem_mem h)
  have := fromG_range l i
  omega
theorem mapP_then (l : List Int) (i : Nat) (h : 0 < i) : thenM (mapP l i) = mapP l i := by unfold thenM; rw [if_pos (mapP_ok l i h)]

end Go.Proofs.YtndhkbmgpjjepaaDoor

/- Steps of a region that draws; rows of structs; rec's Of. Own work; no statement. -/
set_option linter.unusedSimpArgs false
set_option linter.unusedVariables false
namespace Go.Proofs.YtndhkbmgpjjepaaDoor
open Go.RowKit Go.Sort

section
variable {P : Program} {ops : Array Oper} {o : Oper} {a : Act} {w : World} {K : Act → World → Prop} {Q : Exit → Act → World → Prop} {E : Prop}

/-- A call of a Go function by its contract, as a step of a region that draws. -/
theorem step_call (hg : o.guard = none) (f : FuncId) (args : Array Value) {R : Ending → World → Prop} (hrun : (execOp a.eval o).run P w = .ok (.enter f args) w) (hc : Calls P f args w R)
    (hR : ∀ e w', R e w' → ∃ v, e = .returned v ∧ K (a.put o.dst v) w') : if Region.wanted o (yielded ops a.tmps) = true then Oper.wp P o a w K Q else E := by
  rw [if_pos (by simp [Region.wanted, hg])]
  unfold Oper.wp
  rw [hrun]
  simp only [Oper.upon]
  refine hc.mono fun e w' h => ?_
  obtain ⟨v, rfl, hk⟩ := hR e w' h
  exact hk

/-- append to a row of one's own, as such a step. -/
theorem step_append (hg : o.guard = none) (s x : Operand) (t : TypeId) (hop : o.op = Op.call { callee := Callee.builtin Builtin.append, args := #[s, x], argTypes := #[t, t] })
    (base : Nat) (e : TypeId) (i : TypeInfo) (z : Value) (size bytes : Nat) (h1 : P.underlying t = some (.slice e)) (h2 : P.info? e = some i) (h3 : i.zero = some z) (h4 : i.size = size) (h5 : i.bytes = bytes) (h6 : z.cells.size = size) (h7 : 0 < size)
    (v : Value) (n : Nat) (xs : List Value) (hs : a.eval s = v) (hown : w.ownsRow base e size v n xs) (ad : Addr) (m c : Nat) (news : List Value) (hx : a.eval x = .slice (some ad) m c) (hn : news.length = m * size) (hc : ∀ j u, news[j]? = some u → w.cell? (ad.add j) = some u) (h1c : ∀ u ∈ news, u.oneCell' = true)
    (b1 : n + m ≤ maxLen) (b2 : (n + m) * bytes ≤ 140737488355328) (hb : base ≤ w.heap.size)
    (hK : ∀ v' w', w'.ownsRow base e size v' (n + m) (xs ++ news) → w.grownBy w' v.ownBlock → K (a.put o.dst v') w') : if Region.wanted o (yielded ops a.tmps) = true then Oper.wp P o a w K Q else E := by
  rw [if_pos (by simp [Region.wanted, hg])]
  obtain ⟨v', w', hrun, r1, r2, _⟩ := run_append_own (P := P) w base t o.type e i z size bytes h1 h2 h3 h4 h5 h6 h7 v n xs hown ad m c news hn hc h1c b1 b2 hb
  unfold Oper.wp
  simp [execOp, hop, resolve, invoke, builtin, hs, hx, hrun, Result.andThen]
  exact hK v' w' r1 r2
end

/-- At ⟨b, o⟩ there lies the record r. -/
def RecAt (w : World) (b o : Nat) (r : RecD) : Prop :=
  ∃ a cap, w.cell? ⟨b, o, none⟩ = some (.int .i64 r.site) ∧ w.cell? ⟨b, o + 1, none⟩ = some (.int .i64 r.seq) ∧ w.cell? ⟨b, o + 2, none⟩ = some (.slice a r.dep.length cap) ∧ w.cell? ⟨b, o + 3, none⟩ = some (.string r.key) ∧ w.cell? ⟨b, o + 4, none⟩ = some (.string r.val) ∧
    IsNums .i64 w (.slice a r.dep.length cap) r.dep
theorem RecAt.below {w w' : World} {b o : Nat} {r : RecD} (h : RecAt w b o r) (hb : Below w.heap.size w w') : RecAt w' b o r := by
  obtain ⟨a, cap, h0, h1, h2, h3, h4, hn⟩ := h
  have hlt : b < w.heap.size := World.block_lt_of_cell? w _ h0
  exact ⟨a, cap, (hb.cell (p := ⟨b, o, none⟩) hlt).trans h0, (hb.cell (p := ⟨b, o + 1, none⟩) hlt).trans h1, (hb.cell (p := ⟨b, o + 2, none⟩) hlt).trans h2, (hb.cell (p := ⟨b, o + 3, none⟩) hlt).trans h3, (hb.cell (p := ⟨b, o + 4, none⟩) hlt).trans h4, hn.below hb⟩

/-- In the world w the slice v reads as the records l. -/
def IsRecs (w : World) (v : Value) (l : List RecD) : Prop :=
  ∃ a cap, v = .slice a l.length cap ∧ ∀ t (h : t < l.length), ∃ b o, a = some ⟨b, o, none⟩ ∧ RecAt w b (o + t * 5) l[t]
theorem IsRecs.below {w w' : World} {v : Value} {l : List RecD} (h : IsRecs w v l) (hb : Below w.heap.size w w') : IsRecs w' v l := by
  obtain ⟨a, cap, rfl, h⟩ := h
  exact ⟨a, cap, rfl, fun t ht => let ⟨b, o, e, hr⟩ := h t ht; ⟨b, o, e, hr.below hb⟩⟩

/-- A record of a site, its place, and the slice of its numbers. -/
structure Pl where
  i : Int
  r : RecD
  vd : Value
def Pl.cells (p : Pl) : List Value := [.int .i64 p.i, .int .i64 p.r.site, .int .i64 p.r.seq, p.vd, .string p.r.key, .string p.r.val]

/-- The records of a site among the first k, with their places. -/
def placedTo (l : List RecD) (site : Int) : Nat → List (Int × RecD)
  | 0 => []
  | k + 1 => placedTo l site k ++ (match l[k]? with | some r => if r.site = site then [((k : Int), r)] else [] | none => [])

theorem rows_apart {W : World} {B B' : Nat} {e e' : TypeId} {s s' : Nat} {v v' : Value} {n n' : Nat} {xs ys : List Value} (he : e ≠ e') (h : W.ownsRow B e s v n xs) (h' : W.ownsRow B' e' s' v' n' ys) (k : Nat) (hk : v.ownBlock = some k) : v'.ownBlock ≠ some k := by
  intro hk'
  rcases h.2 with ⟨rfl, _⟩ | ⟨g, cap, cur, rfl, _, hg, _⟩
  · cases hk
  · rcases h'.2 with ⟨rfl, _⟩ | ⟨g', cap', cur', rfl, _, hg', _⟩
    · cases hk'
    · have e1 : g = k := by simpa [Value.ownBlock] using hk
      have e2 : g' = k := by simpa [Value.ownBlock] using hk'
      subst e1
      subst e2
      rw [hg] at hg'
      simp only [Option.some.injEq, Obj.cells.injEq] at hg'
      exact he hg'.2.1

end Go.Proofs.YtndhkbmgpjjepaaDoor

/- The laws' Of. Own work; no statement. -/
set_option linter.unusedSimpArgs false
set_option linter.unusedVariables false
namespace Go.Proofs.YtndhkbmgpjjepaaDoor
open Go.RowKit Go.Shelf

/-- In the world w the slice v of the reference's spans reads as the map m. -/
abbrev OwnsR (w : World) (B : Nat) (v : Value) (m : MapD) : Prop := w.ownsRow B 60 2 v m.length (cellsM m)
theorem OwnsR.map {w : World} {B : Nat} {v : Value} {m : MapD} (h : OwnsR w B v m) : IsMap w v m := by
  rcases h.2 with ⟨rfl, h0⟩ | ⟨g, cap, cur, rfl, hb, hg, hnc, hcm, hcs, ht⟩
  · obtain rfl : m = [] := List.eq_nil_of_length_eq_zero h0
    exact IsMap.nil w
  · refine ⟨_, cap, rfl, (fun e => by cases e), fun t ht' => ⟨g, 0, rfl, ?_, ?_⟩⟩
    · rw [Nat.zero_add, h.cellAt _ (by omega)]
      exact (cellsM_get m t ht').1
    · rw [Nat.zero_add, h.cellAt _ (by omega)]
      exact (cellsM_get m t ht').2

theorem Tryd.info60 : (Tryd.prog.info? 60).map (fun i => (i.zero, i.size, i.bytes)) = some (some (.agg #[.int .i64 0, .int .i64 0]), 2, 16) := by kernel_rfl

theorem ownsRow_drew {W : World} {B : Nat} {e : TypeId} {s : Nat} {v : Value} {n : Nat} {xs : List Value} (h : W.ownsRow B e s v n xs) : W.drew.ownsRow B e s v n xs := h

set_option maxHeartbeats 2000000 in
set_option maxRecDepth 100000 in
theorem of5_calls (v : Value) (m : MapD) (w : World) (hv : IsMap w v m) (hl : m.length ≤ 1073741824) :
    Calls Tryd.prog 9 #[v] w fun e w' => ∃ v', e = .returned v' ∧ OwnsR w' w.heap.size v' m ∧ Below w.heap.size w w' := by
  obtain ⟨i0, hi0, hz0, hz1, hz2⟩ := info_parts Tryd.info60
  have Hv := hide hv
  obtain ⟨a, cap, rfl⟩ := hv.slice
  clear hv
  go_enter Tryd.func9, Tryd.ntmps9
  go_wp2_with fail
  go_loopw [3, 4] (fun vo i wr => ∃ k : Nat, i = .int .i64 (k : Int) ∧ k ≤ m.length ∧ wr.ownsRow w.heap.size 60 2 vo k (cellsM (m.take k)) ∧ Below w.heap.size w wr) (fun _ i _ => m.length - (intOf i).toNat)
  case atStart => exact ⟨0, rfl, Nat.zero_le _, World.ownsRow_nil _ _ _ _, Below.refl _ _⟩
  case round =>
    obtain ⟨k, rfl, hk, hown, hB⟩ := hrel
    have hbs := hB.size
    by_cases hlt : k < m.length
    · have hltI : (k : Int) < (m.length : Int) := by omega
      obtain ⟨-, b, o, rfl, hbw, c0, c1⟩ := (Hv.out.below hB).at k hlt
      have hsn : Hid (cellsM (m.take (k + 1)) = cellsM (m.take k) ++ [.int .i64 (m.getD k (0, 0)).1, .int .i64 (m.getD k (0, 0)).2]) := by
        show _ = _
        rw [List.take_add_one, List.getElem?_eq_getElem hlt, Option.toList_some, cellsM_append, getD_get m k hlt]
        rfl
      generalize m.getD k (0, 0) = x at *
      obtain ⟨F, N⟩ := x
      dsimp only at *
      obtain ⟨ao, co, rfl⟩ := ownsRow_slice hown
      go_wp2_with fail
      go_region_law (refine step_append rfl (.tmp 11) (.tmp 23) 25 rfl w.heap.size 60 i0 _ 2 16 Tryd.underlying25 hi0 hz0 hz1 hz2 rfl (by decide) _ k (cellsM (m.take k)) rfl (World.ownsRow.alloc (ownsRow_drew hown) _) ⟨_, 0, none⟩ 1 1 [.int .i64 F, .int .i64 N] rfl rfl (two_new rfl) two_one (by unfold maxLen; omega) (by omega) (by simp; omega) ?_; intro v1 w2 hown1 hgrow1; obtain ⟨g1, cap1, rfl⟩ := ownsRow_succ hown1)
      all_goals
        have hB3 : Below w.heap.size w w2 := ((hB.drew).alloc hB.size _).grown hgrow1 (by simp; omega) (fun j hj => (hown.lt j hj).1)
        go_wp2
        refine ⟨⟨k + 1, by go_num, by omega, ?_, hB3⟩, by simp [intOf]; omega⟩
        rw [hsn.out]
        exact hown1
    · have e : k = m.length := by omega
      subst e
      rw [List.take_length] at hown
      go_wp2
      go_ret
      exact ⟨_, rfl, hown, hB⟩

end Go.Proofs.YtndhkbmgpjjepaaDoor

/- The reference's CheckMap, where all is right. Own work; no statement. -/
set_option linter.unusedSimpArgs false
set_option linter.unusedVariables false
namespace Go.Proofs.YtndhkbmgpjjepaaDoor
open Go.RowKit Go.Shelf

/-- The span at k may stand behind the one ahead. -/
def GoodAt (m : MapD) (k : Nat) : Prop := (k = 0 → (m.getD k (0, 0)).1 = 0) ∧ (0 < k → (m.getD (k - 1) (0, 0)).1 ≤ (m.getD k (0, 0)).1) ∧ 1 ≤ (m.getD k (0, 0)).2 ∧ (m.getD k (0, 0)).2 ≤ 8

end Go.Proofs.YtndhkbmgpjjepaaDoor
