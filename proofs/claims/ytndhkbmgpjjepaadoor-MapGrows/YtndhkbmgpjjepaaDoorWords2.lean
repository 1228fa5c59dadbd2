/- Plain laws on texts: what is read is told just so. Own work; no statement. -/
import Derived.Test.YtndhkbmgpjjepaaDoorWords
set_option linter.unusedSimpArgs false
set_option linter.unusedVariables false
namespace Go.Proofs.YtndhkbmgpjjepaaDoor

/-- Digits' number, however great. -/
def valTo : List UInt8 → Int → Int
  | [], n => n
  | c :: r, n => valTo r (10 * n + ((c.toNat : Int) - 48))
theorem valTo_snoc : ∀ (l : List UInt8) (c : UInt8) (n : Int), valTo (l ++ [c]) n = 10 * valTo l n + ((c.toNat : Int) - 48)
  | [], _, _ => rfl
  | _ :: l, c, _ => valTo_snoc l c _
theorem dig_range {c : UInt8} (h : digB c = true) : 48 ≤ (c.toNat : Int) ∧ (c.toNat : Int) ≤ 57 := by
  simp only [digB, decide_eq_true_eq] at h
  omega
theorem valTo_ge : ∀ (l : List UInt8) (n : Int), (∀ c ∈ l, digB c = true) → 0 ≤ n → n ≤ valTo l n
  | [], n, _, _ => Int.le_refl _
  | c :: l, n, h, h0 => by
    have hc := dig_range (h c (by simp))
    have := valTo_ge l (10 * n + ((c.toNat : Int) - 48)) (fun d hd => h d (by simp [hd])) (by omega)
    simp only [valTo]
    omega
theorem valTo_app (a b : List UInt8) (n : Int) : valTo (a ++ b) n = valTo b (valTo a n) := by
  induction a generalizing n with
  | nil => rfl
  | cons c a ih => exact ih _
theorem decTo_val : ∀ (l : List UInt8) (n : Int), (∀ c ∈ l, digB c = true) → 0 ≤ n → decTo l (min n 1048577) = min (valTo l n) 1048577
  | [], n, _, _ => rfl
  | c :: l, n, h, h0 => by
    have hc := dig_range (h c (by simp))
    simp only [decTo, valTo]
    rw [← decTo_val l _ (fun d hd => h d (by simp [hd])) (by omega)]
    congr 1
    omega
theorem decOk_parts {l : List UInt8} (h : decOk l = true) : l ≠ [] ∧ (1 < l.length → l.head? ≠ some 48) ∧ ∀ c ∈ l, digB c = true := by
  unfold decOk at h
  simp only [Bool.and_eq_true, Bool.not_eq_true', List.all_eq_true] at h
  obtain ⟨⟨h1, h2⟩, h3⟩ := h
  refine ⟨by rintro rfl; simp at h1, fun hl e => ?_, h3⟩
  rw [e] at h2
  simp [hl] at h2
theorem decTo_ok {l : List UInt8} (h : decOk l = true) : decTo l 0 = min (valTo l 0) 1048577 := decTo_val l 0 (decOk_parts h).2.2 (Int.le_refl _)
theorem byte_digit (c : UInt8) (h : digB c = true) (d : Nat) (hd : ((c.toNat : Int) - 48) = d) : UInt8.ofNat (48 + d) = c := by
  have hc := dig_range h
  rw [show 48 + d = c.toNat by omega]
  simp
theorem digits_val (r : List UInt8) : decOk r.reverse = true → Lib.decDigits (valTo r.reverse 0).toNat = r.reverse := by
  induction r with
  | nil => intro h; exact absurd rfl (decOk_parts h).1
  | cons c r ih =>
    intro h
    rw [List.reverse_cons] at h ⊢
    obtain ⟨-, h2, h3⟩ := decOk_parts h
    have hc := h3 c (by simp)
    have hcr := dig_range hc
    obtain ⟨d, hd⟩ : ∃ d : Nat, ((c.toNat : Int) - 48) = d := ⟨((c.toNat : Int) - 48).toNat, by omega⟩
    have hb := byte_digit c hc d hd
    generalize r.reverse = y at *
    rw [valTo_snoc, hd]
    cases y with
    | nil =>
      simp only [valTo]
      rw [show (10 * (0 : Int) + (d : Int)).toNat = d by omega, Lib.decDigits, dif_pos (by omega), hb]
      rfl
    | cons x y =>
      have hx : x ≠ 48 := by
        intro e
        exact h2 (by simp) (by simp [e])
      have hxd := dig_range (h3 x (by simp))
      have hx1 : 1 ≤ (x.toNat : Int) - 48 := by
        have : x.toNat ≠ 48 := fun e => hx (UInt8.toNat_inj.1 e)
        omega
      have hy3 : ∀ c ∈ y, digB c = true := fun e he => h3 e (by simp [he])
      have hge := valTo_ge y (10 * 0 + ((x.toNat : Int) - 48)) hy3 (by omega)
      have hok : decOk (x :: y) = true := by
        unfold decOk
        have hall : (x :: y).all digB = true := List.all_eq_true.2 (fun e he => h3 e (List.mem_append_left _ he))
        rw [hall]
        have : ((x :: y).head? == some 48) = false := by simpa using hx
        rw [this]
        simp
      have hv := ih hok
      have e0 : valTo (x :: y) 0 = valTo y (10 * 0 + ((x.toNat : Int) - 48)) := rfl
      rw [← e0] at hge
      generalize valTo (x :: y) 0 = v at *
      obtain ⟨u, rfl⟩ := Int.eq_ofNat_of_zero_le (show 0 ≤ v by omega)
      rw [Int.toNat_natCast] at hv
      rw [show (10 * (u : Int) + (d : Int)).toNat = 10 * u + d by omega, Lib.decDigits, dif_neg (by omega), show (10 * u + d) / 10 = u by omega, show (10 * u + d) % 10 = d by omega, hv, hb]
theorem itoa_dec {x : List UInt8} (h : decOk x = true) (h1 : decTo x 0 ≤ 1048576) : Lib.itoa (decTo x 0) = x := by
  have e := decTo_ok h
  have h0 := valTo_ge x 0 (decOk_parts h).2.2 (Int.le_refl _)
  have e2 : decTo x 0 = valTo x 0 := by omega
  rw [e2, itoa_nat _ h0]
  have := digits_val x.reverse (by rw [List.reverse_reverse]; exact h)
  rwa [List.reverse_reverse] at this
theorem dec_nonneg {x : List UInt8} (h : decOk x = true) : 0 ≤ decTo x 0 := by
  have e := decTo_ok h
  have h0 := valTo_ge x 0 (decOk_parts h).2.2 (Int.le_refl _)
  omega
theorem dec_zero {x : List UInt8} (h : decOk x = true) : decTo x 0 = 0 ↔ x = [48] := by
  constructor
  · intro h0
    have := itoa_dec h (by omega)
    rw [h0] at this
    rw [← this, itoa_digit 0 (by omega) (by omega)]
    rfl
  · rintro rfl
    rfl

def joinW : List (List UInt8) → List UInt8
  | [] => []
  | [x] => x
  | x :: y :: r => x ++ 32 :: joinW (y :: r)
theorem join_split : ∀ (s : List UInt8), joinW (splitL s) = s
  | [] => rfl
  | c :: r => by
    have ih := join_split r
    simp only [splitL]
    split
    · rename_i h
      cases hr : splitL r with
      | nil => exact absurd hr (splitL_ne r)
      | cons y ys => rw [hr] at ih; rw [joinW, ih, h]; rfl
    · cases hr : splitL r with
      | nil => exact absurd hr (splitL_ne r)
      | cons y ys =>
        rw [hr] at ih
        cases ys with
        | nil => simp only [joinW] at ih ⊢; rw [ih]
        | cons z zs => simp only [joinW] at ih ⊢; rw [← ih]; rfl
theorem splitL_inj {a b : List UInt8} (h : splitL a = splitL b) : a = b := by rw [← join_split a, ← join_split b, h]

theorem st_len (r : List (List UInt8)) : (stOf r.reverse).1.length ≤ r.length := by
  induction r with
  | nil => exact Nat.le_refl _
  | cons x r ih =>
    rw [List.reverse_cons, stOf_snoc]
    unfold stepW
    split
    · simp; omega
    · simp; omega
theorem st_good (r : List (List UInt8)) : (stOf r.reverse).2.2 = false → (stOf r.reverse).1 = r.reverse.map (decTo · 0) ∧ r.length ≤ 8 ∧ ∀ x ∈ r, decTo x 0 ≤ 1048576 := by
  induction r with
  | nil => intro _; exact ⟨rfl, by simp, fun x hx => by cases hx⟩
  | cons x r ih =>
    rw [List.reverse_cons, stOf_snoc]
    unfold stepW
    split
    · intro h; cases h
    · rename_i hc
      intro h
      obtain ⟨h1, h2, h3⟩ := ih h
      have hl : r.length = (stOf r.reverse).1.length := by rw [h1]; simp
      have h8 := stOf_len r.reverse
      refine ⟨by simp only; rw [h1, List.map_append]; rfl, by simp only [List.length_cons]; omega, fun y hy => ?_⟩
      rcases List.mem_cons.1 hy with rfl | hy
      · omega
      · exact h3 y hy
theorem st_bad (r : List (List UInt8)) : (stOf r.reverse).2.2 = true → 8 < r.length ∨ ∃ x ∈ r, 1048576 < decTo x 0 := by
  induction r with
  | nil => intro h; cases h
  | cons x r ih =>
    rw [List.reverse_cons, stOf_snoc]
    unfold stepW
    split
    · rename_i hc
      intro _
      rcases hc with hc | hc
      · exact .inr ⟨x, by simp, hc⟩
      · have := st_len r
        exact .inl (by simp only [List.length_cons]; omega)
    · intro h
      rcases ih h with h | ⟨y, hy, h⟩
      · exact .inl (by simp only [List.length_cons]; omega)
      · exact .inr ⟨y, by simp [hy], h⟩
theorem st_last (ws : List (List UInt8)) (x : List UInt8) : (stOf (ws ++ [x])).2.1 = decTo x 0 := by
  rw [stOf_snoc]
  unfold stepW
  split <;> rfl

/-- Words read one after the other, as the reference reads them. -/
def refN (ws : List (List UInt8)) : List Int × Int :=
  if ws.all decOk then (if ws.getLast? = some [48] then ([], 2) else if 8 < ws.length then ([], 4) else if ws.all (fun x => decide (decTo x 0 ≤ 1048576)) then (ws.map (decTo · 0), 0) else ([], 4)) else ([], 2)
theorem parseN_ref (ws : List (List UInt8)) (hne : ws ≠ []) : parseN ws = refN ws := by
  unfold parseN refN
  cases hall : ws.all decOk with
  | false => simp
  | true =>
    rw [if_pos rfl, if_pos rfl]
    obtain ⟨r, rfl⟩ : ∃ r, ws = r.reverse := ⟨ws.reverse, by simp⟩
    cases r with
    | nil => exact absurd rfl hne
    | cons x r =>
      have hx : decOk x = true := List.all_eq_true.1 hall x (by simp)
      have hlast : (stOf (x :: r).reverse).2.1 = decTo x 0 := by rw [List.reverse_cons]; exact st_last _ x
      have hgl : (x :: r).reverse.getLast? = some x := by simp
      rw [hlast, hgl]
      by_cases h0 : decTo x 0 = 0
      · rw [if_pos h0, if_pos (by rw [(dec_zero hx).1 h0])]
      · have hng : ¬ (some x = some [48]) := fun e => h0 ((dec_zero hx).2 (Option.some.inj e))
        rw [if_neg h0, if_neg hng]
        cases hlong : (stOf (x :: r).reverse).2.2 with
        | false =>
          obtain ⟨h1, h2, h3⟩ := st_good (x :: r) hlong
          rw [if_neg (show ¬ (false = true) by simp), if_neg (show ¬ (8 < (x :: r).reverse.length) by rw [List.length_reverse]; omega), if_pos (List.all_eq_true.2 (fun y hy => decide_eq_true (h3 y (List.mem_reverse.1 hy)))), h1]
        | true =>
          rw [if_pos (show true = true from rfl)]
          by_cases h8 : 8 < (x :: r).reverse.length
          · rw [if_pos h8]
          · rw [if_neg h8]
            rcases st_bad (x :: r) hlong with h | ⟨y, hy, h⟩
            · rw [List.length_reverse] at h8; exact absurd h h8
            · rw [if_neg]
              intro e
              have := of_decide_eq_true (List.all_eq_true.1 e y (List.mem_reverse.2 hy))
              omega

theorem writtenL_full (l : List Int) (k : Nat) (hl : l.length = k + 1) (h : l.getD k 0 ≠ 0) : writtenL l = k + 1 := by
  have e : l = l.take k ++ [l.getD k 0] := by rw [← take_snoc_getD l k (by omega), List.take_of_length_le (by omega)]
  rw [e, writtenL_snoc _ _ h, List.length_take]
  omega
theorem bracket_form {s : List UInt8} (h : bracketB s = true) : s = 91 :: (innerL s ++ [93]) := by
  unfold bracketB at h
  rw [Bool.and_eq_true] at h
  obtain ⟨h1, h2⟩ := h
  obtain ⟨t, rfl⟩ : ∃ t, s = 91 :: t := by
    unfold Lib.hasPrefix at h1
    rw [List.isPrefixOf_iff_prefix] at h1
    obtain ⟨t, ht⟩ := h1
    exact ⟨t, ht.symm⟩
  have e1 : Lib.trimPrefix (91 :: t) [91] = t := by unfold Lib.trimPrefix; rw [if_pos h1]; rfl
  rw [e1] at h2
  have h2' := h2
  unfold Lib.hasSuffix at h2
  rw [List.isSuffixOf_iff_suffix] at h2
  obtain ⟨u, rfl⟩ := h2
  exact (congrArg (fun z => (91 : UInt8) :: (z ++ [93])) (inner_text u).2).symm
/-- What is a vector is told just so. -/
theorem text_parse {s : List UInt8} (h : (parseL s).2 = 0) : textL (parseL s).1 = s := by
  unfold parseL at h ⊢
  by_cases hb : bracketB s = true
  · rw [if_pos hb] at h ⊢
    have hs := bracket_form hb
    by_cases hi : innerL s = []
    · rw [if_pos hi]
      rw [hi] at hs
      rw [hs]
      rfl
    · rw [if_neg hi] at h ⊢
      rw [parseN_ref _ (splitL_ne _)] at h ⊢
      obtain ⟨ws, hws⟩ : ∃ ws, splitL (innerL s) = ws := ⟨_, rfl⟩
      rw [hws] at h ⊢
      have hne : ws ≠ [] := by rw [← hws]; exact splitL_ne _
      unfold refN at h ⊢
      by_cases hall : ws.all decOk = true
      · rw [if_pos hall] at h ⊢
        by_cases hl : ws.getLast? = some [48]
        · rw [if_pos hl] at h; cases h
        · rw [if_neg hl] at h ⊢
          by_cases h8 : 8 < ws.length
          · rw [if_pos h8] at h; cases h
          · rw [if_neg h8] at h ⊢
            by_cases hle : ws.all (fun x => decide (decTo x 0 ≤ 1048576)) = true
            · rw [if_pos hle]
              have hok : ∀ x ∈ ws, decOk x = true := List.all_eq_true.1 hall
              have hsm : ∀ x ∈ ws, decTo x 0 ≤ 1048576 := fun x hx => of_decide_eq_true (List.all_eq_true.1 hle x hx)
              obtain ⟨k, hk⟩ : ∃ k, ws.length = k + 1 := ⟨ws.length - 1, by have := List.length_pos_iff.2 hne; omega⟩
              have hS : InS (ws.map (decTo · 0)) := by
                intro y hy
                obtain ⟨x, hx, rfl⟩ := List.mem_map.1 hy
                exact ⟨dec_nonneg (hok x hx), hsm x hx⟩
              have hgd : ∀ i (hi : i < ws.length), (ws.map (decTo · 0)).getD i 0 = decTo ws[i] 0 := by
                intro i hi
                rw [getD_in _ i (by simpa using hi)]; simp
              have hw : wordsTo (ws.map (decTo · 0)) (k + 1) = ws := by
                unfold wordsTo
                apply List.ext_getElem
                · simp [hk]
                · intro i h1 h2
                  simp only [List.getElem_map, List.getElem_range]
                  rw [hgd i h2, itoa_dec (hok _ (List.getElem_mem h2)) (hsm _ (List.getElem_mem h2))]
              have hn : numsTo (ws.map (decTo · 0)) (k + 1) = innerL s := splitL_inj (by rw [split_nums hS k, hw, hws])
              have hlast : (ws.map (decTo · 0)).getD k 0 ≠ 0 := by
                rw [hgd k (by omega)]
                intro e
                apply hl
                rw [List.getLast?_eq_getElem?, hk, Nat.add_sub_cancel, List.getElem?_eq_getElem (by omega), (dec_zero (hok _ (List.getElem_mem (by omega)))).1 e]
              unfold textL
              rw [writtenL_full _ k (by simp [hk]) hlast, hn]
              exact hs.symm
            · rw [if_neg hle] at h; cases h
      · rw [if_neg hall] at h; cases h
  · rw [if_neg hb] at h; cases h

end Go.Proofs.YtndhkbmgpjjepaaDoor
