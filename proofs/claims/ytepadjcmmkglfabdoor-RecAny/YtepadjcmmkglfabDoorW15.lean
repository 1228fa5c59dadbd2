/- The laws' known(): two vectors, joined, met, in words: it answers true in whatever world that has the library's table of powers of ten. Own work; no statement. -/
import Derived.Test.YtepadjcmmkglfabDoorW14
import Derived.Test.YtepadjcmmkglfabDoorW10
set_option linter.unusedSimpArgs false
set_option linter.unusedVariables false
namespace Go.Proofs.YtepadjcmmkglfabDoor
open Go.RowKit Go.Shelf

theorem itoa_digit (n : Int) (h0 : 0 ≤ n) (h1 : n < 10) : Lib.itoa n = [UInt8.ofNat (48 + n.toNat)] := by
  unfold Lib.itoa
  rw [if_neg (by omega), Lib.decDigits, dif_pos (by omega)]

theorem kJoin : bySiteL max [3, 0, 2] [1, 5] = [3, 5, 2] := by decide
theorem kMeet : bySiteL min [3, 0, 2] [1, 5] = [1, 0, 0] := by decide
theorem kText1 : textL [3, 5, 2] = [91, 51, 32, 53, 32, 50, 93] := by
  have : writtenL [3, 5, 2] = 3 := by decide
  simp [textL, this, numsTo, itoa_digit]
theorem kText2 : textL [1, 0, 0] = [91, 49, 93] := by
  have : writtenL [1, 0, 0] = 1 := by decide
  simp [textL, this, numsTo, itoa_digit]
theorem kText3 : textL [] = [91, 93] := by decide
theorem kWith : withL [1, 5] 3 7 = [1, 5, 0, 7] := by decide
theorem kText4 : textL [1, 5, 0, 7] = [91, 49, 32, 53, 32, 48, 32, 55, 93] := by
  have : writtenL [1, 5, 0, 7] = 4 := by decide
  simp [textL, this, numsTo, itoa_digit]
theorem kParse1 : parseL [91, 51, 32, 48, 32, 50, 93] = ([3, 0, 2], 0) := by decide +kernel
theorem kParse2 : parseL [91, 51, 32, 48, 93] = ([], 2) := by decide +kernel
theorem kPairs1 : (pairsTo [3, 0, 2] ([3, 0, 2] : List Int).length).map (·.1) = [0, 2] := by decide
theorem kPairs2 : (pairsTo [3, 0, 2] ([3, 0, 2] : List Int).length).map (·.2) = [3, 2] := by decide
theorem kSame : everyB eqB [3, 0, 2] [3, 0, 2] = true := by decide
theorem kCov1 : everyB covB [3, 5, 2] [3, 0, 2] = true := by decide
theorem kCov2 : everyB covB [3, 0, 2] [1, 5] = false := by decide
theorem kGet : geti [3, 0, 2] 9 = 0 := by decide
theorem kSum : ([3, 0, 2] : List Int).sum = 5 := by decide
theorem kCheck1 : checkL [3, 0, 2] 2 = 4 := by decide
theorem kCheck2 : checkL [3, 0, 2] 3 = 0 := by decide

theorem alloc_below (w : World) (o : Obj) : Below w.heap.size w (w.alloc o) := (Below.refl _ w).alloc (Nat.le_refl _) o
theorem lit_nums (w : World) (x y : Int) : IsNums .i64 (w.alloc (.cells #[.int .i64 x, .int .i64 y] 3)) (.slice (some ⟨w.heap.size, 0, none⟩) 2 2) [x, y] :=
  IsNums.of_row (base := 0) (World.ownsRow_lit (e := 3) (size := 1) w #[.int .i64 x, .int .i64 y] 2 (Nat.zero_le _) (by unfold maxLen; omega) rfl)

theorem small_inR {l : List Int} (h : ∀ x ∈ l, 0 ≤ x ∧ x ≤ 1048577) : InR l := fun x hx => by have := h x hx; omega

set_option maxRecDepth 100000 in
set_option maxHeartbeats 4000000 in
theorem known_calls (w : World) (hp : Pow w) : Calls Tryd.prog 9 #[] w fun e w' => e = .returned (.bool true) ∧ Below w.heap.size w w' := by
  obtain ⟨w2, hw2⟩ : ∃ w2, (w.alloc (.cells #[.int .i64 3, .int .i64 0, .int .i64 2] 3)).alloc (.cells #[.int .i64 1, .int .i64 5] 3) = w2 := ⟨_, rfl⟩
  have hB : Below w.heap.size w w2 := by rw [← hw2]; exact ((Below.refl _ w).alloc (Nat.le_refl _) _).alloc (by simp) _
  have ha : IsNums .i64 w2 (.slice (some ⟨w.heap.size, 0, none⟩) 3 3) [3, 0, 2] := by
    rw [← hw2]
    exact IsNums.of_row (base := 0) ((World.ownsRow_lit (e := 3) (size := 1) w #[.int .i64 3, .int .i64 0, .int .i64 2] 3 (Nat.zero_le _) (by unfold maxLen; omega) rfl).alloc _)
  have hb : IsNums .i64 w2 (.slice (some ⟨w.heap.size + 1, 0, none⟩) 2 2) [1, 5] := by
    rw [← hw2]
    have := World.ownsRow_lit (base := 0) (e := 3) (size := 1) (w.alloc (.cells #[.int .i64 3, .int .i64 0, .int .i64 2] 3)) #[.int .i64 1, .int .i64 5] 2 (Nat.zero_le _) (by unfold maxLen; omega) rfl
    rw [World.size_alloc] at this
    exact IsNums.of_row this
  have hP : Pow w2 := hp.below hB
  go_enter Tryd.func9, Tryd.ntmps9
  go_wp2_with fail
  clear hw2
  refine (join_calls _ _ [3, 0, 2] [1, 5] _ ha hb (by decide) (by decide)).mono ?_
  rintro e w3 ⟨vj, rfl, hj, hB1⟩
  rw [kJoin] at hj
  replace ha := ha.below hB1
  replace hb := hb.below hB1
  replace hP := hP.below hB1
  replace hB := hB.trans (hB1.mono hB.size)
  clear hB1
  go_wp2_with fail
  refine (meet_calls _ _ [3, 0, 2] [1, 5] _ ha hb (by decide) (by decide)).mono ?_
  rintro e w4 ⟨vm, rfl, hm, hB1⟩
  rw [kMeet] at hm
  replace ha := ha.below hB1
  replace hb := hb.below hB1
  replace hj := hj.below hB1
  replace hP := hP.below hB1
  replace hB := hB.trans (hB1.mono hB.size)
  clear hB1
  go_wp2_with fail
  refine (parse_calls ⟨#[91, 51, 32, 48, 32, 50, 93]⟩ _ (by decide)).mono ?_
  rintro e w5 ⟨vp, rfl, hpv, hB1⟩
  simp only [kParse1] at hpv ⊢
  replace ha := ha.below hB1
  replace hb := hb.below hB1
  replace hj := hj.below hB1
  replace hm := hm.below hB1
  replace hP := hP.below hB1
  replace hB := hB.trans (hB1.mono hB.size)
  clear hB1
  go_wp2_with fail
  refine (parse_calls ⟨#[91, 51, 32, 48, 93]⟩ _ (by decide)).mono ?_
  rintro e w6 ⟨vq, rfl, -, hB1⟩
  simp only [kParse2]
  replace ha := ha.below hB1
  replace hb := hb.below hB1
  replace hj := hj.below hB1
  replace hm := hm.below hB1
  replace hpv := hpv.below hB1
  replace hP := hP.below hB1
  replace hB := hB.trans (hB1.mono hB.size)
  clear hB1
  go_wp2_with fail
  refine (all_calls _ [3, 0, 2] _ ha (by decide)).mono ?_
  rintro e w7 ⟨Bs, g, rfl, hAll, -, -, hB1⟩
  replace ha := ha.below hB1
  replace hb := hb.below hB1
  replace hj := hj.below hB1
  replace hm := hm.below hB1
  replace hpv := hpv.below hB1
  replace hP := hP.below hB1
  replace hB := hB.trans (hB1.mono hB.size)
  clear hB1
  go_wp2_with fail
  refine (show Calls Tryd.prog 14 #[_, .int .i64 9] w7 _ from pairs_calls Bs g [3, 0, 2] 9 w7 hAll (by decide) (by decide)).mono ?_
  rintro e w8 ⟨vx, vy, rfl, hx, hy, hB1⟩
  rw [kPairs1] at hx
  rw [kPairs2] at hy
  clear hAll
  replace ha := ha.below hB1
  replace hb := hb.below hB1
  replace hj := hj.below hB1
  replace hm := hm.below hB1
  replace hpv := hpv.below hB1
  replace hP := hP.below hB1
  replace hB := hB.trans (hB1.mono hB.size)
  clear hB1
  go_wp2_with fail
  refine (ints_calls _ _ [0, 2] [0, 2] _ (hx.below (alloc_below _ _)) (lit_nums _ 0 2) (by decide) (by decide)).mono ?_
  rintro e w9 ⟨rfl, nd, hw⟩
  have hB1 : Below w8.heap.size w8 w9 := by rw [hw]; exact (alloc_below _ _).trans (below_draws nd)
  clear hw
  rw [show decide (([0, 2] : List Int) = [0, 2]) = true from rfl]
  replace ha := ha.below hB1
  replace hb := hb.below hB1
  replace hj := hj.below hB1
  replace hm := hm.below hB1
  replace hpv := hpv.below hB1
  replace hx := hx.below hB1
  replace hy := hy.below hB1
  replace hP := hP.below hB1
  replace hB := hB.trans (hB1.mono hB.size)
  clear hB1
  go_wp2_with fail
  refine (ints_calls _ _ [3, 2] [3, 2] _ (hy.below (alloc_below _ _)) (lit_nums _ 3 2) (by decide) (by decide)).mono ?_
  rintro e w10 ⟨rfl, nd, hw⟩
  have hB1 : Below w9.heap.size w9 w10 := by rw [hw]; exact (alloc_below _ _).trans (below_draws nd)
  clear hw
  rw [show decide (([3, 2] : List Int) = [3, 2]) = true from rfl]
  replace ha := ha.below hB1
  replace hb := hb.below hB1
  replace hj := hj.below hB1
  replace hm := hm.below hB1
  replace hpv := hpv.below hB1
  replace hx := hx.below hB1
  replace hy := hy.below hB1
  replace hP := hP.below hB1
  replace hB := hB.trans (hB1.mono hB.size)
  clear hB1
  go_wp2_with fail
  clear hx hy
  refine (text_calls _ [3, 5, 2] _ hj (by decide) (small_inR (by decide)) hP).mono ?_
  rintro e w11 ⟨rfl, hB1⟩
  rw [kText1]
  replace ha := ha.below hB1
  replace hb := hb.below hB1
  replace hj := hj.below hB1
  replace hm := hm.below hB1
  replace hpv := hpv.below hB1
  replace hP := hP.below hB1
  replace hB := hB.trans (hB1.mono hB.size)
  clear hB1
  go_wp2_with fail
  refine (text_calls _ [1, 0, 0] _ hm (by decide) (small_inR (by decide)) hP).mono ?_
  rintro e w12 ⟨rfl, hB1⟩
  rw [kText2]
  replace ha := ha.below hB1
  replace hb := hb.below hB1
  replace hj := hj.below hB1
  replace hm := hm.below hB1
  replace hpv := hpv.below hB1
  replace hP := hP.below hB1
  replace hB := hB.trans (hB1.mono hB.size)
  clear hB1
  go_wp2_with fail
  refine (text_calls _ [] _ (IsNums.nil _ _ none 0) (by decide) (small_inR (by decide)) hP).mono ?_
  rintro e w13 ⟨rfl, hB1⟩
  rw [kText3]
  replace ha := ha.below hB1
  replace hb := hb.below hB1
  replace hj := hj.below hB1
  replace hm := hm.below hB1
  replace hpv := hpv.below hB1
  replace hP := hP.below hB1
  replace hB := hB.trans (hB1.mono hB.size)
  clear hB1
  go_wp2_with fail
  refine (same_calls _ _ [3, 0, 2] [3, 0, 2] _ hpv ha (by decide) (by decide)).mono ?_
  rintro e w14 ⟨rfl, rfl⟩
  rw [kSame]
  go_wp2_with fail
  refine (covers_calls _ _ [3, 5, 2] [3, 0, 2] _ hj ha (by decide) (by decide)).mono ?_
  rintro e w15 ⟨rfl, rfl⟩
  rw [kCov1]
  go_wp2_with fail
  refine (covers_calls _ _ [3, 0, 2] [1, 5] _ ha hb (by decide) (by decide)).mono ?_
  rintro e w16 ⟨rfl, rfl⟩
  rw [kCov2]
  go_wp2_with fail
  refine (get_calls _ [3, 0, 2] 9 _ ha (by decide)).mono ?_
  rintro e w17 ⟨rfl, rfl⟩
  rw [kGet]
  go_wp2_with fail
  refine (sum_calls _ [3, 0, 2] _ ha (by decide) (by decide)).mono ?_
  rintro e w18 ⟨rfl, hB1⟩
  rw [kSum]
  replace ha := ha.below hB1
  replace hb := hb.below hB1
  replace hj := hj.below hB1
  replace hm := hm.below hB1
  replace hpv := hpv.below hB1
  replace hP := hP.below hB1
  replace hB := hB.trans (hB1.mono hB.size)
  clear hB1
  go_wp2_with fail
  refine (with_calls _ [1, 5] 3 7 _ hb (by decide)).mono ?_
  rintro e w19 ⟨vw, rfl, hw, hB1⟩
  rw [kWith] at hw
  replace ha := ha.below hB1
  replace hb := hb.below hB1
  replace hj := hj.below hB1
  replace hm := hm.below hB1
  replace hpv := hpv.below hB1
  replace hP := hP.below hB1
  replace hB := hB.trans (hB1.mono hB.size)
  clear hB1
  go_wp2_with fail
  refine (text_calls _ [1, 5, 0, 7] _ hw (by decide) (small_inR (by decide)) hP).mono ?_
  rintro e w20 ⟨rfl, hB1⟩
  rw [kText4]
  replace ha := ha.below hB1
  replace hb := hb.below hB1
  replace hj := hj.below hB1
  replace hm := hm.below hB1
  replace hpv := hpv.below hB1
  replace hw := hw.below hB1
  replace hP := hP.below hB1
  replace hB := hB.trans (hB1.mono hB.size)
  clear hB1
  go_wp2_with fail
  refine (check_calls _ [3, 0, 2] 2 _ ha (by decide)).mono ?_
  rintro e w21 ⟨rfl, rfl⟩
  rw [kCheck1]
  go_wp2_with fail
  refine (check_calls _ [3, 0, 2] 3 _ ha (by decide)).mono ?_
  rintro e w22 ⟨rfl, rfl⟩
  rw [kCheck2]
  go_wp2_with fail
  go_ret
  exact ⟨rfl, hB⟩

end Go.Proofs.YtepadjcmmkglfabDoor
