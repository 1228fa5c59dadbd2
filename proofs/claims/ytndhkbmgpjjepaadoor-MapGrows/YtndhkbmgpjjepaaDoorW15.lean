/- The laws' known(): two vectors, joined, met, in words: it answers true in whatever world that has the library's table of powers of ten. Own work; no statement. -/
import Derived.Test.YtndhkbmgpjjepaaDoorW14
import Derived.Test.YtndhkbmgpjjepaaDoorW10
set_option linter.unusedSimpArgs false
set_option linter.unusedVariables false
namespace Go.Proofs.YtndhkbmgpjjepaaDoor
open Go.RowKit Go.Shelf

theorem itoa_digit (n : Int) (h0 : 0 ≤ n) (h1 : n < 10) : Lib.itoa n = [UInt8.ofNat (48 + n.toNat)] := by
  unfold Lib.itoa
  rw [if_neg (by omega), Lib.decDigits, dif_pos (by omega)]

theorem kJoin : bySiteL max [3, 0, 2] [1, 5] = [3, 5, 2] := by decide
theorem kMeet : bySiteL min [3, 0, 2] [1, 5] = [1, 0, 0] := by decide
theorem kText1 : textL [3, 5, 2] = [91, 51, 32, 53, 32, 50, 93] := by
  have : writtenL [3, 5, 2] = 3 := by decide
  simp [textL, this, numsTo, itoa_digit]
theorem kText2 : textL [1, 0, 0] = [91, 49, 93] := by
  have : writtenL [1, 0, 0] = 1 := by decide
  simp [textL, this, numsTo, itoa_digit]
theorem kText3 : textL [] = [91, 93] := by decide
theorem kWith : withL [1, 5] 3 7 = [1, 5, 0, 7] := by decide
theorem kText4 : textL [1, 5, 0, 7] = [91, 49, 32, 53, 32, 48, 32, 55, 93] := by
  have : writtenL [1, 5, 0, 7] = 4 := by decide
  simp [textL, this, numsTo, itoa_digit]
theorem kParse1 : parseL [91, 51, 32, 48, 32, 50, 93] = ([3, 0, 2], 0) := by decide +kernel
theorem kParse2 : parseL [91, 51, 32, 48, 93] = ([], 2) := by decide +kernel
theorem kPairs1 : (pairsTo [3, 0, 2] ([3, 0, 2] : List Int).length).map (·.1) = [0, 2] := by decide
theorem kPairs2 : (pairsTo [3, 0, 2] ([3, 0, 2] : List Int).length).map (·.2) = [3, 2] := by decide
theorem kSame : everyB eqB [3, 0, 2] [3, 0, 2] = true := by decide
theorem kCov1 : everyB covB [3, 5, 2] [3, 0, 2] = true := by decide
theorem kCov2 : everyB covB [3, 0, 2] [1, 5] = false := by decide
theorem kGet : geti [3, 0, 2] 9 = 0 := by decide
theorem kSum : ([3, 0, 2] : List Int).sum = 5 := by decide
theorem kCheck1 : checkL [3, 0, 2] 2 = 4 := by decide
theorem kCheck2 : checkL [3, 0, 2] 3 = 0 := by decide

theorem alloc_below (w : World) (o : Obj) : Below w.heap.size w (w.alloc o) := (Below.refl _ w).alloc (Nat.le_refl _) o
theorem lit_nums (w : World) (x y : Int) : IsNums .i64 (w.alloc (.cells #[.int .i64 x, .int .i64 y] 3)) (.slice (some ⟨w.heap.size, 0, none⟩) 2 2) [x, y] :=
  IsNums.of_row (base := 0) (World.ownsRow_lit (e := 3) (size := 1) w #[.int .i64 x, .int .i64 y] 2 (Nat.zero_le _) (by unfold maxLen; omega) rfl)

theorem small_inR {l : List Int} (h : ∀ x ∈ l, 0 ≤ x ∧ x ≤ 1048577) : InR l := fun x hx => by have := h x hx; omega

end Go.Proofs.YtndhkbmgpjjepaaDoor
