/- The laws' known of landaulaw5. Own work; no statement. -/
import Derived.Test.YtndhkbmgpjjepaaDoorM13
import Derived.Test.YtndhkbmgpjjepaaDoorW15
set_option linter.unusedSimpArgs false
set_option linter.unusedVariables false
namespace Go.Proofs.YtndhkbmgpjjepaaDoor
open Go.RowKit Go.Shelf

theorem k5Add1 : addM [(0, 2)] 5 3 = [(0, 2), (5, 3)] := by decide
theorem k5Chk1 : checkM ([(0, 2)] ++ [(5, 3)]) = 0 := by decide
theorem k5Chk2 : checkM ([(0, 2), (5, 3)] ++ [(4, 1)]) = 1 := by decide
theorem k5Find1 : findM [(0, 2), (5, 3)] 6 = (2, 1, 0) := by decide
theorem k5Find2 : findM [(0, 2), (5, 3)] 4 = (1, 0, 0) := by decide
theorem k5Then : thenM [(0, 2), (5, 3)] = [(0, 2), (5, 3)] := by decide
theorem k5Pos : posL [(0, 2), (5, 3)] 1 0 12 = [1, 3, 6, 9] := by decide
theorem k5Parse : parseM [48, 47, 50, 32, 53, 47, 51] = ([(0, 2), (5, 3)], 0) := by kernel_rfl
theorem k5Text : textM [(0, 2), (5, 3)] = [48, 47, 50, 32, 53, 47, 51] := by kernel_rfl
theorem k5Chk3 : checkM [] = 1 := rfl
theorem k5R : MapR [(0, 2), (5, 3)] := by
  intro x hx
  simp only [List.mem_cons, List.not_mem_nil, or_false] at hx
  rcases hx with rfl | rfl <;> decide

set_option maxRecDepth 100000 in
set_option maxHeartbeats 4000000 in
theorem known5_calls (w : World) (hp : Pow w) : Calls Tryd.prog 8 #[] w fun e w' => e = .returned (.bool true) ∧ Below w.heap.size w w' := by
  obtain ⟨w2, hw2⟩ : ∃ w2, w.alloc (.cells #[.int .i64 0, .int .i64 2] 48) = w2 := ⟨_, rfl⟩
  have hB : Below w.heap.size w w2 := by rw [← hw2]; exact (Below.refl _ w).alloc (Nat.le_refl _) _
  have hb0 : w2.heap[w.heap.size]? = some (.cells #[.int .i64 0, .int .i64 2] 48 (0, 0)) := by rw [← hw2]; exact World.alloc_heap_new w _
  have hm : IsMap w2 (.slice (some ⟨w.heap.size, 0, none⟩) 1 1) [(0, 2)] := ⟨_, 1, rfl, (fun e => by cases e), fun t ht => by
    have e : t = 0 := by simpa using ht
    subst e
    exact ⟨w.heap.size, 0, rfl, by simpa using cellsAt hb0 0, by simpa using cellsAt hb0 1⟩⟩
  have hP : Pow w2 := hp.below hB
  clear hb0
  go_enter Tryd.func8, Tryd.ntmps8
  go_wp2_with fail
  clear hw2
  refine (mapAdd_calls _ [(0, 2)] 5 3 _ hm (by decide)).mono ?_
  rintro e w3 ⟨vm, rfl, hown, hB1⟩
  rw [k5Add1] at hown
  simp only [k5Chk1]
  replace hm := OwnsM.map hown
  replace hP := hP.below hB1
  replace hB := hB.trans (hB1.mono hB.size)
  obtain ⟨am, cm, rfl⟩ := ownsRow_slice hown
  clear hB1 hown
  go_wp2_with fail
  refine (mapFind_calls _ [(0, 2), (5, 3)] 6 _ hm (by decide) (by decide)).mono ?_
  rintro e w4 ⟨rfl, hB1⟩
  simp only [k5Find1]
  replace hm := hm.below hB1
  replace hP := hP.below hB1
  replace hB := hB.trans (hB1.mono hB.size)
  clear hB1
  go_wp2_with fail
  refine (mapFind_calls _ [(0, 2), (5, 3)] 4 _ hm (by decide) (by decide)).mono ?_
  rintro e w5 ⟨rfl, hB1⟩
  simp only [k5Find2]
  replace hm := hm.below hB1
  replace hP := hP.below hB1
  replace hB := hB.trans (hB1.mono hB.size)
  clear hB1
  go_wp2_with fail
  refine (positions_calls _ [(0, 2), (5, 3)] 1 0 12 _ hm (by decide)).mono ?_
  rintro e w6 ⟨rfl, ⟨vr, hpos⟩, hB1⟩
  rw [k5Then] at hpos
  have N1 := hide (nums_calls _ vr [(0, 2), (5, 3)] 1 0 12 20 w6 hpos (by decide) (by decide) (by decide) (by decide) (by decide) (by decide) (by decide))
  rw [k5Pos] at N1
  unfold posV at N1
  replace hm := hm.below hB1
  replace hP := hP.below hB1
  replace hB := hB.trans (hB1.mono hB.size)
  clear hB1
  go_wp2_with fail
  refine N1.out.mono ?_
  rintro e w7 ⟨vl, rfl, hownl, hB1⟩
  have hl := IsNums.of_row hownl
  obtain ⟨al, cl, rfl⟩ := ownsRow_slice hownl
  replace hm := hm.below hB1
  replace hP := hP.below hB1
  replace hB := hB.trans (hB1.mono hB.size)
  clear hB1 hownl N1
  go_wp2_with fail
  refine (mapParse_calls [48, 47, 50, 32, 53, 47, 51] _ (by decide)).mono ?_
  rintro e w8 ⟨vp, rfl, hownp, hB1⟩
  rw [k5Parse] at hownp
  simp only [k5Parse]
  have hpm := OwnsM.map hownp
  obtain ⟨ap, cp, rfl⟩ := ownsRow_slice hownp
  replace hm := hm.below hB1
  replace hl := hl.below hB1
  replace hP := hP.below hB1
  replace hB := hB.trans (hB1.mono hB.size)
  clear hB1 hownp
  go_wp2_with fail
  refine (mapAdd_calls _ [(0, 2), (5, 3)] 4 1 _ hm (by decide)).mono ?_
  rintro e w9 ⟨vq, rfl, -, hB1⟩
  simp only [k5Chk2]
  replace hpm := hpm.below hB1
  replace hl := hl.below hB1
  replace hP := hP.below hB1
  replace hB := hB.trans (hB1.mono hB.size)
  clear hB1 hm
  have hB1 : Below w9.heap.size w9 (w9.alloc (.cells #[.int .i64 1, .int .i64 3, .int .i64 6, .int .i64 9] 3)) := (Below.refl _ w9).alloc (Nat.le_refl _) _
  have hlit : IsNums .i64 (w9.alloc (.cells #[.int .i64 1, .int .i64 3, .int .i64 6, .int .i64 9] 3)) (.slice (some ⟨w9.heap.size, 0, none⟩) 4 4) [1, 3, 6, 9] :=
    IsNums.of_row (World.ownsRow_lit (base := 0) (e := 3) (size := 1) w9 #[.int .i64 1, .int .i64 3, .int .i64 6, .int .i64 9] 4 (Nat.zero_le _) (by unfold maxLen; omega) rfl)
  replace hpm := hpm.below hB1
  replace hl := hl.below hB1
  replace hP := hP.below hB1
  replace hB := hB.trans (hB1.mono hB.size)
  clear hB1
  go_wp2_with fail
  refine (ints_calls _ _ [1, 3, 6, 9] [1, 3, 6, 9] _ hl hlit (by decide) (by decide)).mono ?_
  rintro e w10 ⟨rfl, n, hw10⟩
  have hB1 : Below _ _ w10 := hw10 ▸ below_draws (B := (w9.alloc (.cells #[.int .i64 1, .int .i64 3, .int .i64 6, .int .i64 9] 3)).heap.size) n
  rw [decide_eq_true rfl]
  replace hpm := hpm.below hB1
  replace hP := hP.below hB1
  replace hB := hB.trans (hB1.mono hB.size)
  clear hB1 hl hlit hw10
  go_wp2_with fail
  refine (mapText_calls _ [(0, 2), (5, 3)] _ hpm (by decide) k5R hP).mono ?_
  rintro e w11 ⟨rfl, hB1⟩
  rw [k5Text]
  replace hB := hB.trans (hB1.mono hB.size)
  clear hB1
  go_wp2_with fail
  refine (mapCheck_calls _ [] _ (IsMap.nil _) (by decide)).mono ?_
  rintro e w12 ⟨rfl, hB1⟩
  rw [k5Chk3]
  replace hB := hB.trans (hB1.mono hB.size)
  clear hB1
  go_wp2
  go_ret
  exact ⟨rfl, hB⟩

end Go.Proofs.YtndhkbmgpjjepaaDoor
