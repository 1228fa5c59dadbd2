/- The walk of the law VecLimits. Own work; no statement. -/
import Derived.Test.YtepadjcmmkglfabDoorPlain
import Derived.Test.YtepadjcmmkglfabDoorFrame
import Derived.OpenShut
import Derived.Deep.RegionWith
set_option linter.unusedSimpArgs false
set_option linter.unusedVariables false
namespace Go.Proofs.YtepadjcmmkglfabDoor
open Go.RowKit Go.Shelf

def lenOf : Value → Nat
  | .slice _ n _ => n
  | _ => 0
theorem lit3 (w : World) (x y z : Int) : IsNums .i64 (w.alloc (.cells #[.int .i64 x, .int .i64 y, .int .i64 z] 3)) (.slice (some ⟨w.heap.size, 0, none⟩) 3 3) [x, y, z] :=
  IsNums.of_row (base := 0) (World.ownsRow_lit (e := 3) (size := 1) w #[.int .i64 x, .int .i64 y, .int .i64 z] 3 (Nat.zero_le _) (by unfold maxLen; omega) rfl)

set_option maxRecDepth 100000 in
set_option maxHeartbeats 4000000 in
theorem lim_00 (q : Int) (n : Int) (w : World) (q0 : 0 ≤ q) (q1 : q ≤ 255) (n0 : 0 ≤ n) (n1 : n ≤ 255) (hq : q % 4 = 0) (hn : n % 3 = 0) (hp : Pow w) :
    Calls Tryd.prog 3 #[.int .u8 q, .int .u8 n] w fun e w' => e = .returned (.bool true) ∧ Below w.heap.size w w' := by
  replace hp := hide hp
  have e0 : (q % 4 == 0) = true := by rw [hq]; rfl
  have e1 : (q % 4 == 1) = false := by rw [hq]; rfl
  have e2 : (q % 4 == 2) = false := by rw [hq]; rfl
  have e3 : (q % 4 == 3) = false := by rw [hq]; rfl
  go_enter Tryd.func3, Tryd.ntmps3
  go_wp2_with fail
  refine (known_calls _ hp.out).mono ?_
  rintro e w1 ⟨rfl, hB⟩
  clear hp
  go_wp2_with fail
  refine (check_calls _ [1, 1048575, 3] 8 _ (lit3 w1 _ _ _) (by simp)).mono ?_
  rintro e w2 ⟨rfl, rfl⟩
  rw [show checkL [1, 1048575, 3] 8 = 0 by decide]
  go_wp2_with fail
  go_ret
  exact ⟨rfl, hB.alloc hB.size _⟩

set_option maxRecDepth 100000 in
set_option maxHeartbeats 4000000 in
theorem lim_10 (q : Int) (n : Int) (w : World) (q0 : 0 ≤ q) (q1 : q ≤ 255) (n0 : 0 ≤ n) (n1 : n ≤ 255) (hq : q % 4 = 1) (hn : n % 3 = 0) (hp : Pow w) :
    Calls Tryd.prog 3 #[.int .u8 q, .int .u8 n] w fun e w' => e = .returned (.bool true) ∧ Below w.heap.size w w' := by
  replace hp := hide hp
  have e0 : (q % 4 == 0) = false := by rw [hq]; rfl
  have e1 : (q % 4 == 1) = true := by rw [hq]; rfl
  have e2 : (q % 4 == 2) = false := by rw [hq]; rfl
  have e3 : (q % 4 == 3) = false := by rw [hq]; rfl
  go_enter Tryd.func3, Tryd.ntmps3
  go_wp2_with fail
  refine (known_calls _ hp.out).mono ?_
  rintro e w1 ⟨rfl, hB⟩
  clear hp
  go_wp2_with fail
  refine (check_calls _ [1, 2, -1] 8 _ (lit3 w1 _ _ _) (by simp)).mono ?_
  rintro e w2 ⟨rfl, rfl⟩
  rw [show checkL [1, 2, -1] 8 = 1 by decide]
  go_wp2_with fail
  go_ret
  exact ⟨rfl, hB.alloc hB.size _⟩

set_option maxRecDepth 100000 in
set_option maxHeartbeats 4000000 in
theorem lim_20 (q : Int) (n : Int) (w : World) (q0 : 0 ≤ q) (q1 : q ≤ 255) (n0 : 0 ≤ n) (n1 : n ≤ 255) (hq : q % 4 = 2) (hn : n % 3 = 0) (hp : Pow w) :
    Calls Tryd.prog 3 #[.int .u8 q, .int .u8 n] w fun e w' => e = .returned (.bool true) ∧ Below w.heap.size w w' := by
  obtain ⟨i0, hi, hz0, hz1, hz2⟩ := info_parts Tryd.info3
  replace hp := hide hp
  have e0 : (q % 4 == 0) = false := by rw [hq]; rfl
  have e1 : (q % 4 == 1) = false := by rw [hq]; rfl
  have e2 : (q % 4 == 2) = true := by rw [hq]; rfl
  have e3 : (q % 4 == 3) = false := by rw [hq]; rfl
  go_enter Tryd.func3, Tryd.ntmps3
  go_wp2_with fail
  refine (known_calls _ hp.out).mono ?_
  rintro e w1 ⟨rfl, hB⟩
  clear hp
  go_wp2_with fail
  have hcap := World.ownsRow_lit (base := w1.heap.size) (e := 3) (size := 1) w1 #[.int .i64 1, .int .i64 2, .int .i64 3] 3 (Nat.le_refl _) (by unfold maxLen; omega) rfl
  go_loopw [6] (fun v wr => ∃ k : Nat, k ≤ 7 ∧ 3 ≤ k ∧ wr.ownsRow w1.heap.size 3 1 v k ((([1, 2, 3] : List Int) ++ List.replicate (k - 3) 1).map (Value.int .i64)) ∧ Below w1.heap.size w1 wr) (fun v _ => 7 - lenOf v)
  case atStart => exact ⟨3, by omega, by omega, hcap, alloc_below _ _⟩
  case round =>
    obtain ⟨k, hk, hk3, hown, hB1⟩ := hrel
    obtain ⟨pv, cv, rfl⟩ := ownsRow_slice hown
    have hbs := hB1.size
    by_cases hlt : (k : Int) < 7
    · go_wp2_with (at_builtin; refine wpList_append_own _ rfl _ _ 24 rfl w1.heap.size 3 i0 (.int .i64 0) 1 8 Tryd.underlying24 hi hz0 hz1 hz2 rfl (by decide) _ _ _ rfl (hown.alloc _) ⟨wr.heap.size, 0, none⟩ 1 1 [.int .i64 1] rfl rfl (cell_one_new _ _ _) (by intro u hu; simp at hu; subst hu; rfl) (by unfold maxLen; omega) (by omega) (by simp; omega) ?_; intro v' w2 hown' hgrow _)
      have hB2 : Below w1.heap.size w1 w2 := (hB1.alloc hB1.size _).grown hgrow (by simp; omega) (fun j hj => (hown.lt j hj).1)
      obtain ⟨pv2, cv2, rfl⟩ := ownsRow_slice hown'
      refine ⟨⟨k + 1, by omega, by omega, ?_, hB2⟩, by simp [lenOf]; omega⟩
      rw [show k + 1 - 3 = k - 3 + 1 by omega, List.replicate_succ']
      simpa using hown'
    · obtain rfl : k = 7 := by omega
      have hx := IsNums.of_row hown
      go_wp2_with fail
      refine (check_calls _ _ 8 _ hx (by simp)).mono ?_
      rintro e w2 ⟨rfl, rfl⟩
      rw [show checkL ([1, 2, 3] ++ List.replicate (7 - 3) 1) 8 = 0 by decide]
      go_wp2_with fail
      go_ret
      exact ⟨rfl, hB.trans (hB1.mono hB.size)⟩

set_option maxRecDepth 100000 in
set_option maxHeartbeats 4000000 in
theorem lim_30 (q : Int) (n : Int) (w : World) (q0 : 0 ≤ q) (q1 : q ≤ 255) (n0 : 0 ≤ n) (n1 : n ≤ 255) (hq : q % 4 = 3) (hn : n % 3 = 0) (hp : Pow w) :
    Calls Tryd.prog 3 #[.int .u8 q, .int .u8 n] w fun e w' => e = .returned (.bool true) ∧ Below w.heap.size w w' := by
  have ht : n.tmod 3 = 0 := by rw [Int.tmod_eq_emod_of_nonneg n0]; exact hn
  replace hp := hide hp
  have e0 : (q % 4 == 0) = false := by rw [hq]; rfl
  have e1 : (q % 4 == 1) = false := by rw [hq]; rfl
  have e2 : (q % 4 == 2) = false := by rw [hq]; rfl
  have e3 : (q % 4 == 3) = true := by rw [hq]; rfl
  go_enter Tryd.func3, Tryd.ntmps3
  go_wp2_with fail
  refine (known_calls _ hp.out).mono ?_
  rintro e w1 ⟨rfl, hB⟩
  clear hp
  go_wp2_with fail
  go_region_with (first
    | (go_at_call_of 10 (Value.slice (some ⟨w1.heap.size, 0, none⟩) 3 3); refine (check_calls _ [1, 2, 3] 7 _ (by first | exact lit3 w1 _ _ _ | exact (lit3 w1 _ _ _).below (alloc_below _ _)) (by decide)).mono ?_; rintro e w2 ⟨rfl, rfl⟩; rw [show checkL [1, 2, 3] 7 = 0 by decide])
    | (go_at_call_of 10 (Value.slice none 0 0); refine (check_calls _ [] 0 _ (IsNums.nil _ _ _ _) (by decide)).mono ?_; rintro e w2 ⟨rfl, rfl⟩; rw [show checkL [] 0 = 1 by decide]))
  all_goals go_wp2_with fail
  all_goals go_ret
  all_goals exact ⟨rfl, (hB.trans (((((Below.refl _ w1).alloc (Nat.le_refl _) _)).alloc (by simp) _).mono hB.size)).drew⟩

set_option maxRecDepth 100000 in
set_option maxHeartbeats 4000000 in
theorem lim_01 (q : Int) (n : Int) (w : World) (q0 : 0 ≤ q) (q1 : q ≤ 255) (n0 : 0 ≤ n) (n1 : n ≤ 255) (hq : q % 4 = 0) (hn : n % 3 = 1) (hp : Pow w) :
    Calls Tryd.prog 3 #[.int .u8 q, .int .u8 n] w fun e w' => e = .returned (.bool true) ∧ Below w.heap.size w w' := by
  replace hp := hide hp
  have e0 : (q % 4 == 0) = true := by rw [hq]; rfl
  have e1 : (q % 4 == 1) = false := by rw [hq]; rfl
  have e2 : (q % 4 == 2) = false := by rw [hq]; rfl
  have e3 : (q % 4 == 3) = false := by rw [hq]; rfl
  go_enter Tryd.func3, Tryd.ntmps3
  go_wp2_with fail
  refine (known_calls _ hp.out).mono ?_
  rintro e w1 ⟨rfl, hB⟩
  clear hp
  go_wp2_with fail
  refine (check_calls _ [1, 1048576, 3] 8 _ (lit3 w1 _ _ _) (by simp)).mono ?_
  rintro e w2 ⟨rfl, rfl⟩
  rw [show checkL [1, 1048576, 3] 8 = 0 by decide]
  go_wp2_with fail
  go_ret
  exact ⟨rfl, hB.alloc hB.size _⟩

set_option maxRecDepth 100000 in
set_option maxHeartbeats 4000000 in
theorem lim_11 (q : Int) (n : Int) (w : World) (q0 : 0 ≤ q) (q1 : q ≤ 255) (n0 : 0 ≤ n) (n1 : n ≤ 255) (hq : q % 4 = 1) (hn : n % 3 = 1) (hp : Pow w) :
    Calls Tryd.prog 3 #[.int .u8 q, .int .u8 n] w fun e w' => e = .returned (.bool true) ∧ Below w.heap.size w w' := by
  replace hp := hide hp
  have e0 : (q % 4 == 0) = false := by rw [hq]; rfl
  have e1 : (q % 4 == 1) = true := by rw [hq]; rfl
  have e2 : (q % 4 == 2) = false := by rw [hq]; rfl
  have e3 : (q % 4 == 3) = false := by rw [hq]; rfl
  go_enter Tryd.func3, Tryd.ntmps3
  go_wp2_with fail
  refine (known_calls _ hp.out).mono ?_
  rintro e w1 ⟨rfl, hB⟩
  clear hp
  go_wp2_with fail
  refine (check_calls _ [1, 2, 0] 8 _ (lit3 w1 _ _ _) (by simp)).mono ?_
  rintro e w2 ⟨rfl, rfl⟩
  rw [show checkL [1, 2, 0] 8 = 0 by decide]
  go_wp2_with fail
  go_ret
  exact ⟨rfl, hB.alloc hB.size _⟩

set_option maxRecDepth 100000 in
set_option maxHeartbeats 4000000 in
theorem lim_21 (q : Int) (n : Int) (w : World) (q0 : 0 ≤ q) (q1 : q ≤ 255) (n0 : 0 ≤ n) (n1 : n ≤ 255) (hq : q % 4 = 2) (hn : n % 3 = 1) (hp : Pow w) :
    Calls Tryd.prog 3 #[.int .u8 q, .int .u8 n] w fun e w' => e = .returned (.bool true) ∧ Below w.heap.size w w' := by
  obtain ⟨i0, hi, hz0, hz1, hz2⟩ := info_parts Tryd.info3
  replace hp := hide hp
  have e0 : (q % 4 == 0) = false := by rw [hq]; rfl
  have e1 : (q % 4 == 1) = false := by rw [hq]; rfl
  have e2 : (q % 4 == 2) = true := by rw [hq]; rfl
  have e3 : (q % 4 == 3) = false := by rw [hq]; rfl
  go_enter Tryd.func3, Tryd.ntmps3
  go_wp2_with fail
  refine (known_calls _ hp.out).mono ?_
  rintro e w1 ⟨rfl, hB⟩
  clear hp
  go_wp2_with fail
  have hcap := World.ownsRow_lit (base := w1.heap.size) (e := 3) (size := 1) w1 #[.int .i64 1, .int .i64 2, .int .i64 3] 3 (Nat.le_refl _) (by unfold maxLen; omega) rfl
  go_loopw [6] (fun v wr => ∃ k : Nat, k ≤ 8 ∧ 3 ≤ k ∧ wr.ownsRow w1.heap.size 3 1 v k ((([1, 2, 3] : List Int) ++ List.replicate (k - 3) 1).map (Value.int .i64)) ∧ Below w1.heap.size w1 wr) (fun v _ => 8 - lenOf v)
  case atStart => exact ⟨3, by omega, by omega, hcap, alloc_below _ _⟩
  case round =>
    obtain ⟨k, hk, hk3, hown, hB1⟩ := hrel
    obtain ⟨pv, cv, rfl⟩ := ownsRow_slice hown
    have hbs := hB1.size
    by_cases hlt : (k : Int) < 8
    · go_wp2_with (at_builtin; refine wpList_append_own _ rfl _ _ 24 rfl w1.heap.size 3 i0 (.int .i64 0) 1 8 Tryd.underlying24 hi hz0 hz1 hz2 rfl (by decide) _ _ _ rfl (hown.alloc _) ⟨wr.heap.size, 0, none⟩ 1 1 [.int .i64 1] rfl rfl (cell_one_new _ _ _) (by intro u hu; simp at hu; subst hu; rfl) (by unfold maxLen; omega) (by omega) (by simp; omega) ?_; intro v' w2 hown' hgrow _)
      have hB2 : Below w1.heap.size w1 w2 := (hB1.alloc hB1.size _).grown hgrow (by simp; omega) (fun j hj => (hown.lt j hj).1)
      obtain ⟨pv2, cv2, rfl⟩ := ownsRow_slice hown'
      refine ⟨⟨k + 1, by omega, by omega, ?_, hB2⟩, by simp [lenOf]; omega⟩
      rw [show k + 1 - 3 = k - 3 + 1 by omega, List.replicate_succ']
      simpa using hown'
    · obtain rfl : k = 8 := by omega
      have hx := IsNums.of_row hown
      go_wp2_with fail
      refine (check_calls _ _ 8 _ hx (by simp)).mono ?_
      rintro e w2 ⟨rfl, rfl⟩
      rw [show checkL ([1, 2, 3] ++ List.replicate (8 - 3) 1) 8 = 0 by decide]
      go_wp2_with fail
      go_ret
      exact ⟨rfl, hB.trans (hB1.mono hB.size)⟩

set_option maxRecDepth 100000 in
set_option maxHeartbeats 4000000 in
theorem lim_31 (q : Int) (n : Int) (w : World) (q0 : 0 ≤ q) (q1 : q ≤ 255) (n0 : 0 ≤ n) (n1 : n ≤ 255) (hq : q % 4 = 3) (hn : n % 3 = 1) (hp : Pow w) :
    Calls Tryd.prog 3 #[.int .u8 q, .int .u8 n] w fun e w' => e = .returned (.bool true) ∧ Below w.heap.size w w' := by
  have ht : n.tmod 3 = 1 := by rw [Int.tmod_eq_emod_of_nonneg n0]; exact hn
  replace hp := hide hp
  have e0 : (q % 4 == 0) = false := by rw [hq]; rfl
  have e1 : (q % 4 == 1) = false := by rw [hq]; rfl
  have e2 : (q % 4 == 2) = false := by rw [hq]; rfl
  have e3 : (q % 4 == 3) = true := by rw [hq]; rfl
  go_enter Tryd.func3, Tryd.ntmps3
  go_wp2_with fail
  refine (known_calls _ hp.out).mono ?_
  rintro e w1 ⟨rfl, hB⟩
  clear hp
  go_wp2_with fail
  go_region_with (first
    | (go_at_call_of 10 (Value.slice (some ⟨w1.heap.size, 0, none⟩) 3 3); refine (check_calls _ [1, 2, 3] 8 _ (by first | exact lit3 w1 _ _ _ | exact (lit3 w1 _ _ _).below (alloc_below _ _)) (by decide)).mono ?_; rintro e w2 ⟨rfl, rfl⟩; rw [show checkL [1, 2, 3] 8 = 0 by decide])
    | (go_at_call_of 10 (Value.slice none 0 0); refine (check_calls _ [] 1 _ (IsNums.nil _ _ _ _) (by decide)).mono ?_; rintro e w2 ⟨rfl, rfl⟩; rw [show checkL [] 1 = 0 by decide]))
  all_goals go_wp2_with fail
  all_goals go_ret
  all_goals exact ⟨rfl, (hB.trans (((((Below.refl _ w1).alloc (Nat.le_refl _) _)).alloc (by simp) _).mono hB.size)).drew⟩

set_option maxRecDepth 100000 in
set_option maxHeartbeats 4000000 in
theorem lim_02 (q : Int) (n : Int) (w : World) (q0 : 0 ≤ q) (q1 : q ≤ 255) (n0 : 0 ≤ n) (n1 : n ≤ 255) (hq : q % 4 = 0) (hn : n % 3 = 2) (hp : Pow w) :
    Calls Tryd.prog 3 #[.int .u8 q, .int .u8 n] w fun e w' => e = .returned (.bool true) ∧ Below w.heap.size w w' := by
  replace hp := hide hp
  have e0 : (q % 4 == 0) = true := by rw [hq]; rfl
  have e1 : (q % 4 == 1) = false := by rw [hq]; rfl
  have e2 : (q % 4 == 2) = false := by rw [hq]; rfl
  have e3 : (q % 4 == 3) = false := by rw [hq]; rfl
  go_enter Tryd.func3, Tryd.ntmps3
  go_wp2_with fail
  refine (known_calls _ hp.out).mono ?_
  rintro e w1 ⟨rfl, hB⟩
  clear hp
  go_wp2_with fail
  refine (check_calls _ [1, 1048577, 3] 8 _ (lit3 w1 _ _ _) (by simp)).mono ?_
  rintro e w2 ⟨rfl, rfl⟩
  rw [show checkL [1, 1048577, 3] 8 = 4 by decide]
  go_wp2_with fail
  go_ret
  exact ⟨rfl, hB.alloc hB.size _⟩

set_option maxRecDepth 100000 in
set_option maxHeartbeats 4000000 in
theorem lim_12 (q : Int) (n : Int) (w : World) (q0 : 0 ≤ q) (q1 : q ≤ 255) (n0 : 0 ≤ n) (n1 : n ≤ 255) (hq : q % 4 = 1) (hn : n % 3 = 2) (hp : Pow w) :
    Calls Tryd.prog 3 #[.int .u8 q, .int .u8 n] w fun e w' => e = .returned (.bool true) ∧ Below w.heap.size w w' := by
  replace hp := hide hp
  have e0 : (q % 4 == 0) = false := by rw [hq]; rfl
  have e1 : (q % 4 == 1) = true := by rw [hq]; rfl
  have e2 : (q % 4 == 2) = false := by rw [hq]; rfl
  have e3 : (q % 4 == 3) = false := by rw [hq]; rfl
  go_enter Tryd.func3, Tryd.ntmps3
  go_wp2_with fail
  refine (known_calls _ hp.out).mono ?_
  rintro e w1 ⟨rfl, hB⟩
  clear hp
  go_wp2_with fail
  refine (check_calls _ [1, 2, 1] 8 _ (lit3 w1 _ _ _) (by simp)).mono ?_
  rintro e w2 ⟨rfl, rfl⟩
  rw [show checkL [1, 2, 1] 8 = 0 by decide]
  go_wp2_with fail
  go_ret
  exact ⟨rfl, hB.alloc hB.size _⟩

set_option maxRecDepth 100000 in
set_option maxHeartbeats 4000000 in
theorem lim_22 (q : Int) (n : Int) (w : World) (q0 : 0 ≤ q) (q1 : q ≤ 255) (n0 : 0 ≤ n) (n1 : n ≤ 255) (hq : q % 4 = 2) (hn : n % 3 = 2) (hp : Pow w) :
    Calls Tryd.prog 3 #[.int .u8 q, .int .u8 n] w fun e w' => e = .returned (.bool true) ∧ Below w.heap.size w w' := by
  obtain ⟨i0, hi, hz0, hz1, hz2⟩ := info_parts Tryd.info3
  replace hp := hide hp
  have e0 : (q % 4 == 0) = false := by rw [hq]; rfl
  have e1 : (q % 4 == 1) = false := by rw [hq]; rfl
  have e2 : (q % 4 == 2) = true := by rw [hq]; rfl
  have e3 : (q % 4 == 3) = false := by rw [hq]; rfl
  go_enter Tryd.func3, Tryd.ntmps3
  go_wp2_with fail
  refine (known_calls _ hp.out).mono ?_
  rintro e w1 ⟨rfl, hB⟩
  clear hp
  go_wp2_with fail
  have hcap := World.ownsRow_lit (base := w1.heap.size) (e := 3) (size := 1) w1 #[.int .i64 1, .int .i64 2, .int .i64 3] 3 (Nat.le_refl _) (by unfold maxLen; omega) rfl
  go_loopw [6] (fun v wr => ∃ k : Nat, k ≤ 9 ∧ 3 ≤ k ∧ wr.ownsRow w1.heap.size 3 1 v k ((([1, 2, 3] : List Int) ++ List.replicate (k - 3) 1).map (Value.int .i64)) ∧ Below w1.heap.size w1 wr) (fun v _ => 9 - lenOf v)
  case atStart => exact ⟨3, by omega, by omega, hcap, alloc_below _ _⟩
  case round =>
    obtain ⟨k, hk, hk3, hown, hB1⟩ := hrel
    obtain ⟨pv, cv, rfl⟩ := ownsRow_slice hown
    have hbs := hB1.size
    by_cases hlt : (k : Int) < 9
    · go_wp2_with (at_builtin; refine wpList_append_own _ rfl _ _ 24 rfl w1.heap.size 3 i0 (.int .i64 0) 1 8 Tryd.underlying24 hi hz0 hz1 hz2 rfl (by decide) _ _ _ rfl (hown.alloc _) ⟨wr.heap.size, 0, none⟩ 1 1 [.int .i64 1] rfl rfl (cell_one_new _ _ _) (by intro u hu; simp at hu; subst hu; rfl) (by unfold maxLen; omega) (by omega) (by simp; omega) ?_; intro v' w2 hown' hgrow _)
      have hB2 : Below w1.heap.size w1 w2 := (hB1.alloc hB1.size _).grown hgrow (by simp; omega) (fun j hj => (hown.lt j hj).1)
      obtain ⟨pv2, cv2, rfl⟩ := ownsRow_slice hown'
      refine ⟨⟨k + 1, by omega, by omega, ?_, hB2⟩, by simp [lenOf]; omega⟩
      rw [show k + 1 - 3 = k - 3 + 1 by omega, List.replicate_succ']
      simpa using hown'
    · obtain rfl : k = 9 := by omega
      have hx := IsNums.of_row hown
      go_wp2_with fail
      refine (check_calls _ _ 8 _ hx (by simp)).mono ?_
      rintro e w2 ⟨rfl, rfl⟩
      rw [show checkL ([1, 2, 3] ++ List.replicate (9 - 3) 1) 8 = 4 by decide]
      go_wp2_with fail
      go_ret
      exact ⟨rfl, hB.trans (hB1.mono hB.size)⟩

set_option maxRecDepth 100000 in
set_option maxHeartbeats 4000000 in
theorem lim_32 (q : Int) (n : Int) (w : World) (q0 : 0 ≤ q) (q1 : q ≤ 255) (n0 : 0 ≤ n) (n1 : n ≤ 255) (hq : q % 4 = 3) (hn : n % 3 = 2) (hp : Pow w) :
    Calls Tryd.prog 3 #[.int .u8 q, .int .u8 n] w fun e w' => e = .returned (.bool true) ∧ Below w.heap.size w w' := by
  have ht : n.tmod 3 = 2 := by rw [Int.tmod_eq_emod_of_nonneg n0]; exact hn
  replace hp := hide hp
  have e0 : (q % 4 == 0) = false := by rw [hq]; rfl
  have e1 : (q % 4 == 1) = false := by rw [hq]; rfl
  have e2 : (q % 4 == 2) = false := by rw [hq]; rfl
  have e3 : (q % 4 == 3) = true := by rw [hq]; rfl
  go_enter Tryd.func3, Tryd.ntmps3
  go_wp2_with fail
  refine (known_calls _ hp.out).mono ?_
  rintro e w1 ⟨rfl, hB⟩
  clear hp
  go_wp2_with fail
  go_region_with (first
    | (go_at_call_of 10 (Value.slice (some ⟨w1.heap.size, 0, none⟩) 3 3); refine (check_calls _ [1, 2, 3] 9 _ (by first | exact lit3 w1 _ _ _ | exact (lit3 w1 _ _ _).below (alloc_below _ _)) (by decide)).mono ?_; rintro e w2 ⟨rfl, rfl⟩; rw [show checkL [1, 2, 3] 9 = 1 by decide])
    | (go_at_call_of 10 (Value.slice none 0 0); refine (check_calls _ [] 2 _ (IsNums.nil _ _ _ _) (by decide)).mono ?_; rintro e w2 ⟨rfl, rfl⟩; rw [show checkL [] 2 = 0 by decide]))
  all_goals go_wp2_with fail
  all_goals go_ret
  all_goals exact ⟨rfl, (hB.trans (((((Below.refl _ w1).alloc (Nat.le_refl _) _)).alloc (by simp) _).mono hB.size)).drew⟩

theorem vecLimits_main (q : Int) (n : Int) (w : World) (wq : (Lit.int .u8 q).wf = true) (wn : (Lit.int .u8 n).wf = true) (hp : Pow w) :
    Calls Tryd.prog 3 #[.int .u8 q, .int .u8 n] w fun e w' => e = .returned (.bool true) ∧ Below w.heap.size w w' := by
  obtain ⟨q0, q1⟩ := bounds_u8 wq
  obtain ⟨n0, n1⟩ := bounds_u8 wn
  have hn3 : n % 3 = 0 ∨ n % 3 = 1 ∨ n % 3 = 2 := by omega
  have hq4 : q % 4 = 0 ∨ q % 4 = 1 ∨ q % 4 = 2 ∨ q % 4 = 3 := by omega
  rcases hq4 with hq | hq | hq | hq
  · rcases hn3 with hn | hn | hn
    · exact lim_00 q n w q0 q1 n0 n1 hq hn hp
    · exact lim_01 q n w q0 q1 n0 n1 hq hn hp
    · exact lim_02 q n w q0 q1 n0 n1 hq hn hp
  · rcases hn3 with hn | hn | hn
    · exact lim_10 q n w q0 q1 n0 n1 hq hn hp
    · exact lim_11 q n w q0 q1 n0 n1 hq hn hp
    · exact lim_12 q n w q0 q1 n0 n1 hq hn hp
  · rcases hn3 with hn | hn | hn
    · exact lim_20 q n w q0 q1 n0 n1 hq hn hp
    · exact lim_21 q n w q0 q1 n0 n1 hq hn hp
    · exact lim_22 q n w q0 q1 n0 n1 hq hn hp
  · rcases hn3 with hn | hn | hn
    · exact lim_30 q n w q0 q1 n0 n1 hq hn hp
    · exact lim_31 q n w q0 q1 n0 n1 hq hn hp
    · exact lim_32 q n w q0 q1 n0 n1 hq hn hp

end Go.Proofs.YtepadjcmmkglfabDoor
