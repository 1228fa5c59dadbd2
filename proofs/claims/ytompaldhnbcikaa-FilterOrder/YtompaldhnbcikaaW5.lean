/- The walks of vec's Check, written, and of the laws' few, Ints, up. Own work; no statement. -/
import Derived.Test.YtompaldhnbcikaaW4
import Derived.WalkSmall
set_option linter.unusedSimpArgs false
set_option linter.unusedVariables false
namespace Go.Proofs.Ytompaldhnbcikaa
open Go.RowKit

/-- The first number that may not be. -/
def checkN : List Int → Int
  | [] => 0
  | n :: r => if n < 0 then 1 else if 1048576 < n then 4 else checkN r
/-- As what Check tells of l: the number of the error. -/
def checkL (l : List Int) (sites : Int) : Int := if sites < 1 ∨ 8 < sites then 1 else if sites < (l.length : Int) then 4 else checkN l

theorem checkN_drop (l : List Int) (k : Nat) (h : k < l.length) : checkN (l.drop k) = if l.getD k 0 < 0 then 1 else if 1048576 < l.getD k 0 then 4 else checkN (l.drop (k + 1)) := by
  rw [List.drop_eq_getElem_cons h]
  simp [checkN, List.getD, h]

set_option maxHeartbeats 400000 in
theorem check_calls (v : Value) (l : List Int) (s : Int) (w : World) (hv : IsNums .i64 w v l) (hl : l.length ≤ 1099511627776) :
    Calls Try.prog 35 #[v, .int .i64 s] w fun e w' => e = .returned (.int .i64 (checkL l s)) ∧ w' = w := by
  obtain ⟨c, hc⟩ : ∃ c, checkL l s = c := ⟨_, rfl⟩
  rw [hc]
  have Hc := hide hc
  clear hc
  by_cases h1 : s < 1
  · obtain ⟨a1, cap, rfl, -, -⟩ := hv
    go_enter Try.func35, Try.ntmps35
    go_wp2
    go_ret
    exact ⟨ret_int (by rw [← Hc.out, checkL, if_pos (.inl h1)]), rfl⟩
  · by_cases h2 : 8 < s
    · obtain ⟨a1, cap, rfl, -, -⟩ := hv
      go_enter Try.func35, Try.ntmps35
      go_wp2
      go_ret
      exact ⟨ret_int (by rw [← Hc.out, checkL, if_pos (.inr h2)]), rfl⟩
    · by_cases h3 : s < (l.length : Int)
      · obtain ⟨a1, cap, rfl, -, -⟩ := hv
        go_enter Try.func35, Try.ntmps35
        go_wp2
        go_ret
        exact ⟨ret_int (by rw [← Hc.out, checkL, if_neg (by omega), if_pos h3]), rfl⟩
      · have e : checkN l = c := by rw [← Hc.out, checkL, if_neg (by omega), if_neg h3]
        clear Hc
        have E := hide e
        clear e
        rcases hv.cases with ⟨rfl, a1, cap, rfl⟩ | ⟨b, o, cap, rfl, -, hcap, hb, hcell⟩
        · have h3' : ¬ s < 0 := by omega
          go_enter Try.func35, Try.ntmps35
          go_wp2
          refine wp_loop_rounds 1 ?_
          rw [rounds_succ]
          go_wp2
          go_ret
          exact ⟨ret_int (by rw [← E.out]; rfl), rfl⟩
        · have Hcell := hide hcell
          clear hcell hv
          go_enter Try.func35, Try.ntmps35
          go_wp2
          go_loop [19] (fun i => ∃ k : Nat, i = .int .i64 (k : Int) ∧ k ≤ l.length ∧ checkN (l.drop k) = c) (fun i => l.length - (intOf i).toNat)
          case atStart => exact ⟨0, rfl, Nat.zero_le _, E.out⟩
          case round =>
            obtain ⟨k, rfl, hkn, hall⟩ := hrel
            replace hall := hide hall
            by_cases hk : k < l.length
            · have hlt' : (k : Int) < (l.length : Int) := by omega
              have hcl := Hcell.out k hk
              have hd := hide (checkN_drop l k hk)
              generalize l.getD k 0 = x at hcl hd
              by_cases hx : x < 0
              · go_wp2
                go_ret
                exact ⟨ret_int (by rw [← hall.out, hd.out, if_pos hx]), rfl⟩
              · by_cases hx2 : 1048576 < x
                · go_wp2
                  go_ret
                  exact ⟨ret_int (by rw [← hall.out, hd.out, if_neg (by omega), if_pos hx2]), rfl⟩
                · go_wp2
                  exact ⟨⟨k + 1, by go_num, by omega, by rw [← hall.out, hd.out, if_neg (by omega), if_neg (by omega)]⟩, by simp [intOf]; omega⟩
            · go_wp2
              go_ret
              exact ⟨ret_int (by rw [← hall.out, List.drop_of_length_le (by omega)]; rfl), rfl⟩

/-- How many of l's numbers a text has. -/
def writtenL (l : List Int) : Nat := (l.reverse.dropWhile (· == 0)).length
theorem writtenL_le (l : List Int) : writtenL l ≤ l.length := by
  unfold writtenL
  have := (List.dropWhile_suffix (· == (0 : Int)) (l := l.reverse)).length_le
  simpa using this
theorem writtenL_snoc_zero (l : List Int) : writtenL (l ++ [0]) = writtenL l := by simp [writtenL]
theorem writtenL_snoc (l : List Int) (x : Int) (h : ¬ x = 0) : writtenL (l ++ [x]) = l.length + 1 := by simp [writtenL, h]
theorem take_snoc_getD (l : List Int) (k : Nat) (h : k < l.length) : l.take (k + 1) = l.take k ++ [l.getD k 0] := by
  rw [List.take_succ_eq_append_getElem h]
  simp [List.getD, h]

theorem below_draws {B : Nat} {w : World} (n : Nat) : Below B w (w.drewN n) := ⟨rfl, rfl, rfl, Nat.le_refl _, fun _ _ => rfl⟩

end Go.Proofs.Ytompaldhnbcikaa
