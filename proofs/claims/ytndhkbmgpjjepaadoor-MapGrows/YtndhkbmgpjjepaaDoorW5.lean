/- The walks of vec's Check, written, and of the laws' few, Ints, up. Own work; no statement. -/
import Derived.Test.YtndhkbmgpjjepaaDoorW4
import Derived.WalkSmall
set_option linter.unusedSimpArgs false
set_option linter.unusedVariables false
namespace Go.Proofs.YtndhkbmgpjjepaaDoor
open Go.RowKit

/-- The first number that may not be. -/
def checkN : List Int → Int
  | [] => 0
  | n :: r => if n < 0 then 1 else if 1048576 < n then 4 else checkN r
/-- As what Check tells of l: the number of the error. -/
def checkL (l : List Int) (sites : Int) : Int := if sites < 1 ∨ 8 < sites then 1 else if sites < (l.length : Int) then 4 else checkN l

theorem checkN_drop (l : List Int) (k : Nat) (h : k < l.length) : checkN (l.drop k) = if l.getD k 0 < 0 then 1 else if 1048576 < l.getD k 0 then 4 else checkN (l.drop (k + 1)) := by
  rw [List.drop_eq_getElem_cons h]
  simp [checkN, List.getD, h]

/-- How many of l's numbers a text has. -/
def writtenL (l : List Int) : Nat := (l.reverse.dropWhile (· == 0)).length
theorem writtenL_le (l : List Int) : writtenL l ≤ l.length := by
  unfold writtenL
  have := (List.dropWhile_suffix (· == (0 : Int)) (l := l.reverse)).length_le
  simpa using this
theorem writtenL_snoc_zero (l : List Int) : writtenL (l ++ [0]) = writtenL l := by simp [writtenL]
theorem writtenL_snoc (l : List Int) (x : Int) (h : ¬ x = 0) : writtenL (l ++ [x]) = l.length + 1 := by simp [writtenL, h]
theorem take_snoc_getD (l : List Int) (k : Nat) (h : k < l.length) : l.take (k + 1) = l.take k ++ [l.getD k 0] := by
  rw [List.take_succ_eq_append_getElem h]
  simp [List.getD, h]

theorem below_draws {B : Nat} {w : World} (n : Nat) : Below B w (w.drewN n) := ⟨rfl, rfl, rfl, Nat.le_refl _, fun _ _ => rfl⟩

set_option maxHeartbeats 1000000 in
theorem ints_calls (va vb : Value) (a b : List Int) (w : World) (ha : IsNums .i64 w va a) (hb : IsNums .i64 w vb b) (hla : a.length ≤ 1099511627776) (hlb : b.length ≤ 1099511627776) :
    Calls Tryd.prog 23 #[va, vb] w fun e w' => e = .returned (.bool (decide (a = b))) ∧ ∃ n, w' = w.drewN n := by
  by_cases hlen : a.length = b.length
  · rcases ha.cases with ⟨rfl, a1, capa, rfl⟩ | ⟨ba, oa, capa, rfl, hpa, hca, hba, hcella⟩
    · obtain rfl : b = [] := List.eq_nil_of_length_eq_zero hlen.symm
      obtain ⟨b1, capb, rfl, -, -⟩ := hb
      go_enter Tryd.func23, Tryd.ntmps23
      go_wp2
      refine wp_loop_rounds 1 ?_
      rw [rounds_succ]
      go_wp2
      go_ret
      exact ⟨rfl, 0, rfl⟩
    · rcases hb.cases with ⟨rfl, b1, capb, rfl⟩ | ⟨bb, ob, capb, rfl, hpb, hcb, hbb, hcellb⟩
      · exact absurd hlen (by simp; intro e; simp [e] at hpa)
      · have Hla := hide hcella
        have Hlb := hide hcellb
        have Hlen := hide hlen
        have hl1 : ((a.length : Int) != (b.length : Int)) = false := by simp [hlen]
        clear ha hb hcella hcellb hlen
        go_enter Tryd.func23, Tryd.ntmps23
        go_wp2
        go_loopw [5] (fun i wr => ∃ k : Nat, i = .int .i64 (k : Int) ∧ k ≤ a.length ∧ (∀ j, j < k → a.getD j 0 = b.getD j 0) ∧ ∃ n, wr = w.drewN n) (fun i _ => a.length - (intOf i).toNat)
        case atStart => exact ⟨0, rfl, Nat.zero_le _, fun j h => absurd h (Nat.not_lt_zero j), 0, rfl⟩
        case round =>
          obtain ⟨k, rfl, hkn, hall, n, rfl⟩ := hrel
          replace hall := hide hall
          by_cases hk : k < a.length
          · have hlt : (k : Int) < (a.length : Int) := by omega
            have hltb : (k : Int) < (b.length : Int) := by have := Hlen.out; omega
            have hcl := Hla.out k hk
            have hcr := Hlb.out k (by omega)
            obtain ⟨x, hx⟩ : ∃ x, a.getD k 0 = x := ⟨_, rfl⟩
            obtain ⟨y, hy⟩ : ∃ y, b.getD k 0 = y := ⟨_, rfl⟩
            rw [hx] at hcl
            rw [hy] at hcr
            replace hx := hide hx
            replace hy := hide hy
            clear hl1
            go_wp2
            go_quiet (fail)
            cases hxy : (x != y)
            · have exy := hide (show x = y by simpa using hxy)
              go_wp2
              refine ⟨⟨k + 1, by go_num, by omega, fun j hj => ?_, n + nq, ?_⟩, by simp [intOf]; omega⟩
              · by_cases e : j = k
                · rw [e, hx.out, hy.out, exy.out]
                · exact hall.out j (by omega)
              · simp [World.drewN, Nat.add_assoc]
            · have exy := hide (show ¬ x = y by simpa using hxy)
              go_wp2
              go_ret
              refine ⟨?_, n + nq, by simp [World.drewN, Nat.add_assoc]⟩
              have e : ¬ a = b := by
                intro e
                apply exy.out
                rw [← hx.out, ← hy.out, e]
              simp [e]
          · go_wp2
            go_ret
            refine ⟨?_, n, rfl⟩
            have e : a = b := by
              apply List.ext_getElem Hlen.out
              intro i h1 h2
              have := hall.out i (by omega)
              simpa [List.getD, h1, h2] using this
            simp [e]
  · have hl1 : ((a.length : Int) != (b.length : Int)) = true := by simp; omega
    have e : decide (a = b) = false := by simp; intro e; exact hlen (by rw [e])
    rw [e]
    obtain ⟨a1, capa, rfl, -, -⟩ := ha
    obtain ⟨b1, capb, rfl, -, -⟩ := hb
    clear e hlen
    go_enter Tryd.func23, Tryd.ntmps23
    go_wp2
    go_ret
    exact ⟨rfl, 0, rfl⟩

end Go.Proofs.YtndhkbmgpjjepaaDoor
