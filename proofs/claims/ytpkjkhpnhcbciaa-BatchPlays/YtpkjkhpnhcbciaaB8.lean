/- What the laws of batches share: numbers, rows of numbers that follow each other. Own work; no statement. -/
import Derived.Test.YtpkjkhpnhcbciaaB7
set_option linter.unusedSimpArgs false
set_option linter.unusedVariables false
namespace Go.Proofs.Ytpkjkhpnhcbciaa
open Go.RowKit Go.Shelf Go.Sort

theorem rng8B {n : Int} (h : (Lit.int .u8 n).wf = true) : 0 ≤ n ∧ n ≤ 255 := by
  have h' : (decide (IntKind.u8.min ≤ n) && decide (n ≤ IntKind.u8.max)) = true := h
  simp only [Bool.and_eq_true, decide_eq_true_eq] at h'
  exact h'
theorem rng64B {n : Int} (h : (Lit.int .i64 n).wf = true) : -9223372036854775808 ≤ n ∧ n ≤ 9223372036854775807 := by
  have h' : (decide (IntKind.i64.min ≤ n) && decide (n ≤ IntKind.i64.max)) = true := h
  simp only [Bool.and_eq_true, decide_eq_true_eq] at h'
  exact h'
theorem rem_natB {n m : Int} (h : 0 ≤ n) (hm : 0 < m) : ∃ k : Nat, Int.tmod n m = (k : Int) ∧ (k : Int) < m := by
  have h1 := Int.emod_nonneg n (show m ≠ 0 by omega)
  have h2 := Int.emod_lt_of_pos n hm
  refine ⟨(n % m).toNat, ?_, by omega⟩
  rw [Int.tmod_eq_emod_of_nonneg h]
  omega

/-- n numbers from o on, one behind the other. -/
def upB (o : Int) (n : Nat) : List Int := (List.range n).map fun (j : Nat) => o + (j : Int)
theorem upB_length (o : Int) (n : Nat) : (upB o n).length = n := by simp [upB]
theorem upB_get (o : Int) (n j : Nat) (h : j < (upB o n).length) : (upB o n)[j] = o + (j : Int) := by simp [upB]
theorem upB_succ (o : Int) (n : Nat) : upB o (n + 1) = upB o n ++ [o + (n : Int)] := by simp [upB, List.range_succ]
theorem upB_take (o : Int) (n k : Nat) : (upB o n).take k = upB o (min k n) := by
  apply List.ext_getElem
  · simp [upB]
  · intro j h1 h2
    simp [upB]
theorem upB_drop (o : Int) (n k : Nat) : (upB o n).drop k = upB (o + (k : Int)) (n - k) := by
  apply List.ext_getElem
  · simp [upB]
  · intro j h1 h2
    simp [upB]
    omega

theorem upB_add {z k o : Int} {m : Nat} (h : (m : Int) < k) : addE ⟨z, k, upB o m⟩ = 0 ∧ addB ⟨z, k, upB o m⟩ (o + (m : Int)) = ⟨z, k, upB o (m + 1)⟩ := by
  unfold addE addB
  dsimp only
  rw [upB_length, if_neg (by omega), if_neg (by omega), upB_succ]
  exact ⟨rfl, rfl⟩
theorem upB_full {z k o x : Int} {m : Nat} (h : k ≤ (m : Int)) : addE ⟨z, k, upB o m⟩ = 6 ∧ addB ⟨z, k, upB o m⟩ x = ⟨z, k, upB o m⟩ := by
  unfold addE addB
  dsimp only
  rw [upB_length, if_pos h, if_pos h]
  exact ⟨rfl, rfl⟩
theorem upB_ready (z k o : Int) (m : Nat) : readyB ⟨z, k, upB o m⟩ = upB o (min z.toNat m) := by
  unfold readyB
  dsimp only
  rw [upB_take]
theorem upB_takes (z k o : Int) (m t : Nat) : takesB t ⟨z, k, upB o m⟩ = ⟨z, k, upB (o + (t : Int)) (m - t)⟩ := by
  unfold takesB
  dsimp only
  rw [upB_drop]
theorem HasB.up {w : World} {B : Nat} {v : Value} {o : Int} {t : Nat} (h : HasB w B v (upB o t)) : ∃ a cap, v = .slice a t cap ∧ ∀ j, j < t → ∃ g, a = some ⟨g, 0, none⟩ ∧ w.cell? ⟨g, j, none⟩ = some (.int .i64 (o + (j : Int))) := by
  obtain ⟨a, cap, rfl, hc⟩ := h.form
  refine ⟨a, cap, by rw [upB_length], fun j hj => ?_⟩
  obtain ⟨g, h1, h2⟩ := hc j (by rw [upB_length]; exact hj)
  rw [upB_get] at h2
  exact ⟨g, h1, h2⟩

end Go.Proofs.Ytpkjkhpnhcbciaa
