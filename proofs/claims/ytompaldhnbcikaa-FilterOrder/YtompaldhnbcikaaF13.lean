/- What the laws of filters share: numbers, any filter's calls with a record of site 1. Own work; no statement. -/
import Derived.Test.YtompaldhnbcikaaF12
set_option linter.unusedSimpArgs false
set_option linter.unusedVariables false
namespace Go.Proofs.Ytompaldhnbcikaa
open Go.RowKit Go.Shelf Go.Sort

theorem rng8F {n : Int} (h : (Lit.int .u8 n).wf = true) : 0 ≤ n ∧ n ≤ 255 := by
  have h' : (decide (IntKind.u8.min ≤ n) && decide (n ≤ IntKind.u8.max)) = true := h
  simp only [Bool.and_eq_true, decide_eq_true_eq] at h'
  exact h'
theorem rng16F {n : Int} (h : (Lit.int .u16 n).wf = true) : 0 ≤ n ∧ n ≤ 65535 := by
  have h' : (decide (IntKind.u16.min ≤ n) && decide (n ≤ IntKind.u16.max)) = true := h
  simp only [Bool.and_eq_true, decide_eq_true_eq] at h'
  exact h'
theorem rng64F {n : Int} (h : (Lit.int .i64 n).wf = true) : -9223372036854775808 ≤ n ∧ n ≤ 9223372036854775807 := by
  have h' : (decide (IntKind.i64.min ≤ n) && decide (n ≤ IntKind.i64.max)) = true := h
  simp only [Bool.and_eq_true, decide_eq_true_eq] at h'
  exact h'
theorem rem_natF {n m : Int} (h : 0 ≤ n) (hm : 0 < m) : ∃ k : Nat, Int.tmod n m = (k : Int) ∧ (k : Int) < m := by
  have h1 := Int.emod_nonneg n (show m ≠ 0 by omega)
  have h2 := Int.emod_lt_of_pos n hm
  refine ⟨(n % m).toNat, ?_, by omega⟩
  rw [Int.tmod_eq_emod_of_nonneg h]
  omega

theorem check_rR {n : Int} (h : 1 ≤ n ∧ n ≤ 1048576) : checkR (rR n) 8 = 0 := by
  have h1 : checkL [] 8 = 0 := by decide +kernel
  have h2 : geti [] 1 = 0 := by decide +kernel
  have h3 : isKeyL [107] = true := by decide +kernel
  have h4 : checkValL [] = 0 := by decide +kernel
  unfold checkR rR
  dsimp only
  rw [if_neg (by omega), if_pos h1, h2, if_neg (by omega), h3, if_pos rfl]
  exact h4
/-- What Put tells of the n-th record of site 1. -/
theorem putE_rR {F : FilD} (hs : F.site = 1) {n : Int} (h : 1 ≤ n ∧ n ≤ 1048576) : putE F (rR n) = if (F.L.any fun x => decide (x.seq = n)) || decide (n < F.next) then 5 else if F.next + F.room ≤ n then 6 else 0 := by
  unfold putE
  rw [if_pos (check_rR h), if_pos (by rw [hs]; rfl)]
  rfl
theorem putE_new {F : FilD} (hs : F.site = 1) {n : Int} (h : 1 ≤ n ∧ n ≤ 1048576) (h1 : ∀ x ∈ F.L, x.seq ≠ n) (h2 : F.next ≤ n) (h3 : n < F.next + F.room) : putE F (rR n) = 0 ∧ putF F (rR n) = ⟨F.site, F.room, F.next, F.L ++ [rR n]⟩ := by
  have : putE F (rR n) = 0 := by
    rw [putE_rR hs h, if_neg ?_, if_neg (by omega)]
    simp only [Bool.or_eq_true, List.any_eq_true, decide_eq_true_eq, not_or, not_exists, not_and]
    exact ⟨h1, by omega⟩
  exact ⟨this, if_pos this⟩
theorem putE_low {F : FilD} (hs : F.site = 1) {n : Int} (h : 1 ≤ n ∧ n ≤ 1048576) (h1 : n < F.next) : putE F (rR n) = 5 ∧ putF F (rR n) = F := by
  have : putE F (rR n) = 5 := by
    rw [putE_rR hs h, if_pos (by simp [h1])]
  exact ⟨this, putF_no this (by decide)⟩
theorem putE_twice {F : FilD} (hs : F.site = 1) {n : Int} (h : 1 ≤ n ∧ n ≤ 1048576) {x : RecD} (hx : x ∈ F.L) (hn : x.seq = n) : putE F (rR n) = 5 ∧ putF F (rR n) = F := by
  have : putE F (rR n) = 5 := by
    rw [putE_rR hs h, if_pos ?_]
    simp only [Bool.or_eq_true, List.any_eq_true, decide_eq_true_eq]
    exact .inl ⟨x, hx, hn⟩
  exact ⟨this, putF_no this (by decide)⟩
theorem putE_far {F : FilD} (hs : F.site = 1) {n : Int} (h : 1 ≤ n ∧ n ≤ 1048576) (h1 : ∀ x ∈ F.L, x.seq ≠ n) (h2 : F.next + F.room ≤ n) (h3 : 1 ≤ F.room) : putE F (rR n) = 6 ∧ putF F (rR n) = F := by
  have : putE F (rR n) = 6 := by
    rw [putE_rR hs h, if_neg ?_, if_pos h2]
    simp only [Bool.or_eq_true, List.any_eq_true, decide_eq_true_eq, not_or, not_exists, not_and]
    exact ⟨h1, by omega⟩
  exact ⟨this, putF_no this (by decide)⟩
theorem putR_on {w0 : World} {p b : Nat} {F : FilD} (v : Value) (n c : Int) (G : FilD) (h : putE F (rR n) = c ∧ putF F (rR n) = G) (w : World) (hf : AtF w0 w p b F) (hv : IsRec w v (rR n)) :
    Calls Try.prog 12 #[.pointer (some ⟨p, 0, none⟩), v] w fun e w' => e = .returned (.int .i64 c) ∧ AtF w0 w' p b G ∧ Kept w w' :=
  put_on v (rR n) c G h.1 h.2 (by simp [rR]) (by show 1 ≤ 50; decide) (by show 0 ≤ 50; decide) w hf hv
theorem new_at {s r : Int} {w w1 : World} (h : IsFil w1 (w.heap.size + 1) w.heap.size ⟨s, r, 1, []⟩) (hb : RowKit.Below w.heap.size w w1) {w0 : World} (h0 : RowKit.Below w0.heap.size w0 w) : ∃ p b, p = w.heap.size + 1 ∧ AtF w0 w1 p b ⟨s, r, 1, []⟩ :=
  ⟨_, _, rfl, h, by have := h0.size; omega, h0.size, h0.trans (hb.mono h0.size)⟩

end Go.Proofs.Ytompaldhnbcikaa
