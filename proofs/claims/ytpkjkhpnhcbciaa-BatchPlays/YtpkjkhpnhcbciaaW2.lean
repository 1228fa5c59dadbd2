/- The walks of vec's Join, Meet, Covers, Same, With, Check, written: each call by its contract. Own work; no statement. -/
import Derived.Test.YtpkjkhpnhcbciaaW1
import Derived.Deep.RegionWith
set_option linter.unusedSimpArgs false
set_option linter.unusedVariables false
namespace Go.Proofs.Ytpkjkhpnhcbciaa
open Go.RowKit

theorem ret_int {k : IntKind} {a b : Int} (h : a = b) : Ending.returned (.int k a) = .returned (.int k b) := by rw [h]

/-- The tests that Covers and Same make of a site. -/
def covB (x y : Int) : Bool := decide (y ≤ x)
def eqB (x y : Int) : Bool := x == y

/-- What f takes of each site that a or b has. -/
def bySiteL (f : Int → Int → Int) (a b : List Int) : List Int := (List.range (max a.length b.length)).map fun i => f (a.getD i 0) (b.getD i 0)
/-- Whether f is true of each site that a or b has. -/
def everyB (f : Int → Int → Bool) (a b : List Int) : Bool := (List.range (max a.length b.length)).all fun i => f (a.getD i 0) (b.getD i 0)

theorem bySiteL_length (f : Int → Int → Int) (a b : List Int) : (bySiteL f a b).length = max a.length b.length := by simp [bySiteL]

/-- The first k of them are there, the others are still nought. -/
def partL (f : Int → Int → Int) (a b : List Int) (k : Nat) : List Int := (List.range (max a.length b.length)).map fun i => if i < k then f (a.getD i 0) (b.getD i 0) else 0
theorem partL_zero (f : Int → Int → Int) (a b : List Int) : partL f a b 0 = List.replicate (max a.length b.length) 0 := by
  apply List.ext_getElem <;> simp [partL]
theorem partL_all (f : Int → Int → Int) (a b : List Int) : partL f a b (max a.length b.length) = bySiteL f a b := by
  apply List.ext_getElem
  · simp [partL, bySiteL]
  · intro i h1 h2
    have h : i < max a.length b.length := by simpa [partL] using h1
    simp only [partL, bySiteL, List.getElem_map, List.getElem_range]
    rw [if_pos h]
theorem partL_succ (f : Int → Int → Int) (a b : List Int) (k : Nat) (h : k < max a.length b.length) : (partL f a b k).set k (f (a.getD k 0) (b.getD k 0)) = partL f a b (k + 1) := by
  apply List.ext_getElem
  · simp [partL]
  · intro i h1 h2
    simp only [partL, List.getElem_set, List.getElem_map, List.getElem_range]
    by_cases e : k = i
    · subst e; simp
    · rw [if_neg e]
      by_cases g : i < k
      · rw [if_pos g, if_pos (by omega)]
      · rw [if_neg g, if_neg (by omega)]
theorem everyB_no (f : Int → Int → Bool) (a b : List Int) (k : Nat) (h : k < max a.length b.length) (hf : f (a.getD k 0) (b.getD k 0) = false) : everyB f a b = false := by
  unfold everyB
  rw [List.all_eq_false]
  exact ⟨k, by simpa using h, by rw [hf]; simp⟩
theorem everyB_yes (f : Int → Int → Bool) (a b : List Int) (h : ∀ i, i < max a.length b.length → f (a.getD i 0) (b.getD i 0) = true) : everyB f a b = true := by
  unfold everyB
  rw [List.all_eq_true]
  intro i hi
  exact h i (by simpa using hi)


end Go.Proofs.Ytpkjkhpnhcbciaa
