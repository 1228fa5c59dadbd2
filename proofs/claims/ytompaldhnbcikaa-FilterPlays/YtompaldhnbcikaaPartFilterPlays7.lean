/- Own work: the parts Plain of the proof, laid together. -/
import Derived.Test.YtompaldhnbcikaaPartFilterPlays6
/- Plain laws on vectors as lists of numbers. Own work; no statement. -/
set_option linter.unusedSimpArgs false
set_option linter.unusedVariables false
namespace Go.Proofs.Ytompaldhnbcikaa

theorem getD_out (l : List Int) (i : Nat) (h : l.length ≤ i) : l.getD i 0 = 0 := by
  rw [List.getD, List.getElem?_eq_none h]; rfl
theorem getD_in (l : List Int) (i : Nat) (h : i < l.length) : l.getD i 0 = l[i] := by
  rw [List.getD, List.getElem?_eq_getElem h]; rfl
theorem getD_mem (l : List Int) (i : Nat) (h : i < l.length) : l.getD i 0 ∈ l := by rw [getD_in l i h]; exact List.getElem_mem h

theorem every_iff {f : Int → Int → Bool} (h0 : f 0 0 = true) (a b : List Int) : everyB f a b = true ↔ ∀ i, f (a.getD i 0) (b.getD i 0) = true := by
  constructor
  · intro h i
    unfold everyB at h
    rw [List.all_eq_true] at h
    by_cases hi : i < max a.length b.length
    · exact h i (by simpa using hi)
    · rw [getD_out a i (by omega), getD_out b i (by omega)]; exact h0
  · intro h
    exact everyB_yes f a b (fun i _ => h i)
theorem cov_iff (a b : List Int) : everyB covB a b = true ↔ ∀ i, b.getD i 0 ≤ a.getD i 0 := by
  rw [every_iff (by decide)]; simp only [covB, decide_eq_true_eq]
theorem same_iff (a b : List Int) : everyB eqB a b = true ↔ ∀ i, a.getD i 0 = b.getD i 0 := by
  rw [every_iff (by decide)]; simp only [eqB, beq_iff_eq]
theorem site_get {f : Int → Int → Int} (h0 : f 0 0 = 0) (a b : List Int) (i : Nat) : (bySiteL f a b).getD i 0 = f (a.getD i 0) (b.getD i 0) := by
  by_cases hi : i < max a.length b.length
  · rw [getD_in _ i (by rw [bySiteL_length]; exact hi)]; simp [bySiteL]
  · rw [getD_out _ i (by rw [bySiteL_length]; omega), getD_out a i (by omega), getD_out b i (by omega), h0]
theorem join_get (a b : List Int) (i : Nat) : (bySiteL max a b).getD i 0 = max (a.getD i 0) (b.getD i 0) := site_get (by decide) a b i
theorem meet_get (a b : List Int) (i : Nat) : (bySiteL min a b).getD i 0 = min (a.getD i 0) (b.getD i 0) := site_get (by decide) a b i

theorem cov_join_l (x y : List Int) : everyB covB (bySiteL max x y) x = true := by rw [cov_iff]; intro i; rw [join_get]; omega
theorem cov_join_r (x y : List Int) : everyB covB (bySiteL max x y) y = true := by rw [cov_iff]; intro i; rw [join_get]; omega
theorem cov_meet_l (x y : List Int) : everyB covB x (bySiteL min x y) = true := by rw [cov_iff]; intro i; rw [meet_get]; omega
theorem cov_meet_r (x y : List Int) : everyB covB y (bySiteL min x y) = true := by rw [cov_iff]; intro i; rw [meet_get]; omega
theorem cov_lub {x y z : List Int} (h1 : everyB covB z x = true) (h2 : everyB covB z y = true) : everyB covB z (bySiteL max x y) = true := by
  rw [cov_iff] at *; intro i; rw [join_get]; have := h1 i; have := h2 i; omega
theorem cov_glb {x y z : List Int} (h1 : everyB covB x z = true) (h2 : everyB covB y z = true) : everyB covB (bySiteL min x y) z = true := by
  rw [cov_iff] at *; intro i; rw [meet_get]; have := h1 i; have := h2 i; omega
theorem join_assoc (x y z : List Int) : everyB eqB (bySiteL max x (bySiteL max y z)) (bySiteL max (bySiteL max x y) z) = true := by
  rw [same_iff]; intro i; rw [join_get, join_get, join_get, join_get]; omega
theorem same_cov (x y : List Int) : everyB eqB x y = (everyB covB x y && everyB covB y x) := by
  rw [Bool.eq_iff_iff, Bool.and_eq_true, same_iff, cov_iff, cov_iff]
  constructor
  · intro h; exact ⟨fun i => by have := h i; omega, fun i => by have := h i; omega⟩
  · intro h i; have := h.1 i; have := h.2 i; omega

/-- The first n numbers together. -/
def sumTo (f : Nat → Int) : Nat → Int
  | 0 => 0
  | n + 1 => sumTo f n + f n
theorem sumTo_congr {f g : Nat → Int} (h : ∀ i, f i = g i) : ∀ n, sumTo f n = sumTo g n
  | 0 => rfl
  | n + 1 => by simp only [sumTo]; rw [sumTo_congr h n, h n]
theorem sumTo_add (f g : Nat → Int) : ∀ n, sumTo f n + sumTo g n = sumTo (fun i => f i + g i) n
  | 0 => rfl
  | n + 1 => by simp only [sumTo]; rw [← sumTo_add f g n]; omega
theorem sumTo_take (l : List Int) : ∀ n, n ≤ l.length → sumTo (fun i => l.getD i 0) n = (l.take n).sum
  | 0, _ => by simp [sumTo]
  | n + 1, h => by
    rw [take_snoc_getD l n (by omega), List.sum_append, ← sumTo_take l n (by omega)]
    simp [sumTo]
theorem sumTo_more (l : List Int) (k : Nat) : sumTo (fun i => l.getD i 0) (l.length + k) = l.sum := by
  induction k with
  | zero => rw [Nat.add_zero, sumTo_take l _ (Nat.le_refl _), List.take_of_length_le (Nat.le_refl _)]
  | succ k ih => rw [← Nat.add_assoc, sumTo, ih, getD_out l _ (by omega)]; omega
theorem sum_eq (l : List Int) (n : Nat) (h : l.length ≤ n) : l.sum = sumTo (fun i => l.getD i 0) n := by
  have := sumTo_more l (n - l.length)
  rw [← this]
  congr 1
  omega
theorem sum_join_meet (x y : List Int) : (bySiteL max x y).sum + (bySiteL min x y).sum = x.sum + y.sum := by
  have n := max x.length y.length
  rw [sum_eq (bySiteL max x y) (max x.length y.length) (by rw [bySiteL_length]; exact Nat.le_refl _), sum_eq (bySiteL min x y) (max x.length y.length) (by rw [bySiteL_length]; exact Nat.le_refl _),
    sum_eq x (max x.length y.length) (by omega), sum_eq y (max x.length y.length) (by omega), sumTo_add, sumTo_add]
  exact sumTo_congr (fun i => by rw [join_get, meet_get]; omega) _

/-- All numbers between 0 and m. -/
def InB (m : Int) (l : List Int) : Prop := ∀ x ∈ l, 0 ≤ x ∧ x ≤ m
theorem InB.get {m : Int} {l : List Int} (h : InB m l) (hm : 0 ≤ m) (i : Nat) : 0 ≤ l.getD i 0 ∧ l.getD i 0 ≤ m := by
  by_cases hi : i < l.length
  · exact h _ (getD_mem l i hi)
  · rw [getD_out l i (by omega)]; exact ⟨Int.le_refl _, hm⟩
theorem InB.site {m : Int} {f : Int → Int → Int} (hf : ∀ a b, 0 ≤ a ∧ a ≤ m → 0 ≤ b ∧ b ≤ m → 0 ≤ f a b ∧ f a b ≤ m) {a b : List Int} (ha : InB m a) (hb : InB m b) (hm : 0 ≤ m) : InB m (bySiteL f a b) := by
  intro x hx
  simp only [bySiteL, List.mem_map] at hx
  obtain ⟨i, _, rfl⟩ := hx
  exact hf _ _ (ha.get hm i) (hb.get hm i)
theorem InB.join {m : Int} {a b : List Int} (ha : InB m a) (hb : InB m b) (hm : 0 ≤ m) : InB m (bySiteL max a b) := ha.site (fun x y h1 h2 => by omega) hb hm
theorem InB.meet {m : Int} {a b : List Int} (ha : InB m a) (hb : InB m b) (hm : 0 ≤ m) : InB m (bySiteL min a b) := ha.site (fun x y h1 h2 => by omega) hb hm
theorem InB.mono {m m' : Int} {l : List Int} (h : InB m l) (hm : m ≤ m') : InB m' l := fun x hx => by have := h x hx; omega
theorem InB.sum {m : Int} {l : List Int} (h : InB m l) : 0 ≤ l.sum ∧ l.sum ≤ m * l.length := by
  induction l with
  | nil => simp
  | cons x l ih =>
    have h1 := h x (by simp)
    have h2 := ih (fun y hy => h y (by simp [hy]))
    rw [List.sum_cons, List.length_cons, Int.natCast_add, Int.mul_add]
    omega

end Go.Proofs.Ytompaldhnbcikaa
