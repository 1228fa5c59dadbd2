/- stripe's Find. Own work; no statement. -/
import Derived.Test.YtndhkbmgpjjepaaDoorM1
set_option linter.unusedSimpArgs false
set_option linter.unusedVariables false
namespace Go.Proofs.YtndhkbmgpjjepaaDoor
open Go.RowKit

theorem okFrom_get : ∀ (m : MapD) (a : Int), okFrom a m = true → ∀ k (h : k < m.length), a ≤ m[k].1 ∧ 1 ≤ m[k].2 ∧ m[k].2 ≤ 8
  | [], _, _, k, h => absurd h (by simp)
  | x :: r, a, hok, k, h => by
    rw [okFrom_cons] at hok
    simp only [Bool.and_eq_true, decide_eq_true_eq] at hok
    cases k with
    | zero => exact ⟨hok.1.1.1, hok.1.1.2, hok.1.2⟩
    | succ k =>
      have h' : k < r.length := by simpa using h
      have := okFrom_get r x.1 hok.2 k h'
      have h1 := hok.1.1.1
      simp only [List.getElem_cons_succ]
      omega
theorem okFrom_sorted : ∀ (m : MapD) (a : Int), okFrom a m = true → ∀ i j (h : i < j) (hj : j < m.length), (m[i]'(by omega)).1 ≤ m[j].1
  | [], _, _, _, j, _, hj => absurd hj (by simp)
  | x :: r, a, hok, i, j, h, hj => by
    rw [okFrom_cons] at hok
    simp only [Bool.and_eq_true, decide_eq_true_eq] at hok
    cases j with
    | zero => omega
    | succ j =>
      have hj' : j < r.length := by simpa using hj
      cases i with
      | zero => exact (okFrom_get r x.1 hok.2 j hj').1
      | succ i => exact okFrom_sorted r x.1 hok.2 i j (by omega) hj'
theorem okMap_pos {m : MapD} (h : okMap m = true) : 0 < m.length := by
  cases m with
  | nil => simp [okMap] at h
  | cons x r => simp
theorem okMap_zero {m : MapD} (h : okMap m = true) : (m[0]'(okMap_pos h)).1 = 0 := by
  cases m with
  | nil => simp [okMap] at h
  | cons x r =>
    simp only [okMap, Bool.and_eq_true, decide_eq_true_eq] at h
    exact h.1
theorem okMap_from {m : MapD} (h : okMap m = true) : okFrom 0 m = true := by
  cases m with
  | nil => rfl
  | cons x r =>
    simp only [okMap, Bool.and_eq_true, decide_eq_true_eq] at h
    exact h.2
theorem okMap_get {m : MapD} (h : okMap m = true) (k : Nat) (hk : k < m.length) : 0 ≤ m[k].1 ∧ 1 ≤ m[k].2 ∧ m[k].2 ≤ 8 := okFrom_get m 0 (okMap_from h) k hk
theorem okMap_sorted {m : MapD} (h : okMap m = true) (i j : Nat) (hij : i < j) (hj : j < m.length) : (m[i]'(by omega)).1 ≤ m[j].1 := okFrom_sorted m 0 (okMap_from h) i j hij hj

/-- Of the first n epochs the last whose From is not above pos, from 1 on. -/
def epochM (m : MapD) (pos : Int) : Nat → Nat
  | 0 => 0
  | n + 1 => if (m.getD n (0, 0)).1 ≤ pos then n + 1 else epochM m pos n
theorem epochM_le (m : MapD) (pos : Int) : ∀ n, epochM m pos n ≤ n
  | 0 => Nat.le_refl _
  | n + 1 => by
    have := epochM_le m pos n
    unfold epochM
    split <;> omega
theorem epochM_pos {m : MapD} {pos : Int} (h : okMap m = true) (h0 : 0 ≤ pos) : ∀ n, 1 ≤ n → 1 ≤ epochM m pos n
  | 1, _ => by
    have := okMap_zero h
    have hp := okMap_pos h
    unfold epochM
    rw [List.getD_eq_getElem?_getD, List.getElem?_eq_getElem hp, Option.getD_some, this, if_pos h0]
    exact Nat.le_refl _
  | n + 2, _ => by
    have := epochM_pos h h0 (n + 1) (by omega)
    unfold epochM
    split <;> omega
theorem epochM_from {m : MapD} {pos : Int} : ∀ n, 1 ≤ epochM m pos n → (m.getD (epochM m pos n - 1) (0, 0)).1 ≤ pos
  | 0, h => absurd h (by simp [epochM])
  | n + 1, h => by
    unfold epochM at h ⊢
    split
    · rename_i hx; simpa using hx
    · rename_i hx
      rw [if_neg hx] at h
      exact epochM_from n h

/-- What Find tells: the epoch, the stripe, the error's number. -/
def findM (m : MapD) (pos : Int) : Int × Int × Int :=
  if 0 ≤ pos ∧ okMap m = true then ((epochM m pos m.length : Nat), (pos - (m.getD (epochM m pos m.length - 1) (0, 0)).1) % (m.getD (epochM m pos m.length - 1) (0, 0)).2, 0) else (0, 0, 1)

theorem IsMap.at {w : World} {a : Option Addr} {n cap : Nat} {m : MapD} (h : IsMap w (.slice a n cap) m) (t : Nat) (ht : t < m.length) : n = m.length ∧ ∃ b o, a = some ⟨b, o, none⟩ ∧ b < w.heap.size ∧ w.cell? ⟨b, o + t * 2, none⟩ = some (.int .i64 (m.getD t (0, 0)).1) ∧ w.cell? ⟨b, o + t * 2 + 1, none⟩ = some (.int .i64 (m.getD t (0, 0)).2) := by
  obtain ⟨a', cap', e, -, hc⟩ := h
  cases e
  obtain ⟨b, o, rfl, c0, c1⟩ := hc t ht
  refine ⟨rfl, b, o, rfl, World.block_lt_of_cell? w _ c0, ?_, ?_⟩
  · rw [c0, List.getD_eq_getElem?_getD, List.getElem?_eq_getElem ht]; rfl
  · rw [c1, List.getD_eq_getElem?_getD, List.getElem?_eq_getElem ht]; rfl
theorem IsMap.slice {w : World} {v : Value} {m : MapD} (h : IsMap w v m) : ∃ a cap, v = .slice a m.length cap := let ⟨a, cap, e, _, _⟩ := h; ⟨a, cap, e⟩

set_option maxHeartbeats 1000000 in
theorem mapFind_calls (v : Value) (m : MapD) (pos : Int) (w : World) (hv : IsMap w v m) (hl : m.length ≤ 1099511627776) (hpos : pos ≤ 9223372036854775807) :
    Calls Tryd.prog 10 #[v, .int .i64 pos] w fun e w' => e = .returned (.tuple #[.int .i64 (findM m pos).1, .int .i64 (findM m pos).2.1, .int .i64 (findM m pos).2.2]) ∧ Below w.heap.size w w' := by
  have C := hide (mapCheck_calls v m w hv hl)
  have Hv := hide hv
  obtain ⟨a, cap, rfl⟩ := hv.slice
  clear hv
  obtain ⟨r, hr⟩ : ∃ r, findM m pos = r := ⟨_, rfl⟩
  rw [hr]
  by_cases h0 : pos < 0
  · obtain rfl : r = (0, 0, 1) := by rw [← hr, findM, if_neg (by omega)]
    go_enter Tryd.func10, Tryd.ntmps10
    go_wp2
    go_ret3
    exact ⟨rfl, Below.refl _ _⟩
  · by_cases hok : okMap m = true
    · have hc0 : checkM m = 0 := by rw [checkM, if_pos hok]
      rw [hc0] at C
      have he := epochM_pos (pos := pos) hok (by omega) m.length (okMap_pos hok)
      have hel := epochM_le m pos m.length
      have hfr := epochM_from (m := m) (pos := pos) m.length he
      have hN := okMap_get hok (epochM m pos m.length - 1) (by omega)
      rw [findM, if_pos ⟨by omega, hok⟩] at hr
      obtain ⟨E, hE⟩ : ∃ E, epochM m pos m.length = E := ⟨_, rfl⟩
      rw [hE] at hr he hel hfr
      have hgE : m.getD (E - 1) (0, 0) = m[E - 1]'(by omega) := by rw [List.getD_eq_getElem?_getD, List.getElem?_eq_getElem (by omega)]; rfl
      have hN2 : 0 ≤ (m.getD (E - 1) (0, 0)).1 ∧ 1 ≤ (m.getD (E - 1) (0, 0)).2 := by
        rw [hgE]
        have := okMap_get hok (E - 1) (by omega)
        exact ⟨this.1, this.2.1⟩
      have HE := hide hE
      clear hN hgE hE
      go_enter Tryd.func10, Tryd.ntmps10
      go_wp2_with (go_at_call 14; refine C.out.mono ?_; rintro e w1 ⟨rfl, hB1⟩)
      have hs1 := hB1.size
      go_loop [4] (fun ep => ∃ j : Nat, ep = .int .i64 (j : Int) ∧ E ≤ j ∧ j ≤ m.length ∧ epochM m pos j = E) (fun ep => (intOf ep).toNat)
      case atStart => exact ⟨m.length, rfl, hel, Nat.le_refl _, HE.out⟩
      case round =>
        obtain ⟨j, rfl, hj1, hj2, hj3⟩ := hrel
        obtain ⟨j, rfl⟩ : ∃ i, j = i + 1 := ⟨j - 1, by omega⟩
        obtain ⟨-, b, o, rfl, hbw, c0, c1⟩ := Hv.out.at j (by omega)
        replace c0 : w1.cell? ⟨b, o + j * 2, none⟩ = _ := (hB1.cell (p := ⟨b, o + j * 2, none⟩) hbw).trans c0
        replace c1 : w1.cell? ⟨b, o + j * 2 + 1, none⟩ = _ := (hB1.cell (p := ⟨b, o + j * 2 + 1, none⟩) hbw).trans c1
        unfold epochM at hj3
        by_cases hle : (m.getD j (0, 0)).1 ≤ pos
        · rw [if_pos hle] at hj3
          subst hj3
          simp only [Nat.add_sub_cancel] at hr hfr hN2
          generalize m.getD j (0, 0) = x at *
          obtain ⟨F, Nn⟩ := x
          dsimp only at *
          subst hr
          have hgt : ¬ F > pos := by omega
          have hN0 : ¬ Nn = 0 := by omega
          have hN0' : (Nn == 0) = false := by rw [beq_eq_false_iff_ne]; exact hN0
          have hbb : b < w1.heap.size := by omega
          have c2 : (w1.alloc (.cells #[.int .i64 F, .int .i64 Nn] 48)).cell? ⟨w1.heap.size, 0, none⟩ = some (.int .i64 F) := by simp
          go_wp2
          go_region
          go_wp2
          go_ret3
          exact ⟨by simp, (hB1.alloc hB1.size _).drew⟩
        · rw [if_neg hle] at hj3
          generalize (m.getD j (0, 0)).1 = F at *
          have hgt : F > pos := by omega
          have hle2 := epochM_le m pos j
          go_wp2
          exact ⟨⟨j, rfl, by omega, by omega, hj3⟩, by simp [intOf]⟩
    · have hc0 : checkM m = 1 := by rw [checkM, if_neg hok]
      rw [hc0] at C
      obtain rfl : r = (0, 0, 1) := by rw [← hr, findM, if_neg (fun h => hok h.2)]
      go_enter Tryd.func10, Tryd.ntmps10
      go_wp2_with (go_at_call 14; refine C.out.mono ?_; rintro e w1 ⟨rfl, hB1⟩)
      go_ret3
      exact ⟨rfl, hB1⟩

end Go.Proofs.YtndhkbmgpjjepaaDoor
