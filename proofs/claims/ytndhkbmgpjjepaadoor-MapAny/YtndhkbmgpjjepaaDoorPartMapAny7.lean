/- Own work: the parts M19a, M19b, M19c, M19, M20, RefD, RefG, RefA, RefB, RefC2 of the proof, laid together. -/
import Derived.Test.YtndhkbmgpjjepaaDoorPartMapAny6
import Derived.Test.YtndhkbmgpjjepaaDoorPartMapAny5
import Derived.Test.YtndhkbmgpjjepaaDoorPartMapAny2
/- The reference's CheckMap, where all is right. Own work; no statement. -/
set_option linter.unusedSimpArgs false
set_option linter.unusedVariables false
namespace Go.Proofs.YtndhkbmgpjjepaaDoor
open Go.RowKit Go.Shelf

set_option maxHeartbeats 40000000 in
set_option maxRecDepth 100000 in
theorem refCheckMap_good (v : Value) (m : MapD) (w : World) (hv : IsMap w v m) (hl : m.length ≤ 1099511627776) (h0 : 0 < m.length) (hg : ∀ k, k < m.length → GoodAt m k) :
    Calls Tryd.prog 15 #[v] w fun e w' => e = .returned (.int .i64 0) ∧ ∃ d, w' = w.drewN d := by
  have Hv := hide hv
  obtain ⟨a, cap, rfl⟩ := hv.slice
  clear hv
  have hn : ((m.length : Int) == 0) = false := by rw [beq_eq_false_iff_ne]; omega
  go_enter Tryd.func15, Tryd.ntmps15
  go_wp2_with fail
  go_loopw [3] (fun i wr => ∃ k d : Nat, i = .int .i64 (k : Int) ∧ k ≤ m.length ∧ wr = w.drewN d) (fun i _ => m.length - (intOf i).toNat)
  case atStart => exact ⟨0, 0, rfl, Nat.zero_le _, rfl⟩
  case round =>
    obtain ⟨k, d, rfl, hk, rfl⟩ := hrel
    by_cases hlt : k < m.length
    · have hltI : (k : Int) < (m.length : Int) := by omega
      obtain ⟨-, b, o, rfl, hbw, c0, c1⟩ := Hv.out.at k (by omega)
      have d0 : (w.drewN d).cell? ⟨b, o + k * 2, none⟩ = _ := c0
      have d1 : (w.drewN d).cell? ⟨b, o + k * 2 + 1, none⟩ = _ := c1
      by_cases hk0 : k = 0
      · subst hk0
        simp only [Nat.zero_mul, Nat.add_zero] at c0 c1 d0 d1
        have hz : ((0 : Int) == 0) = true := rfl
        obtain ⟨g1, -, g3, g4⟩ := hg 0 hlt
        replace g1 := g1 rfl
        generalize m.getD 0 (0, 0) = x at *
        obtain ⟨F, N⟩ := x
        dsimp only at *
        subst g1
        have h2 : ¬ N < 1 := by omega
        have h3 : ¬ 8 < N := by omega
        clear hg hk hl h0 hbw
        go_wp2_with fail
        refine wp_region_quiet_lit (by kernel_rfl) (by kernel_rfl) ?_
        first | go_big_quiet_step (fail) | quiet_step (fail)
        first | go_big_quiet_step (fail) | quiet_step (fail)
        first | go_big_quiet_step (fail) | quiet_step (fail)
        first | go_big_quiet_step (fail) | quiet_step (fail)
        first | go_big_quiet_step (fail) | quiet_step (fail)
        first | go_big_quiet_step (fail) | quiet_step (fail)
        first | go_big_quiet_step (fail) | quiet_step (fail)
        first | go_big_quiet_step (fail) | quiet_step (fail)
        first | go_big_quiet_step (fail) | quiet_step (fail)
        first | go_big_quiet_step (fail) | quiet_step (fail)
        first | go_big_quiet_step (fail) | quiet_step (fail)
        first | go_big_quiet_step (fail) | quiet_step (fail)
        first | go_big_quiet_step (fail) | quiet_step (fail)
        first | go_big_quiet_step (fail) | quiet_step (fail)
        first | go_big_quiet_step (fail) | quiet_step (fail)
        first | go_big_quiet_step (fail) | quiet_step (fail)
        first | go_big_quiet_step (fail) | quiet_step (fail)
        first | go_big_quiet_step (fail) | quiet_step (fail)
        first | go_big_quiet_step (fail) | quiet_step (fail)
        first | go_big_quiet_step (fail) | quiet_step (fail)
        first | go_big_quiet_step (fail) | quiet_step (fail)
        first | go_big_quiet_step (fail) | quiet_step (fail)
        first | go_big_quiet_step (fail) | quiet_step (fail)
        first | go_big_quiet_step (fail) | quiet_step (fail)
        first | go_big_quiet_step (fail) | quiet_step (fail)
        first | go_big_quiet_step (fail) | quiet_step (fail)
        first | go_big_quiet_step (fail) | quiet_step (fail)
        first | go_big_quiet_step (fail) | quiet_step (fail)
        first | go_big_quiet_step (fail) | quiet_step (fail)
        first | go_big_quiet_step (fail) | quiet_step (fail)
        first | go_big_quiet_step (fail) | quiet_step (fail)
        first | go_big_quiet_step (fail) | quiet_step (fail)
        first | go_big_quiet_step (fail) | quiet_step (fail)
        first | go_big_quiet_step (fail) | quiet_step (fail)
        first | go_big_quiet_step (fail) | quiet_step (fail)
        first | go_big_quiet_step (fail) | quiet_step (fail)
        first | go_big_quiet_step (fail) | quiet_step (fail)
        first | go_big_quiet_step (fail) | quiet_step (fail)
        first | go_big_quiet_step (fail) | quiet_step (fail)
        first | go_big_quiet_step (fail) | quiet_step (fail)
        first | go_big_quiet_step (fail) | quiet_step (fail)
        first | go_big_quiet_step (fail) | quiet_step (fail)
        first | go_big_quiet_step (fail) | quiet_step (fail)
        first | go_big_quiet_step (fail) | quiet_step (fail)
        refine wpQuiet_nil ?_
        rintro _ ⟨nq, rfl⟩
        go_wp2
        exact ⟨⟨0 + 1, d + nq, by go_num, by omega, rfl⟩, by simp [intOf]; omega⟩
      · obtain ⟨k, rfl⟩ : ∃ i, k = i + 1 := ⟨k - 1, by omega⟩
        obtain ⟨-, b', o', e', -, p0, -⟩ := Hv.out.at k (by omega)
        cases e'
        have p1 : (w.drewN d).cell? ⟨b, o + k * 2, none⟩ = _ := p0
        obtain ⟨-, g2, g3, g4⟩ := hg (k + 1) hlt
        replace g2 := g2 (by omega)
        rw [Nat.add_sub_cancel] at g2
        generalize m.getD (k + 1) (0, 0) = x at *
        generalize (m.getD k (0, 0)).1 = Pv at *
        obtain ⟨F, N⟩ := x
        dsimp only at *
        have hz : (((k : Int) + 1) == 0) = false := by rw [beq_eq_false_iff_ne]; omega
        have hkp : (0 : Int) ≤ (k : Int) + 1 := by omega
        have hkq : (0 : Int) < (k : Int) + 1 := by omega
        have h1 : ¬ F < Pv := by omega
        have h2 : ¬ N < 1 := by omega
        have h3 : ¬ 8 < N := by omega
        clear hg hk hbw hk0
        go_wp2_with fail
        refine wp_region_quiet_lit (by kernel_rfl) (by kernel_rfl) ?_
        first | go_big_quiet_step (fail) | quiet_step (fail)
        first | go_big_quiet_step (fail) | quiet_step (fail)
        first | go_big_quiet_step (fail) | quiet_step (fail)
        first | go_big_quiet_step (fail) | quiet_step (fail)
        first | go_big_quiet_step (fail) | quiet_step (fail)
        first | go_big_quiet_step (fail) | quiet_step (fail)
        first | go_big_quiet_step (fail) | quiet_step (fail)
        first | go_big_quiet_step (fail) | quiet_step (fail)
        first | go_big_quiet_step (fail) | quiet_step (fail)
        first | go_big_quiet_step (fail) | quiet_step (fail)
        first | go_big_quiet_step (fail) | quiet_step (fail)
        first | go_big_quiet_step (fail) | quiet_step (fail)
        first | go_big_quiet_step (fail) | quiet_step (fail)
        first | go_big_quiet_step (fail) | quiet_step (fail)
        first | go_big_quiet_step (fail) | quiet_step (fail)
        first | go_big_quiet_step (fail) | quiet_step (fail)
        first | go_big_quiet_step (fail) | quiet_step (fail)
        first | go_big_quiet_step (fail) | quiet_step (fail)
        first | go_big_quiet_step (fail) | quiet_step (fail)
        first | go_big_quiet_step (fail) | quiet_step (fail)
        first | go_big_quiet_step (fail) | quiet_step (fail)
        first | go_big_quiet_step (fail) | quiet_step (fail)
        first | go_big_quiet_step (fail) | quiet_step (fail)
        first | go_big_quiet_step (fail) | quiet_step (fail)
        first | go_big_quiet_step (fail) | quiet_step (fail)
        first | go_big_quiet_step (fail) | quiet_step (fail)
        first | go_big_quiet_step (fail) | quiet_step (fail)
        first | go_big_quiet_step (fail) | quiet_step (fail)
        first | go_big_quiet_step (fail) | quiet_step (fail)
        first | go_big_quiet_step (fail) | quiet_step (fail)
        first | go_big_quiet_step (fail) | quiet_step (fail)
        first | go_big_quiet_step (fail) | quiet_step (fail)
        first | go_big_quiet_step (fail) | quiet_step (fail)
        first | go_big_quiet_step (fail) | quiet_step (fail)
        first | go_big_quiet_step (fail) | quiet_step (fail)
        first | go_big_quiet_step (fail) | quiet_step (fail)
        first | go_big_quiet_step (fail) | quiet_step (fail)
        first | go_big_quiet_step (fail) | quiet_step (fail)
        first | go_big_quiet_step (fail) | quiet_step (fail)
        first | go_big_quiet_step (fail) | quiet_step (fail)
        first | go_big_quiet_step (fail) | quiet_step (fail)
        first | go_big_quiet_step (fail) | quiet_step (fail)
        first | go_big_quiet_step (fail) | quiet_step (fail)
        first | go_big_quiet_step (fail) | quiet_step (fail)
        refine wpQuiet_nil ?_
        rintro _ ⟨nq, rfl⟩
        go_wp2
        exact ⟨⟨k + 1 + 1, d + nq, by go_num, by omega, rfl⟩, by simp [intOf]; omega⟩
    · have hltI : ¬ (k : Int) < (m.length : Int) := by omega
      go_wp2
      go_ret
      exact ⟨rfl, d, rfl⟩

end Go.Proofs.YtndhkbmgpjjepaaDoor

/- The reference's CheckMap, where the first is wrong. Own work; no statement. -/
set_option linter.unusedSimpArgs false
set_option linter.unusedVariables false
namespace Go.Proofs.YtndhkbmgpjjepaaDoor
open Go.RowKit Go.Shelf

set_option maxHeartbeats 40000000 in
set_option maxRecDepth 100000 in
theorem refCheckMap_first (v : Value) (m : MapD) (w : World) (hv : IsMap w v m) (hl : m.length ≤ 1099511627776) (h0 : 0 < m.length) (hg : ¬ GoodAt m 0) :
    Calls Tryd.prog 15 #[v] w fun e w' => e = .returned (.int .i64 1) ∧ ∃ d, w' = w.drewN d := by
  have Hv := hide hv
  obtain ⟨a, cap, rfl⟩ := hv.slice
  clear hv
  have hn : ((m.length : Int) == 0) = false := by rw [beq_eq_false_iff_ne]; omega
  go_enter Tryd.func15, Tryd.ntmps15
  go_wp2_with fail
  go_loopw [3] (fun i wr => ∃ k d : Nat, i = .int .i64 (k : Int) ∧ k ≤ 0 ∧ wr = w.drewN d) (fun i _ => m.length - (intOf i).toNat)
  case atStart => exact ⟨0, 0, rfl, Nat.zero_le _, rfl⟩
  case round =>
    obtain ⟨k, d, rfl, hk, rfl⟩ := hrel
    obtain rfl : k = 0 := by omega
    have hltI : (0 : Int) < (m.length : Int) := by omega
    obtain ⟨-, b, o, rfl, hbw, c0, c1⟩ := Hv.out.at 0 h0
    have d0 : (w.drewN d).cell? ⟨b, o + 0 * 2, none⟩ = _ := c0
    have d1 : (w.drewN d).cell? ⟨b, o + 0 * 2 + 1, none⟩ = _ := c1
    simp only [Nat.zero_mul, Nat.add_zero] at c0 c1 d0 d1
    have hz : ((0 : Int) == 0) = true := rfl
    unfold GoodAt at hg
    generalize m.getD 0 (0, 0) = x at *
    obtain ⟨F, N⟩ := x
    dsimp only at *
    by_cases h1 : F = 0
    · subst h1
      by_cases h2 : N < 1
      · clear hg hk hl hbw
        go_wp2_with fail
        refine wp_region_quiet_lit (by kernel_rfl) (by kernel_rfl) ?_
        first | go_big_quiet_step (fail) | quiet_step (fail)
        first | go_big_quiet_step (fail) | quiet_step (fail)
        first | go_big_quiet_step (fail) | quiet_step (fail)
        first | go_big_quiet_step (fail) | quiet_step (fail)
        first | go_big_quiet_step (fail) | quiet_step (fail)
        first | go_big_quiet_step (fail) | quiet_step (fail)
        first | go_big_quiet_step (fail) | quiet_step (fail)
        first | go_big_quiet_step (fail) | quiet_step (fail)
        first | go_big_quiet_step (fail) | quiet_step (fail)
        first | go_big_quiet_step (fail) | quiet_step (fail)
        first | go_big_quiet_step (fail) | quiet_step (fail)
        first | go_big_quiet_step (fail) | quiet_step (fail)
        first | go_big_quiet_step (fail) | quiet_step (fail)
        first | go_big_quiet_step (fail) | quiet_step (fail)
        first | go_big_quiet_step (fail) | quiet_step (fail)
        first | go_big_quiet_step (fail) | quiet_step (fail)
        first | go_big_quiet_step (fail) | quiet_step (fail)
        first | go_big_quiet_step (fail) | quiet_step (fail)
        first | go_big_quiet_step (fail) | quiet_step (fail)
        first | go_big_quiet_step (fail) | quiet_step (fail)
        first | go_big_quiet_step (fail) | quiet_step (fail)
        first | go_big_quiet_step (fail) | quiet_step (fail)
        first | go_big_quiet_step (fail) | quiet_step (fail)
        first | go_big_quiet_step (fail) | quiet_step (fail)
        first | go_big_quiet_step (fail) | quiet_step (fail)
        first | go_big_quiet_step (fail) | quiet_step (fail)
        first | go_big_quiet_step (fail) | quiet_step (fail)
        first | go_big_quiet_step (fail) | quiet_step (fail)
        first | go_big_quiet_step (fail) | quiet_step (fail)
        first | go_big_quiet_step (fail) | quiet_step (fail)
        first | go_big_quiet_step (fail) | quiet_step (fail)
        first | go_big_quiet_step (fail) | quiet_step (fail)
        first | go_big_quiet_step (fail) | quiet_step (fail)
        first | go_big_quiet_step (fail) | quiet_step (fail)
        first | go_big_quiet_step (fail) | quiet_step (fail)
        first | go_big_quiet_step (fail) | quiet_step (fail)
        first | go_big_quiet_step (fail) | quiet_step (fail)
        first | go_big_quiet_step (fail) | quiet_step (fail)
        first | go_big_quiet_step (fail) | quiet_step (fail)
        first | go_big_quiet_step (fail) | quiet_step (fail)
        first | go_big_quiet_step (fail) | quiet_step (fail)
        first | go_big_quiet_step (fail) | quiet_step (fail)
        first | go_big_quiet_step (fail) | quiet_step (fail)
        first | go_big_quiet_step (fail) | quiet_step (fail)
        refine wpQuiet_nil ?_
        rintro _ ⟨nq, rfl⟩
        go_wp2
        go_ret
        exact ⟨rfl, d + nq, World.drewN_drewN _ _ _⟩
      · have h3 : 8 < N := by
          refine Decidable.byContradiction fun h => hg ⟨fun _ => rfl, fun h => by omega, by omega, by omega⟩
        clear hg hk hl hbw
        go_wp2_with fail
        refine wp_region_quiet_lit (by kernel_rfl) (by kernel_rfl) ?_
        first | go_big_quiet_step (fail) | quiet_step (fail)
        first | go_big_quiet_step (fail) | quiet_step (fail)
        first | go_big_quiet_step (fail) | quiet_step (fail)
        first | go_big_quiet_step (fail) | quiet_step (fail)
        first | go_big_quiet_step (fail) | quiet_step (fail)
        first | go_big_quiet_step (fail) | quiet_step (fail)
        first | go_big_quiet_step (fail) | quiet_step (fail)
        first | go_big_quiet_step (fail) | quiet_step (fail)
        first | go_big_quiet_step (fail) | quiet_step (fail)
        first | go_big_quiet_step (fail) | quiet_step (fail)
        first | go_big_quiet_step (fail) | quiet_step (fail)
        first | go_big_quiet_step (fail) | quiet_step (fail)
        first | go_big_quiet_step (fail) | quiet_step (fail)
        first | go_big_quiet_step (fail) | quiet_step (fail)
        first | go_big_quiet_step (fail) | quiet_step (fail)
        first | go_big_quiet_step (fail) | quiet_step (fail)
        first | go_big_quiet_step (fail) | quiet_step (fail)
        first | go_big_quiet_step (fail) | quiet_step (fail)
        first | go_big_quiet_step (fail) | quiet_step (fail)
        first | go_big_quiet_step (fail) | quiet_step (fail)
        first | go_big_quiet_step (fail) | quiet_step (fail)
        first | go_big_quiet_step (fail) | quiet_step (fail)
        first | go_big_quiet_step (fail) | quiet_step (fail)
        first | go_big_quiet_step (fail) | quiet_step (fail)
        first | go_big_quiet_step (fail) | quiet_step (fail)
        first | go_big_quiet_step (fail) | quiet_step (fail)
        first | go_big_quiet_step (fail) | quiet_step (fail)
        first | go_big_quiet_step (fail) | quiet_step (fail)
        first | go_big_quiet_step (fail) | quiet_step (fail)
        first | go_big_quiet_step (fail) | quiet_step (fail)
        first | go_big_quiet_step (fail) | quiet_step (fail)
        first | go_big_quiet_step (fail) | quiet_step (fail)
        first | go_big_quiet_step (fail) | quiet_step (fail)
        first | go_big_quiet_step (fail) | quiet_step (fail)
        first | go_big_quiet_step (fail) | quiet_step (fail)
        first | go_big_quiet_step (fail) | quiet_step (fail)
        first | go_big_quiet_step (fail) | quiet_step (fail)
        first | go_big_quiet_step (fail) | quiet_step (fail)
        first | go_big_quiet_step (fail) | quiet_step (fail)
        first | go_big_quiet_step (fail) | quiet_step (fail)
        first | go_big_quiet_step (fail) | quiet_step (fail)
        first | go_big_quiet_step (fail) | quiet_step (fail)
        first | go_big_quiet_step (fail) | quiet_step (fail)
        first | go_big_quiet_step (fail) | quiet_step (fail)
        refine wpQuiet_nil ?_
        rintro _ ⟨nq, rfl⟩
        go_wp2
        go_ret
        exact ⟨rfl, d + nq, World.drewN_drewN _ _ _⟩
    · have h1b : (F == 0) = false := by rw [beq_eq_false_iff_ne]; exact h1
      clear hg hk hl hbw
      go_wp2_with fail
      refine wp_region_quiet_lit (by kernel_rfl) (by kernel_rfl) ?_
      first | go_big_quiet_step (fail) | quiet_step (fail)
      first | go_big_quiet_step (fail) | quiet_step (fail)
      first | go_big_quiet_step (fail) | quiet_step (fail)
      first | go_big_quiet_step (fail) | quiet_step (fail)
      first | go_big_quiet_step (fail) | quiet_step (fail)
      first | go_big_quiet_step (fail) | quiet_step (fail)
      first | go_big_quiet_step (fail) | quiet_step (fail)
      first | go_big_quiet_step (fail) | quiet_step (fail)
      first | go_big_quiet_step (fail) | quiet_step (fail)
      first | go_big_quiet_step (fail) | quiet_step (fail)
      first | go_big_quiet_step (fail) | quiet_step (fail)
      first | go_big_quiet_step (fail) | quiet_step (fail)
      first | go_big_quiet_step (fail) | quiet_step (fail)
      first | go_big_quiet_step (fail) | quiet_step (fail)
      first | go_big_quiet_step (fail) | quiet_step (fail)
      first | go_big_quiet_step (fail) | quiet_step (fail)
      first | go_big_quiet_step (fail) | quiet_step (fail)
      first | go_big_quiet_step (fail) | quiet_step (fail)
      first | go_big_quiet_step (fail) | quiet_step (fail)
      first | go_big_quiet_step (fail) | quiet_step (fail)
      first | go_big_quiet_step (fail) | quiet_step (fail)
      first | go_big_quiet_step (fail) | quiet_step (fail)
      first | go_big_quiet_step (fail) | quiet_step (fail)
      first | go_big_quiet_step (fail) | quiet_step (fail)
      first | go_big_quiet_step (fail) | quiet_step (fail)
      first | go_big_quiet_step (fail) | quiet_step (fail)
      first | go_big_quiet_step (fail) | quiet_step (fail)
      first | go_big_quiet_step (fail) | quiet_step (fail)
      first | go_big_quiet_step (fail) | quiet_step (fail)
      first | go_big_quiet_step (fail) | quiet_step (fail)
      first | go_big_quiet_step (fail) | quiet_step (fail)
      first | go_big_quiet_step (fail) | quiet_step (fail)
      first | go_big_quiet_step (fail) | quiet_step (fail)
      first | go_big_quiet_step (fail) | quiet_step (fail)
      first | go_big_quiet_step (fail) | quiet_step (fail)
      first | go_big_quiet_step (fail) | quiet_step (fail)
      first | go_big_quiet_step (fail) | quiet_step (fail)
      first | go_big_quiet_step (fail) | quiet_step (fail)
      first | go_big_quiet_step (fail) | quiet_step (fail)
      first | go_big_quiet_step (fail) | quiet_step (fail)
      first | go_big_quiet_step (fail) | quiet_step (fail)
      first | go_big_quiet_step (fail) | quiet_step (fail)
      first | go_big_quiet_step (fail) | quiet_step (fail)
      first | go_big_quiet_step (fail) | quiet_step (fail)
      refine wpQuiet_nil ?_
      rintro _ ⟨nq, rfl⟩
      go_wp2
      go_ret
      exact ⟨rfl, d + nq, World.drewN_drewN _ _ _⟩

end Go.Proofs.YtndhkbmgpjjepaaDoor

/- The reference's CheckMap, where a later one is wrong. Own work; no statement. -/
set_option linter.unusedSimpArgs false
set_option linter.unusedVariables false
namespace Go.Proofs.YtndhkbmgpjjepaaDoor
open Go.RowKit Go.Shelf

set_option maxHeartbeats 40000000 in
set_option maxRecDepth 100000 in
theorem refCheckMap_later (v : Value) (m : MapD) (w : World) (hv : IsMap w v m) (hl : m.length ≤ 1099511627776) (j : Nat) (hj : j + 1 < m.length) (hg : ∀ k, k < j + 1 → GoodAt m k) (hb : ¬ GoodAt m (j + 1)) :
    Calls Tryd.prog 15 #[v] w fun e w' => e = .returned (.int .i64 1) ∧ ∃ d, w' = w.drewN d := by
  have Hv := hide hv
  obtain ⟨a, cap, rfl⟩ := hv.slice
  clear hv
  have hn : ((m.length : Int) == 0) = false := by rw [beq_eq_false_iff_ne]; omega
  go_enter Tryd.func15, Tryd.ntmps15
  go_wp2_with fail
  go_loopw [3] (fun i wr => ∃ k d : Nat, i = .int .i64 (k : Int) ∧ k ≤ j + 1 ∧ wr = w.drewN d) (fun i _ => m.length - (intOf i).toNat)
  case atStart => exact ⟨0, 0, rfl, Nat.zero_le _, rfl⟩
  case round =>
    obtain ⟨k, d, rfl, hk, rfl⟩ := hrel
    by_cases hlt : k < j + 1
    · have hltI : (k : Int) < (m.length : Int) := by omega
      obtain ⟨-, b, o, rfl, hbw, c0, c1⟩ := Hv.out.at k (by omega)
      have d0 : (w.drewN d).cell? ⟨b, o + k * 2, none⟩ = _ := c0
      have d1 : (w.drewN d).cell? ⟨b, o + k * 2 + 1, none⟩ = _ := c1
      by_cases hk0 : k = 0
      · subst hk0
        simp only [Nat.zero_mul, Nat.add_zero] at c0 c1 d0 d1
        have hz : ((0 : Int) == 0) = true := rfl
        obtain ⟨g1, -, g3, g4⟩ := hg 0 hlt
        replace g1 := g1 rfl
        generalize m.getD 0 (0, 0) = x at *
        obtain ⟨F, N⟩ := x
        dsimp only at *
        subst g1
        have h2 : ¬ N < 1 := by omega
        have h3 : ¬ 8 < N := by omega
        clear hg hb hk hl hbw
        go_wp2_with fail
        refine wp_region_quiet_lit (by kernel_rfl) (by kernel_rfl) ?_
        first | go_big_quiet_step (fail) | quiet_step (fail)
        first | go_big_quiet_step (fail) | quiet_step (fail)
        first | go_big_quiet_step (fail) | quiet_step (fail)
        first | go_big_quiet_step (fail) | quiet_step (fail)
        first | go_big_quiet_step (fail) | quiet_step (fail)
        first | go_big_quiet_step (fail) | quiet_step (fail)
        first | go_big_quiet_step (fail) | quiet_step (fail)
        first | go_big_quiet_step (fail) | quiet_step (fail)
        first | go_big_quiet_step (fail) | quiet_step (fail)
        first | go_big_quiet_step (fail) | quiet_step (fail)
        first | go_big_quiet_step (fail) | quiet_step (fail)
        first | go_big_quiet_step (fail) | quiet_step (fail)
        first | go_big_quiet_step (fail) | quiet_step (fail)
        first | go_big_quiet_step (fail) | quiet_step (fail)
        first | go_big_quiet_step (fail) | quiet_step (fail)
        first | go_big_quiet_step (fail) | quiet_step (fail)
        first | go_big_quiet_step (fail) | quiet_step (fail)
        first | go_big_quiet_step (fail) | quiet_step (fail)
        first | go_big_quiet_step (fail) | quiet_step (fail)
        first | go_big_quiet_step (fail) | quiet_step (fail)
        first | go_big_quiet_step (fail) | quiet_step (fail)
        first | go_big_quiet_step (fail) | quiet_step (fail)
        first | go_big_quiet_step (fail) | quiet_step (fail)
        first | go_big_quiet_step (fail) | quiet_step (fail)
        first | go_big_quiet_step (fail) | quiet_step (fail)
        first | go_big_quiet_step (fail) | quiet_step (fail)
        first | go_big_quiet_step (fail) | quiet_step (fail)
        first | go_big_quiet_step (fail) | quiet_step (fail)
        first | go_big_quiet_step (fail) | quiet_step (fail)
        first | go_big_quiet_step (fail) | quiet_step (fail)
        first | go_big_quiet_step (fail) | quiet_step (fail)
        first | go_big_quiet_step (fail) | quiet_step (fail)
        first | go_big_quiet_step (fail) | quiet_step (fail)
        first | go_big_quiet_step (fail) | quiet_step (fail)
        first | go_big_quiet_step (fail) | quiet_step (fail)
        first | go_big_quiet_step (fail) | quiet_step (fail)
        first | go_big_quiet_step (fail) | quiet_step (fail)
        first | go_big_quiet_step (fail) | quiet_step (fail)
        first | go_big_quiet_step (fail) | quiet_step (fail)
        first | go_big_quiet_step (fail) | quiet_step (fail)
        first | go_big_quiet_step (fail) | quiet_step (fail)
        first | go_big_quiet_step (fail) | quiet_step (fail)
        first | go_big_quiet_step (fail) | quiet_step (fail)
        first | go_big_quiet_step (fail) | quiet_step (fail)
        refine wpQuiet_nil ?_
        rintro _ ⟨nq, rfl⟩
        go_wp2
        exact ⟨⟨0 + 1, d + nq, by go_num, by omega, rfl⟩, by simp [intOf]; omega⟩
      · obtain ⟨k, rfl⟩ : ∃ i, k = i + 1 := ⟨k - 1, by omega⟩
        obtain ⟨-, b', o', e', -, p0, -⟩ := Hv.out.at k (by omega)
        cases e'
        have p1 : (w.drewN d).cell? ⟨b, o + k * 2, none⟩ = _ := p0
        obtain ⟨-, g2, g3, g4⟩ := hg (k + 1) hlt
        replace g2 := g2 (by omega)
        rw [Nat.add_sub_cancel] at g2
        generalize m.getD (k + 1) (0, 0) = x at *
        generalize (m.getD k (0, 0)).1 = Pv at *
        obtain ⟨F, N⟩ := x
        dsimp only at *
        have hz : (((k : Int) + 1) == 0) = false := by rw [beq_eq_false_iff_ne]; omega
        have hkp : (0 : Int) ≤ (k : Int) + 1 := by omega
        have hkq : (0 : Int) < (k : Int) + 1 := by omega
        have h1 : ¬ F < Pv := by omega
        have h2 : ¬ N < 1 := by omega
        have h3 : ¬ 8 < N := by omega
        clear hg hb hk hbw hk0
        go_wp2_with fail
        refine wp_region_quiet_lit (by kernel_rfl) (by kernel_rfl) ?_
        first | go_big_quiet_step (fail) | quiet_step (fail)
        first | go_big_quiet_step (fail) | quiet_step (fail)
        first | go_big_quiet_step (fail) | quiet_step (fail)
        first | go_big_quiet_step (fail) | quiet_step (fail)
        first | go_big_quiet_step (fail) | quiet_step (fail)
        first | go_big_quiet_step (fail) | quiet_step (fail)
        first | go_big_quiet_step (fail) | quiet_step (fail)
        first | go_big_quiet_step (fail) | quiet_step (fail)
        first | go_big_quiet_step (fail) | quiet_step (fail)
        first | go_big_quiet_step (fail) | quiet_step (fail)
        first | go_big_quiet_step (fail) | quiet_step (fail)
        first | go_big_quiet_step (fail) | quiet_step (fail)
        first | go_big_quiet_step (fail) | quiet_step (fail)
        first | go_big_quiet_step (fail) | quiet_step (fail)
        first | go_big_quiet_step (fail) | quiet_step (fail)
        first | go_big_quiet_step (fail) | quiet_step (fail)
        first | go_big_quiet_step (fail) | quiet_step (fail)
        first | go_big_quiet_step (fail) | quiet_step (fail)
        first | go_big_quiet_step (fail) | quiet_step (fail)
        first | go_big_quiet_step (fail) | quiet_step (fail)
        first | go_big_quiet_step (fail) | quiet_step (fail)
        first | go_big_quiet_step (fail) | quiet_step (fail)
        first | go_big_quiet_step (fail) | quiet_step (fail)
        first | go_big_quiet_step (fail) | quiet_step (fail)
        first | go_big_quiet_step (fail) | quiet_step (fail)
        first | go_big_quiet_step (fail) | quiet_step (fail)
        first | go_big_quiet_step (fail) | quiet_step (fail)
        first | go_big_quiet_step (fail) | quiet_step (fail)
        first | go_big_quiet_step (fail) | quiet_step (fail)
        first | go_big_quiet_step (fail) | quiet_step (fail)
        first | go_big_quiet_step (fail) | quiet_step (fail)
        first | go_big_quiet_step (fail) | quiet_step (fail)
        first | go_big_quiet_step (fail) | quiet_step (fail)
        first | go_big_quiet_step (fail) | quiet_step (fail)
        first | go_big_quiet_step (fail) | quiet_step (fail)
        first | go_big_quiet_step (fail) | quiet_step (fail)
        first | go_big_quiet_step (fail) | quiet_step (fail)
        first | go_big_quiet_step (fail) | quiet_step (fail)
        first | go_big_quiet_step (fail) | quiet_step (fail)
        first | go_big_quiet_step (fail) | quiet_step (fail)
        first | go_big_quiet_step (fail) | quiet_step (fail)
        first | go_big_quiet_step (fail) | quiet_step (fail)
        first | go_big_quiet_step (fail) | quiet_step (fail)
        first | go_big_quiet_step (fail) | quiet_step (fail)
        refine wpQuiet_nil ?_
        rintro _ ⟨nq, rfl⟩
        go_wp2
        exact ⟨⟨k + 1 + 1, d + nq, by go_num, by omega, rfl⟩, by simp [intOf]; omega⟩
    · obtain rfl : k = j + 1 := by omega
      have hltI : (j : Int) + 1 < (m.length : Int) := by omega
      obtain ⟨-, b, o, rfl, hbw, c0, c1⟩ := Hv.out.at (j + 1) hj
      have d0 : (w.drewN d).cell? ⟨b, o + (j + 1) * 2, none⟩ = _ := c0
      have d1 : (w.drewN d).cell? ⟨b, o + (j + 1) * 2 + 1, none⟩ = _ := c1
      obtain ⟨-, b', o', e', -, p0, -⟩ := Hv.out.at j (by omega)
      cases e'
      have p1 : (w.drewN d).cell? ⟨b, o + j * 2, none⟩ = _ := p0
      unfold GoodAt at hb
      rw [Nat.add_sub_cancel] at hb
      generalize m.getD (j + 1) (0, 0) = x at *
      generalize (m.getD j (0, 0)).1 = Pv at *
      obtain ⟨F, N⟩ := x
      dsimp only at *
      have hz : (((j : Int) + 1) == 0) = false := by rw [beq_eq_false_iff_ne]; omega
      have hkp : (0 : Int) ≤ (j : Int) + 1 := by omega
      have hkq : (0 : Int) < (j : Int) + 1 := by omega
      by_cases h1 : F < Pv
      · clear hg hb hk hbw hlt
        go_wp2_with fail
        refine wp_region_quiet_lit (by kernel_rfl) (by kernel_rfl) ?_
        first | go_big_quiet_step (fail) | quiet_step (fail)
        first | go_big_quiet_step (fail) | quiet_step (fail)
        first | go_big_quiet_step (fail) | quiet_step (fail)
        first | go_big_quiet_step (fail) | quiet_step (fail)
        first | go_big_quiet_step (fail) | quiet_step (fail)
        first | go_big_quiet_step (fail) | quiet_step (fail)
        first | go_big_quiet_step (fail) | quiet_step (fail)
        first | go_big_quiet_step (fail) | quiet_step (fail)
        first | go_big_quiet_step (fail) | quiet_step (fail)
        first | go_big_quiet_step (fail) | quiet_step (fail)
        first | go_big_quiet_step (fail) | quiet_step (fail)
        first | go_big_quiet_step (fail) | quiet_step (fail)
        first | go_big_quiet_step (fail) | quiet_step (fail)
        first | go_big_quiet_step (fail) | quiet_step (fail)
        first | go_big_quiet_step (fail) | quiet_step (fail)
        first | go_big_quiet_step (fail) | quiet_step (fail)
        first | go_big_quiet_step (fail) | quiet_step (fail)
        first | go_big_quiet_step (fail) | quiet_step (fail)
        first | go_big_quiet_step (fail) | quiet_step (fail)
        first | go_big_quiet_step (fail) | quiet_step (fail)
        first | go_big_quiet_step (fail) | quiet_step (fail)
        first | go_big_quiet_step (fail) | quiet_step (fail)
        first | go_big_quiet_step (fail) | quiet_step (fail)
        first | go_big_quiet_step (fail) | quiet_step (fail)
        first | go_big_quiet_step (fail) | quiet_step (fail)
        first | go_big_quiet_step (fail) | quiet_step (fail)
        first | go_big_quiet_step (fail) | quiet_step (fail)
        first | go_big_quiet_step (fail) | quiet_step (fail)
        first | go_big_quiet_step (fail) | quiet_step (fail)
        first | go_big_quiet_step (fail) | quiet_step (fail)
        first | go_big_quiet_step (fail) | quiet_step (fail)
        first | go_big_quiet_step (fail) | quiet_step (fail)
        first | go_big_quiet_step (fail) | quiet_step (fail)
        first | go_big_quiet_step (fail) | quiet_step (fail)
        first | go_big_quiet_step (fail) | quiet_step (fail)
        first | go_big_quiet_step (fail) | quiet_step (fail)
        first | go_big_quiet_step (fail) | quiet_step (fail)
        first | go_big_quiet_step (fail) | quiet_step (fail)
        first | go_big_quiet_step (fail) | quiet_step (fail)
        first | go_big_quiet_step (fail) | quiet_step (fail)
        first | go_big_quiet_step (fail) | quiet_step (fail)
        first | go_big_quiet_step (fail) | quiet_step (fail)
        first | go_big_quiet_step (fail) | quiet_step (fail)
        first | go_big_quiet_step (fail) | quiet_step (fail)
        refine wpQuiet_nil ?_
        rintro _ ⟨nq, rfl⟩
        go_wp2
        go_ret
        exact ⟨rfl, d + nq, World.drewN_drewN _ _ _⟩
      · by_cases h2 : N < 1
        · clear hg hb hk hbw hlt
          go_wp2_with fail
          refine wp_region_quiet_lit (by kernel_rfl) (by kernel_rfl) ?_
          first | go_big_quiet_step (fail) | quiet_step (fail)
          first | go_big_quiet_step (fail) | quiet_step (fail)
          first | go_big_quiet_step (fail) | quiet_step (fail)
          first | go_big_quiet_step (fail) | quiet_step (fail)
          first | go_big_quiet_step (fail) | quiet_step (fail)
          first | go_big_quiet_step (fail) | quiet_step (fail)
          first | go_big_quiet_step (fail) | quiet_step (fail)
          first | go_big_quiet_step (fail) | quiet_step (fail)
          first | go_big_quiet_step (fail) | quiet_step (fail)
          first | go_big_quiet_step (fail) | quiet_step (fail)
          first | go_big_quiet_step (fail) | quiet_step (fail)
          first | go_big_quiet_step (fail) | quiet_step (fail)
          first | go_big_quiet_step (fail) | quiet_step (fail)
          first | go_big_quiet_step (fail) | quiet_step (fail)
          first | go_big_quiet_step (fail) | quiet_step (fail)
          first | go_big_quiet_step (fail) | quiet_step (fail)
          first | go_big_quiet_step (fail) | quiet_step (fail)
          first | go_big_quiet_step (fail) | quiet_step (fail)
          first | go_big_quiet_step (fail) | quiet_step (fail)
          first | go_big_quiet_step (fail) | quiet_step (fail)
          first | go_big_quiet_step (fail) | quiet_step (fail)
          first | go_big_quiet_step (fail) | quiet_step (fail)
          first | go_big_quiet_step (fail) | quiet_step (fail)
          first | go_big_quiet_step (fail) | quiet_step (fail)
          first | go_big_quiet_step (fail) | quiet_step (fail)
          first | go_big_quiet_step (fail) | quiet_step (fail)
          first | go_big_quiet_step (fail) | quiet_step (fail)
          first | go_big_quiet_step (fail) | quiet_step (fail)
          first | go_big_quiet_step (fail) | quiet_step (fail)
          first | go_big_quiet_step (fail) | quiet_step (fail)
          first | go_big_quiet_step (fail) | quiet_step (fail)
          first | go_big_quiet_step (fail) | quiet_step (fail)
          first | go_big_quiet_step (fail) | quiet_step (fail)
          first | go_big_quiet_step (fail) | quiet_step (fail)
          first | go_big_quiet_step (fail) | quiet_step (fail)
          first | go_big_quiet_step (fail) | quiet_step (fail)
          first | go_big_quiet_step (fail) | quiet_step (fail)
          first | go_big_quiet_step (fail) | quiet_step (fail)
          first | go_big_quiet_step (fail) | quiet_step (fail)
          first | go_big_quiet_step (fail) | quiet_step (fail)
          first | go_big_quiet_step (fail) | quiet_step (fail)
          first | go_big_quiet_step (fail) | quiet_step (fail)
          first | go_big_quiet_step (fail) | quiet_step (fail)
          first | go_big_quiet_step (fail) | quiet_step (fail)
          refine wpQuiet_nil ?_
          rintro _ ⟨nq, rfl⟩
          go_wp2
          go_ret
          exact ⟨rfl, d + nq, World.drewN_drewN _ _ _⟩
        · have h3 : 8 < N := by
            refine Decidable.byContradiction fun h => hb ⟨fun h => by omega, fun _ => by omega, by omega, by omega⟩
          clear hg hb hk hbw hlt
          go_wp2_with fail
          refine wp_region_quiet_lit (by kernel_rfl) (by kernel_rfl) ?_
          first | go_big_quiet_step (fail) | quiet_step (fail)
          first | go_big_quiet_step (fail) | quiet_step (fail)
          first | go_big_quiet_step (fail) | quiet_step (fail)
          first | go_big_quiet_step (fail) | quiet_step (fail)
          first | go_big_quiet_step (fail) | quiet_step (fail)
          first | go_big_quiet_step (fail) | quiet_step (fail)
          first | go_big_quiet_step (fail) | quiet_step (fail)
          first | go_big_quiet_step (fail) | quiet_step (fail)
          first | go_big_quiet_step (fail) | quiet_step (fail)
          first | go_big_quiet_step (fail) | quiet_step (fail)
          first | go_big_quiet_step (fail) | quiet_step (fail)
          first | go_big_quiet_step (fail) | quiet_step (fail)
          first | go_big_quiet_step (fail) | quiet_step (fail)
          first | go_big_quiet_step (fail) | quiet_step (fail)
          first | go_big_quiet_step (fail) | quiet_step (fail)
          first | go_big_quiet_step (fail) | quiet_step (fail)
          first | go_big_quiet_step (fail) | quiet_step (fail)
          first | go_big_quiet_step (fail) | quiet_step (fail)
          first | go_big_quiet_step (fail) | quiet_step (fail)
          first | go_big_quiet_step (fail) | quiet_step (fail)
          first | go_big_quiet_step (fail) | quiet_step (fail)
          first | go_big_quiet_step (fail) | quiet_step (fail)
          first | go_big_quiet_step (fail) | quiet_step (fail)
          first | go_big_quiet_step (fail) | quiet_step (fail)
          first | go_big_quiet_step (fail) | quiet_step (fail)
          first | go_big_quiet_step (fail) | quiet_step (fail)
          first | go_big_quiet_step (fail) | quiet_step (fail)
          first | go_big_quiet_step (fail) | quiet_step (fail)
          first | go_big_quiet_step (fail) | quiet_step (fail)
          first | go_big_quiet_step (fail) | quiet_step (fail)
          first | go_big_quiet_step (fail) | quiet_step (fail)
          first | go_big_quiet_step (fail) | quiet_step (fail)
          first | go_big_quiet_step (fail) | quiet_step (fail)
          first | go_big_quiet_step (fail) | quiet_step (fail)
          first | go_big_quiet_step (fail) | quiet_step (fail)
          first | go_big_quiet_step (fail) | quiet_step (fail)
          first | go_big_quiet_step (fail) | quiet_step (fail)
          first | go_big_quiet_step (fail) | quiet_step (fail)
          first | go_big_quiet_step (fail) | quiet_step (fail)
          first | go_big_quiet_step (fail) | quiet_step (fail)
          first | go_big_quiet_step (fail) | quiet_step (fail)
          first | go_big_quiet_step (fail) | quiet_step (fail)
          first | go_big_quiet_step (fail) | quiet_step (fail)
          first | go_big_quiet_step (fail) | quiet_step (fail)
          refine wpQuiet_nil ?_
          rintro _ ⟨nq, rfl⟩
          go_wp2
          go_ret
          exact ⟨rfl, d + nq, World.drewN_drewN _ _ _⟩

end Go.Proofs.YtndhkbmgpjjepaaDoor

/- The reference's CheckMap. Own work; no statement. -/
set_option linter.unusedSimpArgs false
set_option linter.unusedVariables false
namespace Go.Proofs.YtndhkbmgpjjepaaDoor
open Go.RowKit Go.Shelf

theorem okFrom_good : ∀ (n k : Nat) (m : MapD), 0 < k → n = m.length - k → k ≤ m.length → okFrom (m.getD (k - 1) (0, 0)).1 (m.drop k) = true → ∀ i, k ≤ i → i < m.length → GoodAt m i
  | 0, k, m, _, h, _, _, i, h1, h2 => by omega
  | n + 1, k, m, h0, h, hk, hok, i, h1, h2 => by
    have hlt : k < m.length := by omega
    rw [okFrom_step hlt] at hok
    simp only [Bool.and_eq_true, decide_eq_true_eq] at hok
    by_cases e : i = k
    · subst e
      rw [← getD_get m i hlt] at hok
      exact ⟨fun h => by omega, fun _ => hok.1.1.1, hok.1.1.2, hok.1.2⟩
    · refine okFrom_good n (k + 1) m (by omega) (by omega) (by omega) ?_ i (by omega) h2
      rw [Nat.add_sub_cancel, getD_get m k hlt]
      exact hok.2
theorem okMap_good {m : MapD} (h : okMap m = true) (k : Nat) (hk : k < m.length) : GoodAt m k := by
  have hp := okMap_pos h
  have hf := okMap_from h
  have hz := okMap_zero h
  have hst := okFrom_step hp 0
  rw [List.drop_zero, hf] at hst
  have hst := hst.symm
  simp only [Bool.and_eq_true, decide_eq_true_eq] at hst
  by_cases e : k = 0
  · subst e
    refine ⟨fun _ => by rw [getD_get m 0 hp]; exact hz, fun h => by omega, ?_, ?_⟩
    · rw [getD_get m 0 hp]; exact hst.1.1.2
    · rw [getD_get m 0 hp]; exact hst.1.2
  · refine okFrom_good (m.length - 1) 1 m (by omega) rfl (by omega) ?_ k (by omega) hk
    rw [Nat.sub_self, getD_get m 0 hp]
    exact hst.2
theorem good_okFrom : ∀ (n k : Nat) (m : MapD), 0 < k → n = m.length - k → k ≤ m.length → (∀ i, k ≤ i → i < m.length → GoodAt m i) → okFrom (m.getD (k - 1) (0, 0)).1 (m.drop k) = true
  | 0, k, m, _, h, hk, _ => by rw [List.drop_of_length_le (by omega)]; rfl
  | n + 1, k, m, h0, h, hk, hg => by
    have hlt : k < m.length := by omega
    have g := hg k (Nat.le_refl _) hlt
    have ih := good_okFrom n (k + 1) m (by omega) (by omega) (by omega) (fun i h1 h2 => hg i (by omega) h2)
    rw [Nat.add_sub_cancel, getD_get m k hlt] at ih
    have g2 := g.2.1 h0
    have g3 := g.2.2
    rw [okFrom_step hlt, ih]
    rw [getD_get m k hlt] at g2 g3
    simp only [Bool.and_eq_true, decide_eq_true_eq, and_true]
    exact ⟨⟨g2, g3.1⟩, g3.2⟩
theorem good_okMap {m : MapD} (h0 : 0 < m.length) (hg : ∀ k, k < m.length → GoodAt m k) : okMap m = true := by
  have g := hg 0 h0
  have ih := good_okFrom (m.length - 1) 1 m (by omega) rfl (by omega) (fun i _ h2 => hg i h2)
  rw [Nat.sub_self] at ih
  have g1 := g.1 rfl
  have g3 := g.2.2
  cases m with
  | nil => simp at h0
  | cons x r =>
    simp only [List.getD_cons_zero, List.drop_succ_cons, List.drop_zero] at ih g1 g3
    simp only [okMap, okFrom_cons, g1, decide_true, Bool.true_and]
    rw [g1] at ih
    simp [ih, g3.1, g3.2]
theorem first_bad (m : MapD) : ∀ n, (∃ k, k < n ∧ ¬ GoodAt m k) → ∃ k, k < n ∧ ¬ GoodAt m k ∧ ∀ i, i < k → GoodAt m i
  | 0, ⟨k, h, _⟩ => by omega
  | n + 1, ⟨k, h, hb⟩ => by
    by_cases he : ∃ k, k < n ∧ ¬ GoodAt m k
    · obtain ⟨k', h1, h2, h3⟩ := first_bad m n he
      exact ⟨k', by omega, h2, h3⟩
    · refine ⟨k, h, hb, fun i hi => Classical.byContradiction fun hx => he ⟨i, by omega, hx⟩⟩

set_option maxHeartbeats 1000000 in
theorem refCheckMap_calls (v : Value) (m : MapD) (w : World) (hv : IsMap w v m) (hl : m.length ≤ 1099511627776) :
    Calls Tryd.prog 15 #[v] w fun e w' => e = .returned (.int .i64 (checkM m)) ∧ ∃ d, w' = w.drewN d := by
  by_cases h0 : m.length = 0
  · obtain ⟨a, cap, rfl⟩ := hv.slice
    obtain rfl : m = [] := List.eq_nil_of_length_eq_zero h0
    clear hv
    go_enter Tryd.func15, Tryd.ntmps15
    go_wp2
    go_ret
    exact ⟨rfl, 0, rfl⟩
  · by_cases hok : okMap m = true
    · rw [checkM, if_pos hok]
      exact refCheckMap_good v m w hv hl (by omega) (fun k hk => okMap_good hok k hk)
    · rw [checkM, if_neg hok]
      have hex : ∃ k, k < m.length ∧ ¬ GoodAt m k := Classical.byContradiction fun h => hok (good_okMap (by omega) fun k hk => Classical.byContradiction fun hx => h ⟨k, hk, hx⟩)
      obtain ⟨k, hk, hb, hg⟩ := first_bad m m.length hex
      cases k with
      | zero => exact refCheckMap_first v m w hv hl (by omega) hb
      | succ j => exact refCheckMap_later v m w hv hl j hk hg hb

end Go.Proofs.YtndhkbmgpjjepaaDoor

/- The reference's FindPos. Own work; no statement. -/
set_option linter.unusedSimpArgs false
set_option linter.unusedVariables false
namespace Go.Proofs.YtndhkbmgpjjepaaDoor
open Go.RowKit Go.Shelf

set_option maxHeartbeats 2000000 in
set_option maxRecDepth 100000 in
theorem refFindPos_calls (v : Value) (m : MapD) (pos : Int) (w : World) (hv : IsMap w v m) (hl : m.length ≤ 1099511627776) (hpos : pos ≤ 9223372036854775807) :
    Calls Tryd.prog 11 #[v, .int .i64 pos] w fun e w' => e = .returned (.tuple #[.int .i64 (findM m pos).1, .int .i64 (findM m pos).2.1, .int .i64 (findM m pos).2.2]) ∧ Below w.heap.size w w' := by
  have C := hide (refCheckMap_calls v m w hv hl)
  have Hv := hide hv
  obtain ⟨a, cap, rfl⟩ := hv.slice
  clear hv
  obtain ⟨r, hr⟩ : ∃ r, findM m pos = r := ⟨_, rfl⟩
  rw [hr]
  by_cases h0 : pos < 0
  · obtain rfl : r = (0, 0, 1) := by rw [← hr, findM, if_neg (by omega)]
    go_enter Tryd.func11, Tryd.ntmps11
    go_wp2
    go_ret3
    exact ⟨rfl, Below.refl _ _⟩
  · by_cases hok : okMap m = true
    · have hc0 : checkM m = 0 := by rw [checkM, if_pos hok]
      rw [hc0] at C
      have he := epochM_pos (pos := pos) hok (by omega) m.length (okMap_pos hok)
      have hel := epochM_le m pos m.length
      have hfr := epochM_from (m := m) (pos := pos) m.length he
      have h00 := okMap_pos hok
      rw [findM, if_pos ⟨by omega, hok⟩] at hr
      have HN := hide (fun k hk => okMap_get hok k hk)
      have HP := hide (fun n hn => epochM_pos (pos := pos) hok (by omega) n hn)
      replace hr := hide hr
      go_enter Tryd.func11, Tryd.ntmps11
      go_wp2_with (go_at_call 15; refine C.out.mono ?_; rintro e w1 ⟨rfl, d, rfl⟩)
      have hB1 : Below w.heap.size w (w.drewN d) := below_draws d
      go_loop [7, 8] (fun kv iv => ∃ k i : Nat, kv = .int .i64 (k : Int) ∧ iv = .int .i64 (i : Int) ∧ i ≤ m.length ∧ k = epochM m pos i - 1) (fun _ iv => m.length - (intOf iv).toNat)
      case atStart => exact ⟨0, 0, rfl, rfl, Nat.zero_le _, rfl⟩
      case round =>
        obtain ⟨k, i, rfl, rfl, hi, hki⟩ := hrel
        by_cases hlt : i < m.length
        · have hltI : (i : Int) < (m.length : Int) := by omega
          obtain ⟨-, b, o, rfl, hbw, c0, c1⟩ := Hv.out.at i hlt
          have d0 : (w.drewN d).cell? ⟨b, o + i * 2, none⟩ = _ := c0
          have hst : epochM m pos (i + 1) = if (m.getD i (0, 0)).1 ≤ pos then i + 1 else epochM m pos i := rfl
          generalize (m.getD i (0, 0)).1 = F at *
          replace hst := hide hst
          replace hki := hide hki
          by_cases hF : F ≤ pos
          · have hF' : ¬ pos < F := by omega
            go_wp2
            exact ⟨⟨i, i + 1, rfl, by go_num, by omega, by rw [hst.out, if_pos hF]; rfl⟩, by simp [intOf]; omega⟩
          · have hF' : pos < F := by omega
            go_wp2
            exact ⟨⟨k, i + 1, rfl, by go_num, by omega, by rw [hst.out, if_neg hF]; exact hki.out⟩, by simp [intOf]; omega⟩
        · have hltI : ¬ (i : Int) < (m.length : Int) := by omega
          obtain rfl : i = m.length := by omega
          have hkm : k < m.length := by omega
          obtain ⟨-, b, o, rfl, hbw, c0, c1⟩ := Hv.out.at k hkm
          have d0 : (w.drewN d).cell? ⟨b, o + k * 2, none⟩ = _ := c0
          have d1 : (w.drewN d).cell? ⟨b, o + k * 2 + 1, none⟩ = _ := c1
          have hN := HN.out k hkm
          rw [← hki] at hfr
          rw [← getD_get m k hkm] at hN
          have hr2 := hr.out
          rw [← hki] at hr2
          have hke : epochM m pos m.length = k + 1 := by omega
          rw [hke] at hr2
          clear hki hke he hel
          generalize m.getD k (0, 0) = x at *
          obtain ⟨F, N⟩ := x
          dsimp only at *
          subst hr2
          have hN0 : ¬ N = 0 := by omega
          have hN0' : (N == 0) = false := by rw [beq_eq_false_iff_ne]; exact hN0
          go_wp2
          go_region
          all_goals
            go_wp2
            go_ret3
            exact ⟨by simp, hB1.drew⟩
    · have hc0 : checkM m = 1 := by rw [checkM, if_neg hok]
      rw [hc0] at C
      obtain rfl : r = (0, 0, 1) := by rw [← hr, findM, if_neg (fun h => hok h.2)]
      go_enter Tryd.func11, Tryd.ntmps11
      go_wp2_with (go_at_call 15; refine C.out.mono ?_; rintro e w1 ⟨rfl, d, rfl⟩)
      go_ret3
      exact ⟨rfl, below_draws d⟩

end Go.Proofs.YtndhkbmgpjjepaaDoor

/- The walks of the reference's digits and Number. Own work; no statement. -/
set_option linter.unusedSimpArgs false
set_option linter.unusedVariables false
namespace Go.Proofs.YtndhkbmgpjjepaaDoor
open Go.RowKit Go.Shelf

theorem not_empty {s : ByteArray} (h : 0 < s.size) : s.toList.isEmpty = false := by
  rw [Lib.toList_data]
  cases e : s.data.toList with
  | nil => have h0 : ¬ s.size = 0 := by omega
           have := Lib.size_eq s; rw [e] at this; exact absurd this (by simpa using h0)
  | cons _ _ => rfl

def numB (l : List UInt8) : Bool := decide (valTo l 0 ≤ 2147483647)
def numV (l : List UInt8) : Int := if valTo l 0 ≤ 2147483647 then valTo l 0 else 0

set_option maxRecDepth 20000 in
set_option maxHeartbeats 1000000 in
theorem refNumber_calls (s : ByteArray) (w : World) (hs : s.size ≤ 1099511627776) (hok : decOk s.data.toList = true) :
    Calls Tryd.prog 30 #[.string s] w fun e w' => e = .returned (.tuple #[.int .i64 (numV s.data.toList), .bool (numB s.data.toList)]) ∧ w' = w := by
  obtain ⟨n, b, hn, hb⟩ : ∃ n b, numV s.data.toList = n ∧ numB s.data.toList = b := ⟨_, _, rfl, rfl⟩
  rw [hn, hb]
  have Hn := hide hn
  have Hb := hide hb
  clear hn hb
  obtain ⟨hp1, hp2, hp3⟩ := decOk_parts hok
  have h0' : 0 < s.size := by rw [Lib.size_eq]; exact List.length_pos_iff.2 hp1
  have hne := not_empty h0'
  have h0I : (0 : Int) < (s.size : Int) := by omega
  have hcase : (((s[0].toNat : Nat) : Int) == 48) = true ∧ ¬ (1 : Int) < (s.size : Int) ∨ (((s[0].toNat : Nat) : Int) == 48) = false := by
    by_cases e : s[0] = 48
    · left
      refine ⟨by rw [e]; rfl, fun h => hp2 (by rw [← Lib.size_eq]; omega) ?_⟩
      rw [List.head?_eq_getElem?, List.getElem?_eq_getElem (by rw [← Lib.size_eq]; exact h0')]
      exact congrArg some e
    · right
      rw [beq_eq_false_iff_ne]
      intro e'
      exact e (UInt8.toNat_inj.1 (by simp; omega))
  have hdig : ∀ k (h : k < s.size), 48 ≤ (s[k].toNat : Int) ∧ (s[k].toNat : Int) ≤ 57 := by
    intro k h
    have hm : s[k] ∈ s.data.toList := by
      have : s[k] = s.data.toList[k]'(by rw [← Lib.size_eq]; exact h) := rfl
      rw [this]
      exact List.getElem_mem _
    exact dig_range (hp3 _ hm)
  have htk : ∀ k, (∀ c ∈ s.data.toList.take k, digB c = true) := fun k c hc => hp3 c (List.mem_of_mem_take hc)
  have hmono : ∀ k, valTo (s.data.toList.take k) 0 ≤ valTo s.data.toList 0 := by
    intro k
    have e : valTo s.data.toList 0 = valTo (s.data.toList.drop k) (valTo (s.data.toList.take k) 0) := by rw [← valTo_app, List.take_append_drop]
    rw [e]
    exact valTo_ge _ _ (fun c hc => hp3 c (List.mem_of_mem_drop hc)) (valTo_ge _ 0 (htk k) (Int.le_refl _))
  replace hdig := hide hdig
  replace htk := hide htk
  replace hmono := hide hmono
  replace hp3 := hide hp3
  clear hp1 hp2 hok
  rcases hcase with ⟨hc1, hc2⟩ | hc1
  all_goals
    go_enter Tryd.func30, Tryd.ntmps30
    go_wp2_with fail
    go_loop [4, 5] (fun x i => ∃ k : Nat, k ≤ s.size ∧ i = .int .i64 (k : Int) ∧ x = .int .i64 (valTo (s.data.toList.take k) 0) ∧ valTo (s.data.toList.take k) 0 ≤ 2147483647) (fun _ i => s.size - (intOf i).toNat)
    case atStart => exact ⟨0, Nat.zero_le _, rfl, rfl, by simp [valTo]⟩
    case round =>
      obtain ⟨k, hk, rfl, rfl, hle⟩ := hrel
      have hge := valTo_ge _ 0 (htk.out k) (Int.le_refl _)
      by_cases hkl : k < s.size
      · have hlt : (k : Int) < (s.size : Int) := by omega
        have hsn := valTo_snoc (s.data.toList.take k) s[k] 0
        rw [← take_snoc_byte s k hkl] at hsn
        obtain ⟨hd1, hd2⟩ := hdig.out k hkl
        have hd3 : ¬ ((s[k].toNat : Nat) : Int) < 48 := by omega
        have hd4 : ¬ 57 < ((s[k].toNat : Nat) : Int) := by omega
        have hmk := hmono.out (k + 1)
        obtain ⟨x1, hx1⟩ : ∃ x1, valTo (s.data.toList.take (k + 1)) 0 = x1 := ⟨_, rfl⟩
        rw [hx1] at hsn hmk
        have Hx1 := hide hx1
        clear hx1
        generalize valTo (s.data.toList.take k) 0 = x at *
        by_cases hbig : 2147483647 < 10 * x + ((s[k].toNat : Int) - 48)
        · have hbb : ¬ valTo s.data.toList 0 ≤ 2147483647 := by omega
          have e1 : n = 0 := by rw [← Hn.out]; unfold numV; rw [if_neg hbb]
          have e2 : b = false := by rw [← Hb.out]; exact decide_eq_false hbb
          subst e1 e2
          clear hsn hmk hbb
          go_wp2_with fail
          go_ret2
          exact ⟨rfl, rfl⟩
        · replace hsn := hide hsn
          clear hmk
          go_wp2_with fail
          exact ⟨⟨k + 1, by omega, by go_num, by rw [Hx1.out, hsn.out], by rw [Hx1.out, hsn.out]; omega⟩, by simp [intOf]; omega⟩
      · have e : s.data.toList.take k = s.data.toList := List.take_of_length_le (by rw [← Lib.size_eq]; omega)
        rw [e] at hle hge ⊢
        clear e
        have e1 : n = valTo s.data.toList 0 := by rw [← Hn.out]; unfold numV; rw [if_pos hle]
        have e2 : b = true := by rw [← Hb.out]; exact decide_eq_true hle
        subst e1 e2
        go_wp2_with fail
        go_ret2
        exact ⟨rfl, rfl⟩

end Go.Proofs.YtndhkbmgpjjepaaDoor

/- The reference's Number at any text, and find. Own work; no statement. -/
set_option linter.unusedSimpArgs false
set_option linter.unusedVariables false
namespace Go.Proofs.YtndhkbmgpjjepaaDoor
open Go.RowKit

theorem numL_val (l : List UInt8) : numL l = if decOk l = true ∧ valTo l 0 ≤ 2147483647 then (valTo l 0, true) else (0, false) := by
  unfold numL
  cases h : decOk l with
  | false => simp
  | true =>
    have hd := decToM_val (m := 2147483647) (by omega) l 0 (decOk_parts h).2.2 (Int.le_refl _)
    rw [show min (0 : Int) (2147483647 + 1) = 0 by omega] at hd
    rw [hd]
    by_cases hv : valTo l 0 ≤ 2147483647
    · rw [if_pos ⟨rfl, by omega⟩, if_pos ⟨rfl, hv⟩, show min (valTo l 0) (2147483647 + 1) = valTo l 0 by omega]
    · rw [if_neg (by omega), if_neg (by omega)]

theorem numL_bad {l : List UInt8} (h : decOk l = false) : numL l = (0, false) := by
  rw [numL_val, h]
  simp

set_option maxRecDepth 20000 in
set_option maxHeartbeats 2000000 in
theorem refNumberAny_calls (s : ByteArray) (w : World) (hs : s.size ≤ 1099511627776) :
    Calls Tryd.prog 30 #[.string s] w fun e w' => e = .returned (.tuple #[.int .i64 (numL s.data.toList).1, .bool (numL s.data.toList).2]) ∧ w' = w := by
  cases hok : decOk s.data.toList with
  | true =>
    have h := refNumber_calls s w hs hok
    have e : (numV s.data.toList, numB s.data.toList) = numL s.data.toList := by
      rw [numL_val, hok]
      unfold numV numB
      by_cases hv : valTo s.data.toList 0 ≤ 2147483647
      · rw [if_pos hv, if_pos ⟨rfl, hv⟩, decide_eq_true hv]
      · rw [if_neg hv, if_neg (by omega), decide_eq_false hv]
    rw [← e]
    exact h
  | false =>
    rw [numL_bad hok]
    dsimp only
    by_cases h0 : s.size = 0
    · have e : s = ⟨#[]⟩ := ByteArray.ext (Array.eq_empty_of_size_eq_zero h0)
      subst e
      clear hok
      go_enter Tryd.func30, Tryd.ntmps30
      go_wp2_with fail
      go_ret2
      exact ⟨rfl, rfl⟩
    · have h0' : 0 < s.size := by omega
      have hne := not_empty h0'
      have h0I : (0 : Int) < (s.size : Int) := by omega
      by_cases h48 : (((s[0].toNat : Nat) : Int) == 48) = true
      · by_cases h1 : (1 : Int) < (s.size : Int)
        · clear hok h0
          go_enter Tryd.func30, Tryd.ntmps30
          go_wp2_with fail
          go_ret2
          exact ⟨rfl, rfl⟩
        · exfalso
          have e0 : s[0] = 48 := UInt8.toNat_inj.1 (by simp at h48; simp; omega)
          have hl : s.data.toList = [48] := by
            have hlen : s.data.toList.length = 1 := by rw [← Lib.size_eq]; omega
            match hh : s.data.toList, hlen with
            | [x], _ =>
              have : s[0] = s.data.toList[0]'(by rw [hh]; simp) := rfl
              rw [e0] at this
              simp [hh] at this
              rw [this]
          rw [hl] at hok
          revert hok
          decide
      · have h48' : (((s[0].toNat : Nat) : Int) == 48) = false := by simpa using h48
        have hnz : ¬ (1 < s.size ∧ s[0] = 48) := fun h => by rw [h.2] at h48; exact h48 rfl
        have Hnz := hide hnz
        have Hok := hide hok
        clear h48 hnz hok h0
        go_enter Tryd.func30, Tryd.ntmps30
        go_wp2_with fail
        go_loop [4, 5] (fun x i => ∃ k : Nat, k ≤ s.size ∧ i = .int .i64 (k : Int) ∧ x = .int .i64 (valTo (s.data.toList.take k) 0) ∧ valTo (s.data.toList.take k) 0 ≤ 2147483647 ∧ ∀ c ∈ s.data.toList.take k, digB c = true) (fun _ i => s.size - (intOf i).toNat)
        case atStart => exact ⟨0, Nat.zero_le _, rfl, rfl, by simp [valTo], by simp⟩
        case round =>
          obtain ⟨k, hk, rfl, rfl, hle, hall⟩ := hrel
          have hge := valTo_ge _ 0 hall (Int.le_refl _)
          replace hall := hide hall
          by_cases hkl : k < s.size
          · have hlt : (k : Int) < (s.size : Int) := by omega
            have hsn := valTo_snoc (s.data.toList.take k) s[k] 0
            rw [← take_snoc_byte s k hkl] at hsn
            replace hsn := hide hsn
            generalize valTo (s.data.toList.take k) 0 = x at *
            cases hd : digB s[k] with
            | true =>
              have hall2 := hide (all_snoc s k hkl hall.out hd)
              have hd' := dig_range hd
              have hd3 : ¬ ((s[k].toNat : Nat) : Int) < 48 := by omega
              have hd4 : ¬ 57 < ((s[k].toNat : Nat) : Int) := by omega
              clear hd
              obtain ⟨hda, hdb⟩ := hd'
              by_cases hbig : 2147483647 < 10 * x + ((s[k].toNat : Int) - 48)
              · go_wp2_with fail
                go_ret2
                exact ⟨rfl, rfl⟩
              · go_wp2_with fail
                exact ⟨⟨k + 1, by omega, by go_num, by rw [hsn.out], by rw [hsn.out]; omega, hall2.out⟩, by simp [intOf]; omega⟩
            | false =>
              unfold digB at hd
              simp only [decide_eq_false_iff_not] at hd
              by_cases hd1 : ((s[k].toNat : Nat) : Int) < 48
              · clear hd
                go_wp2_with fail
                go_ret2
                exact ⟨rfl, rfl⟩
              · have hd2 : 57 < ((s[k].toNat : Nat) : Int) := by omega
                clear hd
                go_wp2_with fail
                go_ret2
                exact ⟨rfl, rfl⟩
          · exfalso
            have e : s.data.toList.take k = s.data.toList := List.take_of_length_le (by rw [← Lib.size_eq]; omega)
            have := decOk_yes s h0' Hnz.out (by have := hall.out; rwa [e] at this)
            rw [Hok.out] at this
            cases this

/-- Where a byte stands first, from a place on. -/
def findL (l : List UInt8) (c : UInt8) (i : Nat) : Int := if Lib.indexByte (l.drop i) c = -1 then -1 else i + Lib.indexByte (l.drop i) c

theorem index_none : ∀ (l : List UInt8) (c : UInt8), (∀ x ∈ l, x ≠ c) → Lib.indexByte l c = -1
  | [], _, _ => rfl
  | x :: l, c, h => by
    have hx : (x == c) = false := by simpa using h x (by simp)
    simp [Lib.indexByte, hx, index_none l c (fun y hy => h y (by simp [hy]))]

theorem find_hit (s : ByteArray) (c : UInt8) (i k : Nat) (hi : i ≤ k) (hk : k < s.size) (h : ∀ j (hj : j < s.size), i ≤ j → j < k → s[j] ≠ c) (hc : s[k] = c) : findL s.data.toList c i = k := by
  have hl : k < s.data.toList.length := by rw [← Lib.size_eq]; exact hk
  have e : s.data.toList.drop i = ((s.data.toList.drop i).take (k - i)) ++ c :: s.data.toList.drop (k + 1) := by
    have h1 : s.data.toList.drop k = c :: s.data.toList.drop (k + 1) := by
      rw [List.drop_eq_getElem_cons hl]
      congr 1
    rw [← h1]
    conv => lhs; rw [← List.take_append_drop (k - i) (s.data.toList.drop i)]
    rw [List.drop_drop, show i + (k - i) = k by omega]
  have hlen : ((s.data.toList.drop i).take (k - i)).length = k - i := by simp; omega
  have := index_at ((s.data.toList.drop i).take (k - i)) (s.data.toList.drop (k + 1)) c (by
    intro x hx
    obtain ⟨j, hj, rfl⟩ := List.mem_iff_getElem.1 hx
    rw [hlen] at hj
    have := h (i + j) (by omega) (by omega) (by omega)
    simp
    exact this)
  rw [← e, hlen] at this
  unfold findL
  rw [this, if_neg (by omega)]
  omega

theorem find_miss (s : ByteArray) (c : UInt8) (i : Nat) (h : ∀ j (hj : j < s.size), i ≤ j → s[j] ≠ c) : findL s.data.toList c i = -1 := by
  unfold findL
  rw [if_pos]
  apply index_none
  intro x hx
  obtain ⟨j, hj, rfl⟩ := List.mem_iff_getElem.1 hx
  have hj' : i + j < s.size := by rw [Lib.size_eq]; simp at hj; simp; omega
  have := h (i + j) hj' (by omega)
  simp
  exact this

set_option maxHeartbeats 1000000 in
theorem refFind_calls (s : ByteArray) (c : UInt8) (i : Nat) (w : World) (hs : s.size ≤ 1099511627776) (hi : i ≤ 1099511627776) :
    Calls Tryd.prog 29 #[.string s, .int .u8 (c.toNat : Int), .int .i64 (i : Int)] w fun e w' => e = .returned (.int .i64 (findL s.data.toList c i)) ∧ w' = w := by
  obtain ⟨r, hr⟩ : ∃ r, findL s.data.toList c i = r := ⟨_, rfl⟩
  rw [hr]
  have Hr := hide hr
  clear hr
  go_enter Tryd.func29, Tryd.ntmps29
  go_wp2_with fail
  go_loop [7] (fun x => ∃ k : Nat, i ≤ k ∧ (k ≤ s.size ∨ k = i) ∧ x = .int .i64 (k : Int) ∧ ∀ j (hj : j < s.size), i ≤ j → j < k → s[j] ≠ c) (fun x => s.size - (intOf x).toNat)
  case atStart => exact ⟨i, Nat.le_refl _, .inr rfl, rfl, fun j _ h1 h2 => by omega⟩
  case round =>
    obtain ⟨k, hik, hks, rfl, hall⟩ := hrel
    replace hall := hide hall
    by_cases hkl : k < s.size
    · have hlt : (k : Int) < (s.size : Int) := by omega
      by_cases hc : s[k] = c
      · have e : r = k := by rw [← Hr.out]; exact find_hit s c i k hik hkl hall.out hc
        subst e
        have hc' : (((s[k].toNat : Nat) : Int) == ((c.toNat : Nat) : Int)) = true := by rw [hc]; simp
        clear hc hks
        go_wp2_with fail
        go_ret
        exact ⟨rfl, rfl⟩
      · have hc' : (((s[k].toNat : Nat) : Int) == ((c.toNat : Nat) : Int)) = false := by
          rw [beq_eq_false_iff_ne]
          intro e
          exact hc (UInt8.toNat_inj.1 (by omega))
        replace hc := hide hc
        clear hks
        go_wp2_with fail
        refine ⟨⟨k + 1, by omega, .inl (by omega), by go_num, fun j hj h1 h2 => ?_⟩, by simp [intOf]; omega⟩
        by_cases e : j = k
        · subst e
          exact hc.out
        · exact hall.out j hj h1 (by omega)
    · have e : r = -1 := by rw [← Hr.out]; exact find_miss s c i (fun j hj h1 => hall.out j hj h1 (by omega))
      subst e
      have hlt : ¬ (k : Int) < (s.size : Int) := by omega
      clear hkl hks
      go_wp2_with fail
      go_ret
      exact ⟨rfl, rfl⟩

end Go.Proofs.YtndhkbmgpjjepaaDoor

/- The walks of the reference's Get, Covers, SameVec, CheckVec, Join, Meet. Own work; no statement. -/
set_option linter.unusedSimpArgs false
set_option linter.unusedVariables false
namespace Go.Proofs.YtndhkbmgpjjepaaDoor
open Go.RowKit
theorem siteJoin_take (a b : List Int) (k : Nat) (h : k < max a.length b.length) : (bySiteL max a b).take (k + 1) = (bySiteL max a b).take k ++ [max (geti a k) (geti b k)] := by
  rw [take_snoc_getD _ k (by rw [bySiteL_length]; exact h), site_get (by decide), geti_nat, geti_nat]

theorem siteMeet_take (a b : List Int) (k : Nat) (h : k < max a.length b.length) : (bySiteL min a b).take (k + 1) = (bySiteL min a b).take k ++ [min (geti a k) (geti b k)] := by
  rw [take_snoc_getD _ k (by rw [bySiteL_length]; exact h), site_get (by decide), geti_nat, geti_nat]

end Go.Proofs.YtndhkbmgpjjepaaDoor

/- The walks of the reference's Decimal, VecText, With. Own work; no statement. -/
set_option linter.unusedSimpArgs false
set_option linter.unusedVariables false
namespace Go.Proofs.YtndhkbmgpjjepaaDoor
open Go.RowKit Go.Shelf

def headD (u : Nat) : List UInt8 := if u < 10 then [] else Lib.decDigits (u / 10)
theorem digits_head (u : Nat) : Lib.decDigits u = headD u ++ [UInt8.ofNat (48 + u % 10)] := by
  rw [Lib.decDigits]
  unfold headD
  split
  · rename_i h
    rw [Nat.mod_eq_of_lt h]; rfl
  · rfl
theorem cons_bytes (b : UInt8) (S : List UInt8) : (⟨#[b]⟩ : ByteArray) ++ ⟨S.toArray⟩ = ⟨(b :: S).toArray⟩ := by
  apply ByteArray.ext
  simp [ByteArray.data_append]
theorem conv_one (w : World) (b : UInt8) (c : Int) (hc : (b.toNat : Int) = c) : (convert 57 9 (.slice (some ⟨w.heap.size, 0, none⟩) 1 1)).run Tryd.prog (w.alloc (.cells #[.int .u8 c] 5)) = .ok (.string ⟨#[b]⟩) (w.alloc (.cells #[.int .u8 c] 5)) := by
  subst hc
  have h : (w.alloc (.cells #[.int .u8 (b.toNat : Int)] 5)).ownsRow 0 5 1 (.slice (some ⟨w.heap.size, 0, none⟩) 1 1) 1 (Lib.byteCells [b]) := World.ownsRow_lit _ #[.int .u8 (b.toNat : Int)] 1 (Nat.zero_le _) (by unfold maxLen; omega) rfl
  exact conv_row h Tryd.underlying57 Tryd.underlying5 Tryd.underlying9

set_option maxRecDepth 100000 in
set_option maxHeartbeats 1000000 in
theorem refDecNat_calls (u : Nat) (w : World) (hu : (u : Int) ≤ 9223372036854775807) :
    Calls Tryd.prog 26 #[.int .i64 (u : Int)] w fun e w' => e = .returned (.string ⟨(Lib.decDigits u).toArray⟩) ∧ Below w.heap.size w w' := by
  have hu0 : ¬ (u : Int) < 0 := by omega
  have hd0 := hide (digits_head u)
  obtain ⟨b0, hb0⟩ : ∃ b, UInt8.ofNat (48 + u % 10) = b := ⟨_, rfl⟩
  have hc0 := fun w => conv_one w b0 (48 + (u : Int) % 10) (by rw [← hb0, digit_val _ (by omega)]; omega)
  rw [hb0] at hd0
  clear hb0
  go_enter Tryd.func26, Tryd.ntmps26
  go_wp2_with fail
  clear hc0
  go_loopw [0, 3] (fun nv s wr => ∃ (m : Nat) (S : List UInt8), nv = .int .i64 (m : Int) ∧ s = .string ⟨S.toArray⟩ ∧ m ≤ u ∧ S.length + m ≤ u + 1 ∧ Lib.decDigits u = headD m ++ S ∧ Below w.heap.size w wr) (fun nv _ _ => (intOf nv).toNat)
  case atStart => exact ⟨u, [b0], rfl, rfl, Nat.le_refl _, by simp; omega, hd0.out, alloc_below _ _⟩
  case round =>
    obtain ⟨m, S, rfl, rfl, hmu, hsl, hS, hB⟩ := hrel
    have hmI : (m : Int) ≤ 9223372036854775807 := by omega
    by_cases hm : 10 ≤ (m : Int)
    · have hd1 := digits_head (m / 10)
      obtain ⟨b1, hb1⟩ : ∃ b, UInt8.ofNat (48 + m / 10 % 10) = b := ⟨_, rfl⟩
      have hc1 := fun w => conv_one w b1 (48 + (m : Int) / 10 % 10) (by rw [← hb1, digit_val _ (by omega)]; omega)
      rw [hb1] at hd1
      clear hb1
      have hS2 : Lib.decDigits u = headD (m / 10) ++ (b1 :: S) := by
        rw [hS, headD, if_neg (by omega), hd1, List.append_assoc]; rfl
      replace hS2 := hide hS2
      clear hd1 hS
      go_wp2_with fail
      refine ⟨⟨m / 10, b1 :: S, by simp, by rw [cons_bytes], by omega, by simp; omega, hS2.out, hB.alloc hB.size _⟩, by simp [intOf]; omega⟩
    · have e : headD m = [] := by unfold headD; rw [if_pos (by omega)]
      rw [e, List.nil_append] at hS
      replace hS := hide hS
      clear e
      go_wp2_with fail
      go_ret
      exact ⟨by rw [hS.out]; rfl, hB⟩

def lenOf' : Value → Nat
  | .slice _ n _ => n
  | _ => 0
theorem stretchL_succ (l : List Int) (k : Nat) (h : l.length ≤ k) : stretchL l (k + 1) = stretchL l k ++ [0] := by
  unfold stretchL
  rw [show k + 1 - l.length = (k - l.length) + 1 by omega, List.replicate_succ', List.append_assoc]

end Go.Proofs.YtndhkbmgpjjepaaDoor

/- The walks of the reference's Decimal of whatever number, and VecText. Own work; no statement. -/
set_option linter.unusedSimpArgs false
set_option linter.unusedVariables false
namespace Go.Proofs.YtndhkbmgpjjepaaDoor
open Go.RowKit Go.Shelf

theorem least_text : Lib.itoa (-9223372036854775808) = [45, 57, 50, 50, 51, 51, 55, 50, 48, 51, 54, 56, 53, 52, 55, 55, 53, 56, 48, 56] := by
  unfold Lib.itoa
  rw [if_pos (by decide)]
  simp [Lib.decDigits]

set_option maxRecDepth 100000 in
set_option maxHeartbeats 1000000 in
theorem refDecimal_calls (n : Int) (w : World) (h0 : -9223372036854775808 ≤ n) (h1 : n ≤ 9223372036854775807) :
    Calls Tryd.prog 26 #[.int .i64 n] w fun e w' => e = .returned (.string ⟨(Lib.itoa n).toArray⟩) ∧ Below w.heap.size w w' := by
  by_cases hn : n < 0
  · by_cases hm : n = -9223372036854775808
    · subst hm
      have hl := hide least_text
      go_enter Tryd.func26, Tryd.ntmps26
      go_wp2_with fail
      go_ret
      exact ⟨by rw [hl.out]; rfl, Below.refl _ _⟩
    · have hm' : (n == -9223372036854775808) = false := by simp [hm]
      obtain ⟨u, hu⟩ : ∃ u : Nat, -n = (u : Int) := ⟨(-n).toNat, by omega⟩
      have e : Lib.itoa n = 45 :: Lib.decDigits u := by rw [show n = -(u : Int) by omega]; exact Lib.itoa_neg u (by omega)
      replace e := hide e
      have hu1 : (u : Int) ≤ 9223372036854775807 := by omega
      have hc := hide (refDecNat_calls u w hu1)
      have hu2 : 0 - n = (u : Int) := by omega
      replace hm := hide hm
      go_enter Tryd.func26, Tryd.ntmps26
      go_wp2_with fail
      refine hc.out.mono ?_
      rintro e w1 ⟨rfl, hB⟩
      have hX := Lib.itoa_length_le (u : Int) (by omega) hu1
      rw [Lib.itoa_nonneg] at hX
      generalize Lib.decDigits u = L at *
      go_wp2_with fail
      go_ret
      exact ⟨by rw [e.out, ← cons_bytes]; rfl, hB⟩
  · obtain ⟨u, rfl⟩ := Int.eq_ofNat_of_zero_le (show 0 ≤ n by omega)
    rw [Lib.itoa_nonneg]
    exact refDecNat_calls u w h1

end Go.Proofs.YtndhkbmgpjjepaaDoor
