/- The reference's ParseRec. Own work; no statement. -/
import Derived.Test.YthpahkcncjieiaaDoorRW3
import Derived.Test.YthpahkcncjieiaaDoorRefF
import Derived.Test.YthpahkcncjieiaaDoorRefS
set_option linter.unusedSimpArgs false
set_option linter.unusedVariables false
namespace Go.Proofs.YthpahkcncjieiaaDoor
open Go.RowKit

theorem zero_rec (w : World) : IsRec w (.agg #[.int .i64 0, .int .i64 0, .slice none 0 0, .string ⟨#[]⟩, .string ⟨#[]⟩]) zeroR := (zero_own w.heap.size w).isRec

set_option maxRecDepth 100000 in
set_option maxHeartbeats 2000000 in
theorem refParseRec_none (s : ByteArray) (w : World) (hs : s.size ≤ 1048576) (h : parseR s.data.toList = (zeroR, 2))
    (hh : findL s.data.toList 58 0 = -1 ∨ ∃ a : Nat, findL s.data.toList 58 0 = a ∧ (findL s.data.toList 32 a = -1 ∨ ∃ b : Nat, findL s.data.toList 32 a = b ∧ (¬ s.data.toList[b + 1]? = some 91 ∨ (s.data.toList[b + 1]? = some 91 ∧ (findL s.data.toList 93 b = -1 ∨ ∃ c : Nat, findL s.data.toList 93 b = c ∧ (¬ s.data.toList[c + 1]? = some 32 ∨ (s.data.toList[c + 1]? = some 32 ∧ findL s.data.toList 61 c = -1))))))) :
    Calls Tryd.prog 11 #[.string s] w fun e w' => ∃ v, e = .returned (.tuple #[v, .int .i64 (parseR s.data.toList).2]) ∧ IsRec w' v (parseR s.data.toList).1 ∧ Below w.heap.size w w' := by
  rw [h]
  clear h
  have z0 : (w.alloc (.cells #[.int .i64 0, .int .i64 0, .slice none 0 0, .string ⟨#[]⟩, .string ⟨#[]⟩] 33)).heap[w.heap.size]? = some (.cells #[.int .i64 0, .int .i64 0, .slice none 0 0, .string ⟨#[]⟩, .string ⟨#[]⟩] 33 (0, 0)) := World.alloc_heap_new w _
  have hB := box_below w (.cells #[.int .i64 0, .int .i64 0, .slice none 0 0, .string ⟨#[]⟩, .string ⟨#[]⟩] 33)
  generalize hW0 : w.alloc (.cells #[.int .i64 0, .int .i64 0, .slice none 0 0, .string ⟨#[]⟩, .string ⟨#[]⟩] 33) = W0 at *
  have HW := hide hW0
  have d0 := cell_at z0 0
  have d1 := cell_at z0 1
  have d2 := cell_at z0 2
  have d3 := cell_at z0 3
  have d4 := cell_at z0 4
  simp only [List.getElem?_toArray, List.getElem?_cons_zero, List.getElem?_cons_succ] at d0 d1 d2 d3 d4
  have g0 := frozen_at z0 0
  have g1 := frozen_at z0 1
  have g2 := frozen_at z0 2
  have g3 := frozen_at z0 3
  have g4 := frozen_at z0 4
  have zlt := ltB z0
  have Z0 := hide z0
  clear z0 hW0
  have hs' : s.size ≤ 1099511627776 := by omega
  have f1 : ∀ w, Calls Tryd.prog 25 #[.string s, .int .u8 58, .int .i64 0] w fun e w' => e = .returned (.int .i64 (findL s.data.toList 58 0)) ∧ w' = w := fun w => refFind_calls s 58 0 w hs' (by omega)
  rcases hh with ha | ⟨a, ha, hh⟩
  · rw [ha] at f1
    replace f1 := hide f1
    clear ha
    go_enter Tryd.func11, Tryd.ntmps11
    go_wp2_with (first | (go_at_call_of 25 (Value.int .u8 58); rw [HW.out]; refine (f1.out _).mono ?_; rintro e w' ⟨rfl, rfl⟩))
    obtain ⟨W', hW', k0, k1, k2, k3, k4, hB'⟩ := parse_zero Z0.out hB (Nat.le_refl _)
    unfold put5 at hW'
    rw [hW']
    exact bodyPost_ret (v := .tuple #[.agg #[.int .i64 0, .int .i64 0, .slice none 0 0, .string ⟨#[]⟩, .string ⟨#[]⟩], .int .i64 2]) (by simp [results, Tryd.f11, go_sem, k0, k1, k2, k3, k4]) rfl ⟨_, rfl, zero_rec _, hB'⟩
  have hal := (cut_a ha).1
  rw [← Lib.size_eq] at hal
  have f2 : ∀ w, Calls Tryd.prog 25 #[.string s, .int .u8 32, .int .i64 (a : Int)] w fun e w' => e = .returned (.int .i64 (findL s.data.toList 32 a)) ∧ w' = w := fun w => refFind_calls s 32 a w hs' (by omega)
  rw [ha] at f1
  replace f1 := hide f1
  rcases hh with hb | ⟨b, hb, hh⟩
  · rw [hb] at f2
    replace f2 := hide f2
    clear ha hb
    go_enter Tryd.func11, Tryd.ntmps11
    go_wp2_with (first | (go_at_call_of 25 (Value.int .u8 58); rw [HW.out]; refine (f1.out _).mono ?_; rintro e w' ⟨rfl, rfl⟩) | (go_at_call_of 25 (Value.int .u8 32); refine (f2.out _).mono ?_; rintro e w' ⟨rfl, rfl⟩))
    obtain ⟨W', hW', k0, k1, k2, k3, k4, hB'⟩ := parse_zero Z0.out hB (Nat.le_refl _)
    unfold put5 at hW'
    rw [hW']
    exact bodyPost_ret (v := .tuple #[.agg #[.int .i64 0, .int .i64 0, .slice none 0 0, .string ⟨#[]⟩, .string ⟨#[]⟩], .int .i64 2]) (by simp [results, Tryd.f11, go_sem, k0, k1, k2, k3, k4]) rfl ⟨_, rfl, zero_rec _, hB'⟩
  have hbl := (cut_b ha hb).2.1
  rw [← Lib.size_eq] at hbl
  have f3 : ∀ w, Calls Tryd.prog 25 #[.string s, .int .u8 93, .int .i64 (b : Int)] w fun e w' => e = .returned (.int .i64 (findL s.data.toList 93 b)) ∧ w' = w := fun w => refFind_calls s 93 b w hs' (by omega)
  rw [hb] at f2
  replace f2 := hide f2
  by_cases hbn : b + 1 < s.size
  case neg =>
    clear hh ha hb f3
    have hbn' : (s.size : Int) ≤ (b : Int) + 1 := by omega
    clear hbn
    go_enter Tryd.func11, Tryd.ntmps11
    go_wp2_with (first | (go_at_call_of 25 (Value.int .u8 58); rw [HW.out]; refine (f1.out _).mono ?_; rintro e w' ⟨rfl, rfl⟩) | (go_at_call_of 25 (Value.int .u8 32); refine (f2.out _).mono ?_; rintro e w' ⟨rfl, rfl⟩))
    obtain ⟨W', hW', k0, k1, k2, k3, k4, hB'⟩ := parse_zero Z0.out hB (Nat.le_refl _)
    unfold put5 at hW'
    rw [hW']
    exact bodyPost_ret (v := .tuple #[.agg #[.int .i64 0, .int .i64 0, .slice none 0 0, .string ⟨#[]⟩, .string ⟨#[]⟩], .int .i64 2]) (by simp [results, Tryd.f11, go_sem, k0, k1, k2, k3, k4]) rfl ⟨_, rfl, zero_rec _, hB'⟩
  have hbi : s.data.toList[b + 1]? = some s[b + 1] := by
    have hbn2 : b + 1 < s.data.toList.length := by rw [← Lib.size_eq]; exact hbn
    rw [List.getElem?_eq_getElem hbn2]
    rfl
  rw [hbi, Option.some.injEq] at hh
  have hbn' : (b : Int) + 1 < (s.size : Int) := by omega
  rcases hh with hb9 | ⟨hb9, hh⟩
  · have hb9' : (((s[b + 1].toNat : Nat) : Int) != 91) = true := by
      rw [bne_iff_ne]
      intro e
      exact hb9 (UInt8.toNat_inj.1 (show s[b + 1].toNat = 91 by omega))
    replace hb9 := hide hb9
    replace hbi := hide hbi
    clear ha hb f3
    go_enter Tryd.func11, Tryd.ntmps11
    go_wp2_with (first | (go_at_call_of 25 (Value.int .u8 58); rw [HW.out]; refine (f1.out _).mono ?_; rintro e w' ⟨rfl, rfl⟩) | (go_at_call_of 25 (Value.int .u8 32); refine (f2.out _).mono ?_; rintro e w' ⟨rfl, rfl⟩))
    obtain ⟨W', hW', k0, k1, k2, k3, k4, hB'⟩ := parse_zero Z0.out hB (Nat.le_refl _)
    unfold put5 at hW'
    rw [hW']
    exact bodyPost_ret (v := .tuple #[.agg #[.int .i64 0, .int .i64 0, .slice none 0 0, .string ⟨#[]⟩, .string ⟨#[]⟩], .int .i64 2]) (by simp [results, Tryd.f11, go_sem, k0, k1, k2, k3, k4]) rfl ⟨_, rfl, zero_rec _, hB'⟩
  have hb9' : (((s[b + 1].toNat : Nat) : Int) != 91) = false := by
    rw [hb9]
    rfl
  replace hb9 := hide hb9
  replace hbi := hide hbi
  rcases hh with hc | ⟨c, hc, hh⟩
  · rw [hc] at f3
    replace f3 := hide f3
    clear ha hb hc
    go_enter Tryd.func11, Tryd.ntmps11
    go_wp2_with (first | (go_at_call_of 25 (Value.int .u8 58); rw [HW.out]; refine (f1.out _).mono ?_; rintro e w' ⟨rfl, rfl⟩) | (go_at_call_of 25 (Value.int .u8 32); refine (f2.out _).mono ?_; rintro e w' ⟨rfl, rfl⟩) | (go_at_call_of 25 (Value.int .u8 93); refine (f3.out _).mono ?_; rintro e w' ⟨rfl, rfl⟩))
    obtain ⟨W', hW', k0, k1, k2, k3, k4, hB'⟩ := parse_zero Z0.out hB (Nat.le_refl _)
    unfold put5 at hW'
    rw [hW']
    exact bodyPost_ret (v := .tuple #[.agg #[.int .i64 0, .int .i64 0, .slice none 0 0, .string ⟨#[]⟩, .string ⟨#[]⟩], .int .i64 2]) (by simp [results, Tryd.f11, go_sem, k0, k1, k2, k3, k4]) rfl ⟨_, rfl, zero_rec _, hB'⟩
  have hcl := (cut_c hb hc).2.1
  rw [← Lib.size_eq] at hcl
  have f4 : ∀ w, Calls Tryd.prog 25 #[.string s, .int .u8 61, .int .i64 (c : Int)] w fun e w' => e = .returned (.int .i64 (findL s.data.toList 61 c)) ∧ w' = w := fun w => refFind_calls s 61 c w hs' (by omega)
  rw [hc] at f3
  replace f3 := hide f3
  by_cases hcn : c + 1 < s.size
  case neg =>
    clear hh ha hb hc f4
    have hcn' : (s.size : Int) ≤ (c : Int) + 1 := by omega
    clear hcn
    go_enter Tryd.func11, Tryd.ntmps11
    go_wp2_with (first | (go_at_call_of 25 (Value.int .u8 58); rw [HW.out]; refine (f1.out _).mono ?_; rintro e w' ⟨rfl, rfl⟩) | (go_at_call_of 25 (Value.int .u8 32); refine (f2.out _).mono ?_; rintro e w' ⟨rfl, rfl⟩) | (go_at_call_of 25 (Value.int .u8 93); refine (f3.out _).mono ?_; rintro e w' ⟨rfl, rfl⟩))
    obtain ⟨W', hW', k0, k1, k2, k3, k4, hB'⟩ := parse_zero Z0.out hB (Nat.le_refl _)
    unfold put5 at hW'
    rw [hW']
    exact bodyPost_ret (v := .tuple #[.agg #[.int .i64 0, .int .i64 0, .slice none 0 0, .string ⟨#[]⟩, .string ⟨#[]⟩], .int .i64 2]) (by simp [results, Tryd.f11, go_sem, k0, k1, k2, k3, k4]) rfl ⟨_, rfl, zero_rec _, hB'⟩
  have hci : s.data.toList[c + 1]? = some s[c + 1] := by
    have hcn2 : c + 1 < s.data.toList.length := by rw [← Lib.size_eq]; exact hcn
    rw [List.getElem?_eq_getElem hcn2]
    rfl
  rw [hci, Option.some.injEq] at hh
  have hcn' : (c : Int) + 1 < (s.size : Int) := by omega
  rcases hh with hc9 | ⟨hc9, hd⟩
  · have hc9' : (((s[c + 1].toNat : Nat) : Int) != 32) = true := by
      rw [bne_iff_ne]
      intro e
      exact hc9 (UInt8.toNat_inj.1 (show s[c + 1].toNat = 32 by omega))
    replace hc9 := hide hc9
    replace hci := hide hci
    clear ha hb hc f4
    go_enter Tryd.func11, Tryd.ntmps11
    go_wp2_with (first | (go_at_call_of 25 (Value.int .u8 58); rw [HW.out]; refine (f1.out _).mono ?_; rintro e w' ⟨rfl, rfl⟩) | (go_at_call_of 25 (Value.int .u8 32); refine (f2.out _).mono ?_; rintro e w' ⟨rfl, rfl⟩) | (go_at_call_of 25 (Value.int .u8 93); refine (f3.out _).mono ?_; rintro e w' ⟨rfl, rfl⟩))
    obtain ⟨W', hW', k0, k1, k2, k3, k4, hB'⟩ := parse_zero Z0.out hB (Nat.le_refl _)
    unfold put5 at hW'
    rw [hW']
    exact bodyPost_ret (v := .tuple #[.agg #[.int .i64 0, .int .i64 0, .slice none 0 0, .string ⟨#[]⟩, .string ⟨#[]⟩], .int .i64 2]) (by simp [results, Tryd.f11, go_sem, k0, k1, k2, k3, k4]) rfl ⟨_, rfl, zero_rec _, hB'⟩
  have hc9' : (((s[c + 1].toNat : Nat) : Int) != 32) = false := by
    rw [hc9]
    rfl
  replace hc9 := hide hc9
  replace hci := hide hci
  rw [hd] at f4
  replace f4 := hide f4
  clear ha hb hc hd
  go_enter Tryd.func11, Tryd.ntmps11
  go_wp2_with (first | (go_at_call_of 25 (Value.int .u8 58); rw [HW.out]; refine (f1.out _).mono ?_; rintro e w' ⟨rfl, rfl⟩) | (go_at_call_of 25 (Value.int .u8 32); refine (f2.out _).mono ?_; rintro e w' ⟨rfl, rfl⟩) | (go_at_call_of 25 (Value.int .u8 93); refine (f3.out _).mono ?_; rintro e w' ⟨rfl, rfl⟩) | (go_at_call_of 25 (Value.int .u8 61); refine (f4.out _).mono ?_; rintro e w' ⟨rfl, rfl⟩))
  obtain ⟨W', hW', k0, k1, k2, k3, k4, hB'⟩ := parse_zero Z0.out hB (Nat.le_refl _)
  unfold put5 at hW'
  rw [hW']
  exact bodyPost_ret (v := .tuple #[.agg #[.int .i64 0, .int .i64 0, .slice none 0 0, .string ⟨#[]⟩, .string ⟨#[]⟩], .int .i64 2]) (by simp [results, Tryd.f11, go_sem, k0, k1, k2, k3, k4]) rfl ⟨_, rfl, zero_rec _, hB'⟩
end Go.Proofs.YthpahkcncjieiaaDoor
